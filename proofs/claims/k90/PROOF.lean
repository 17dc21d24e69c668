import PyProof.Rows.All
import Wide.All
import OpenK.AllK
import Wide.FinOn
import HandS.ForMost
import HandS.ExcInit
import HandS.Defaults
import HandS.WordsExc
import HandS.Wide
import HandS.EndBits
import HandS.Head0
import HandS.Head1
import HandS.Head2
import HandS.HeadEnd
import HandS.HeadHook1
import HandS.HeadHook2
import KE.KExcInit
import KE.KExcIs
import PyProof.ExcBaseAll.ValueError
import PyProof.ExcBaseAll.LookupError
import PyProof.ReprRoads
import HandS.Walk
import PyProof.FitsInt
import PySem.Challenge.RW_rowsinplace_k90_errors_made
set_option Elab.async false
set_option linter.all false
set_option maxRecDepth 100000
set_option maxHeartbeats 2000000
/-! A hook of our own: one Bool over the written part, and the defs by their places. -/
namespace KX
open PySem PySem.Spec PyProof.Rows L2 He
def lookX (n : Nat) (chk : PySem.W.Frag → Bool) (fn : List DefD) (g : Addr → Option Obj) : Bool × List FnW :=
  let K := frG g (asD g n)
  (chk K && fn.all fun d => d.ok K, fn.map fun d => fnW K d.at_)
def SaysX (chk : PySem.W.Frag → Bool) (fn : List DefD) (K : PySem.W.Frag) : Prop := chk K = true ∧ (fn.all fun d => d.ok K) = true ∧ fn.map (fun d => fnW K d.at_) = fn.map DefD.val
def hookX (n : Nat) (chk : PySem.W.Frag → Bool) (fn : List DefD) : PySem.W.Hook where
  α := Bool × List FnW
  obs := fun s => lookX n chk fn s.heap.get?
  val := fun _ => (true, fn.map DefD.val)
  says := fun _ h => ∃ K : PySem.W.Frag, K.In h ∧ SaysX chk fn K
  of := fun _ s e => by
    refine ⟨frG s.heap.get? (asD s.heap.get? n), frG_in, ?_⟩
    have e1 := congrArg Prod.fst e
    have e2 := congrArg Prod.snd e
    obtain ⟨a, b⟩ := Bool.and_eq_true_iff.mp e1
    exact ⟨a, b, e2⟩
  keeps := fun _ _ _ h k => by
    obtain ⟨K, hK, c⟩ := h
    exact ⟨K, PySem.W.Frag.In.keeps hK k, c⟩
theorem lookX_eq {n : Nat} {chk : PySem.W.Frag → Bool} {fn : List DefD} {g : Addr → Option Obj} {s : Shared} (h : ∀ a, g a = s.heap.get? a) : lookX n chk fn g = (hookX n chk fn).obs s := by
  obtain rfl : g = s.heap.get? := funext h
  rfl
theorem SaysX.fd {chk : PySem.W.Frag → Bool} {fn : List DefD} {K : PySem.W.Frag} (c : SaysX chk fn K) (i : Nat) {d : DefD} (h : fn[i]? = some d := by rfl) :
    ∃ fd, FunD K d.name d.qual d.params d.body d.scope (d.dvs K) (d.kws K) (fAd K d.at_) fd := by
  obtain ⟨_, c2, c3⟩ := c
  have q : (fn.map fun d => fnW K d.at_)[i]? = (fn.map DefD.val)[i]? := congrArg (·[i]?) c3
  rw [List.getElem?_map, List.getElem?_map, h] at q
  exact DefD.funD (Option.some.inj q) (List.all_eq_true.mp c2 d (List.mem_of_getElem? h))
end KX

set_option Elab.async false
set_option linter.all false
set_option maxRecDepth 100000
set_option maxHeartbeats 2000000
/-! What the written part says of an own exception class with an __init__ of its own, as one Bool. -/
namespace KX
open PySem PySem.Spec PyProof.Rows L2 He
structure ExK (K : PySem.W.Frag) (C : Addr) (bmB : List Value) (newId : String) : Prop where
  init : PySem.W.excInitIn K C bmB newId = true
  over : PySem.W.excOver K C bmB = true
  hd : PySem.W.hasDictIn K C = true
  sa : PySem.W.findIn K (.ref C) "__setattr__" = some (some (.builtin "object.__setattr__"))
  ga : PySem.W.findIn K (.ref C) "__getattribute__" = some (some (.builtin "BaseException.__getattribute__"))
  gg : PySem.W.findIn K (.ref C) "__getattr__" = some none
  exC : PySem.W.subIn K (.ref C) (.type "BaseException") = some true
  kC : PySem.W.keepIn K (.ref C) = true
  ha : PySem.W.findIn K (.ref C) "__class__" = some (some (.builtin "object.__class__"))
  hm : PySem.W.mroIn K C (.type "object") = some true
def exkB (K : PySem.W.Frag) (C : Addr) (bmB : List Value) (newId : String) : Bool :=
  PySem.W.excInitIn K C bmB newId && (PySem.W.excOver K C bmB && (PySem.W.hasDictIn K C && (eqO (PySem.W.findIn K (.ref C) "__setattr__") (some (some (.builtin "object.__setattr__")))
  && (eqO (PySem.W.findIn K (.ref C) "__getattribute__") (some (some (.builtin "BaseException.__getattribute__"))) && (eqO (PySem.W.findIn K (.ref C) "__getattr__") (some none)
  && (decide (PySem.W.subIn K (.ref C) (.type "BaseException") = some true) && (PySem.W.keepIn K (.ref C) && (eqO (PySem.W.findIn K (.ref C) "__class__") (some (some (.builtin "object.__class__"))) && decide (PySem.W.mroIn K C (.type "object") = some true)))))))))
theorem exkB_ok {K : PySem.W.Frag} {C : Addr} {bmB : List Value} {newId : String} (h : exkB K C bmB newId = true) : ExK K C bmB newId := by
  obtain ⟨h1, h⟩ := Bool.and_eq_true_iff.mp h
  obtain ⟨h2, h⟩ := Bool.and_eq_true_iff.mp h
  obtain ⟨h3, h⟩ := Bool.and_eq_true_iff.mp h
  obtain ⟨h4, h⟩ := Bool.and_eq_true_iff.mp h
  obtain ⟨h5, h⟩ := Bool.and_eq_true_iff.mp h
  obtain ⟨h6, h⟩ := Bool.and_eq_true_iff.mp h
  obtain ⟨h7, h⟩ := Bool.and_eq_true_iff.mp h
  obtain ⟨h8, h⟩ := Bool.and_eq_true_iff.mp h
  obtain ⟨h9, hA⟩ := Bool.and_eq_true_iff.mp h
  exact ⟨h1, h2, h3, eqO_ok h4, eqO_ok h5, eqO_ok h6, of_decide_eq_true h7, h8, eqO_ok h9, of_decide_eq_true hA⟩
end KX

set_option Elab.async false
set_option linter.all false
set_option maxRecDepth 100000
set_option maxHeartbeats 2000000
/-! Own exception classes over any built-in base, with an __init__ that stores: made as values, read, asked by isinstance. -/
namespace KX
open PySem PySem.Spec PyProof.Rows L2
/-- what is known of the built-in base -/
def Bs (bmB : List Value) (newId : String) : Prop := ∃ B initId, ExcBaseFacts B newId initId bmB ∧ StoreFacts B bmB "object.__setattr__" "object"
theorem bsV : Bs [.type "ValueError", .type "Exception", .type "BaseException", .type "object"] "ValueError.__new__" := ⟨_, _, PySem.F.excBase_ValueError, PySem.F.store_ValueError⟩
theorem bsL : Bs [.type "LookupError", .type "Exception", .type "BaseException", .type "object"] "LookupError.__new__" := ⟨_, _, PySem.F.excBase_LookupError, PySem.F.store_LookupError⟩
section
open Builtin Builtin.ObjectAttr
variable {prog : Program} {w : World} {A : Around} {R : Result → Shared → Prop} {hp : Heap} {g : Array GenState} {dw : Drawn} {tt : Nat} {os : OsState} {K : PySem.W.Frag} {C x t1 : Addr} {bmB : List Value} {newId : String} {f : Str} {tk : Tok} {v : Value}
/-- the first store lays the dict -/
theorem put_first (T : ExK K C bmB newId) (bs : Bs bmB newId) (X : K.In hp) (hx : hp.get? x = some ({ cls := .ref C, dict := none, data := .fields #[.ref t1, .none, .none, .none, .bool false, .none] } : Obj)) (hno : PySem.W.findIn K (.ref C) f = some none)
    (hq : ∀ h' tk' dx, (∀ b o, b ≠ x → hp.get? b = some o → h'.get? b = some o) → hp.objs.size ≤ dx → dx ≠ x → h'.get? x = some ({ cls := .ref C, dict := some dx, data := .fields #[.ref t1, .none, .none, .none, .bool false, .none] } : Obj) →
      h'.Ns1 dx (fun y => if y = f then some v else none) → R (.ok (.ret .none)) ⟨h', g, dw, tk', os⟩) :
    codeAny (model prog w) A (.call (.builtin "object.__setattr__") ⟨[.ref x, .str f tk, v], []⟩) R ⟨hp, g, dw, tt, os⟩ := by
  obtain ⟨B, iid, _, SF⟩ := bs
  have hxs : x ≠ hp.objs.size := Nat.ne_of_lt (Heap.lt_size hx)
  refine PySem.W.osa_openX (s := ⟨hp, g, dw, tt, os⟩) (od := none) (r := none) SF X ⟨hx, rfl, rfl, trivial⟩ T.over (by unfold PySem.W.takerIn; rw [hno] <;> rfl) fun b => ?_
  obtain ⟨cd, hc, hd⟩ := PySem.W.any_some T.hd
  have hcls : PySem.W.Looks (model prog w) hp (classData C) cd := PySem.W.looks_clsIn X hc
  refine wpAny_bind (wpAny_pure (wpAny_bind (PySem.W.instanceDict_exc (s := ⟨hp, g, dw, tt, os⟩) hx hcls hd ?_)))
  refine HandSPX.store_in_new ?_ ?_
  · exact ⟨_, #[], _, (Heap.get?_update_ne _ _ _ _ hxs.symm).trans (Heap.get?_push_at rfl rfl), rfl, fun e he => absurd he (by simp), fun _ => rfl⟩
  · intro h' tk' hn' hs
    have hx1 : (hp.push { cls := .type "dict", data := .dict #[] }).get? x = _ := Heap.get?_push_of_some _ hx
    refine hq h' tk' hp.objs.size (fun b o hb ho => ?_) (Nat.le_refl _) hxs.symm ?_ hn'
    · have z := hs.2 b (Nat.ne_of_lt (Heap.lt_size ho))
      exact z.trans ((Heap.get?_update_ne _ _ _ _ hb).trans (Heap.get?_push_of_some _ ho))
    · exact (hs.2 x hxs).trans (Heap.get?_update_self _ hx1 rfl)
/-- a later one -/
theorem put_more {dx : Addr} {m0 : Str → Option Value} {nl : List Str} (T : ExK K C bmB newId) (bs : Bs bmB newId) (X : K.In hp) (hx : hp.get? x = some ({ cls := .ref C, dict := some dx, data := .fields #[.ref t1, .none, .none, .none, .bool false, .none] } : Obj))
    (hns : hp.Ns1 dx m0) (hw : Within m0 nl) (hz : nl.length ≤ 1000) (hno : PySem.W.findIn K (.ref C) f = some none)
    (hq : ∀ h' tk', (∀ b o, b ≠ dx → hp.get? b = some o → h'.get? b = some o) → h'.Ns1 dx (fun y => if y = f then some v else m0 y) → R (.ok (.ret .none)) ⟨h', g, dw, tk', os⟩) :
    codeAny (model prog w) A (.call (.builtin "object.__setattr__") ⟨[.ref x, .str f tk, v], []⟩) R ⟨hp, g, dw, tt, os⟩ := by
  obtain ⟨B, iid, _, SF⟩ := bs
  obtain ⟨oD, esD, epD, hoD, hdD, _⟩ := hns.count hw
  refine PySem.W.osa_openX (s := ⟨hp, g, dw, tt, os⟩) (od := some oD) (r := none) SF X ⟨hx, rfl, rfl, hoD⟩ T.over (by unfold PySem.W.takerIn; rw [hno] <;> rfl) fun b => ?_
  obtain ⟨cd, hc, hd⟩ := PySem.W.any_some T.hd
  have hcls : PySem.W.Looks (model prog w) hp (classData C) cd := PySem.W.looks_clsIn X hc
  obtain ⟨c1, c2, c3, c4, c5, c6, c7, c8, c9, cA, cB⟩ := cd
  dsimp only at hd
  subst hd
  show wpAny _ _ (storeInOwnDict _ _ _ _ _ _) _ _ _
  unfold storeInOwnDict ownDictForStores
  repeat (first | with_reducible refine PySem.OEX.store_in_old hns hw hz ?_ | with_reducible refine wpAny_loadPart_at hx ?_ | with_reducible refine hcls.at ?_ | wp_step)
  intro h' tk' hn' hs
  exact hq h' tk' (fun b o hb ho => (hs.2 b hb).trans ho) hn'
end
section
variable {X : Cx} {pins : List (Addr × Obj)} {σ : L2.St} {H : Hp} {s : Shared} {a C dx : Addr} {f : Str} {y : V} {u : Value} {fs : List (Str × V)} {Q : Unit → Shared → Prop} {E : Value → Shared → Prop} {A : Around} {bmB : List Value} {newId : String}
/-- an exception's object gets a dict that is new -/
theorem inv_dict {h' : Heap} {tk : Nat} {t1 : Addr} {od : HO} (I : Inv X pins σ H s) (e : H a = some (exo a C none)) (k : ∀ b o, b ≠ a → s.heap.get? b = some o → h'.get? b = some o) (dn : s.heap.objs.size ≤ dx) (dne : dx ≠ a)
    (hx : h'.get? a = some ({ cls := .ref C, dict := some dx, data := .fields #[.ref t1, .none, .none, .none, .bool false, .none] } : Obj)) (new : ∀ G : Hp, ObjOk X.prog X.w G h' dx od) :
    Inv X pins σ (upd (upd H dx od) a (exo a C (some dx))) { s with heap := h', toks := tk } := by
  have hnd : H dx = none := I.hok.fresh dn
  have hH : ∀ b, b ≠ a → b ≠ dx → upd (upd H dx od) a (exo a C (some dx)) b = H b := fun b n1 n2 => (upd_ne n1).trans (upd_ne n2)
  have na : ∀ b, H b = none → b ≠ a := fun b n z => by
    subst z
    exact nomatch n.symm.trans e
  have nd : ∀ b o, s.heap.get? b = some o → b ≠ dx := fun b o q => Nat.ne_of_lt (Nat.lt_of_lt_of_le (Heap.lt_size q) dn)
  have nk : ∀ b o, H b = some o → o ≠ exo a C none → upd (upd H dx od) a (exo a C (some dx)) b = some o := fun b o q n => by
    rw [hH b (ne_of q e n) (ne_of_none q hnd)]
    exact q
  refine I.un ⟨fun b o q n _ _ => k b o (na b n) q, fun b o q n _ _ => ⟨o.slots, k b o (na b n) q⟩, fun b o q n _ => ?_, fun b o q _ => ?_, fun b xs q => nk b _ q (Ne.symm exo_tup), fun b o v q => nk b _ q (Ne.symm exo_frz), fun b ps q => ⟨#[], ?_⟩⟩ fun b o q => ?_
  · rw [hH b (na b n) (nd b o q)]
    exact n
  · by_cases hb : b = a
    · subst hb
      exact ⟨_, hx⟩
    · exact ⟨o, k b o hb q⟩
  · rw [nk b _ q (Ne.symm exo_tbl)]
    simp
  · by_cases hb : b = a
    · subst hb
      obtain rfl := Option.some.inj (upd_same.symm.trans q)
      exact exo_ok hx
    · rw [upd_ne hb] at q
      by_cases hd : b = dx
      · subst hd
        obtain rfl := Option.some.inj (upd_same.symm.trans q)
        exact new _
      · rw [upd_ne hd] at q
        refine (I.hok b o q).stay (fun c v hc z => k c v ?_ z) (fun c hc => nk c _ hc (Ne.symm exo_own)) fun c xs hc => nk c _ hc (Ne.symm exo_tup)
        rcases hc with rfl | hc
        · exact hb
        · exact ne_of hc e (Ne.symm exo_own)
/-- self.f = y, the first one -/
theorem st_first (T : ExK X.K C bmB newId) (bs : Bs bmB newId) (I : Inv X pins σ H s) (e : H a = some (exo a C none)) (hno : PySem.W.findIn X.K (.ref C) f = some none) (ry : RelV y u)
    (h : ∀ d s', H d = none → d ≠ a → Inv X pins σ (upd (upd H d (exd d [(f, y)])) a (exo a C (some d))) s' → Q () s') : wpAny (model X.prog X.w) A (setAttr (.ref a) f u) Q E s := by
  obtain ⟨t1, ho⟩ := exo_at I.hok e
  obtain ⟨hp, g, d, t, os⟩ := s
  refine PySem.W.set_plain (od := none) I.kIn ⟨ho, rfl, rfl, trivial⟩ T.sa ?_
  refine put_first T bs I.kIn ho hno fun h' tk' dx k dn dne hx hn => ?_
  exact h dx _ (I.hok.fresh dn) dne (inv_dict I e k dn dne hx fun G => exd_ok hn (relO_put (fs := []) ry fun _ => True.intro))
/-- self.f = y, a further one -/
theorem st_more (T : ExK X.K C bmB newId) (bs : Bs bmB newId) (I : Inv X pins σ H s) (e : H a = some (exo a C (some dx))) (ed : H dx = some (exd dx fs)) (hl : fs.length ≤ 900) (hno : PySem.W.findIn X.K (.ref C) f = some none) (ry : RelV y u)
    (h : ∀ s', Inv X pins σ (upd H dx (exd dx ((f, y) :: fs))) s' → Q () s') : wpAny (model X.prog X.w) A (setAttr (.ref a) f u) Q E s := by
  obtain ⟨t1, ho⟩ := exo_at I.hok e
  obtain ⟨mA, hns, rel⟩ := exd_at I.hok ed
  have hw := within_of rel
  obtain ⟨hp, g, d, t, os⟩ := s
  obtain ⟨oD, _, _, hoD, _⟩ := hns.count hw
  refine PySem.W.set_plain (od := some oD) I.kIn ⟨ho, rfl, rfl, hoD⟩ T.sa ?_
  refine put_more T bs I.kIn ho hns hw (by rw [List.length_map]; omega) hno fun h' tk' k hn => ?_
  have hd : ∃ o, h'.get? dx = some o := let ⟨o, _, _, z, _⟩ := hn; ⟨o, z⟩
  exact h _ (I.write (t' := tk') (e := dx) (by rw [ed]; exact True.intro) (.inl rfl) k hd (exd_ok hn (relO_put ry rel)))
end
/-- self.f = e -/
def tSt (K : PySem.W.Frag) (f : Str) (to te : TE) : TS := fun D σ H => te σ H fun y H1 => to σ H1 fun x H2 => ∃ (a C : Addr) (bmB : List Value) (newId : String), x = .ref a ∧ ExK K C bmB newId ∧ Bs bmB newId ∧ PySem.W.findIn K (.ref C) f = some none ∧
  ((H2 a = some (exo a C none) ∧ ∀ d, H2 d = none → d ≠ a → D.nx σ (upd (upd H2 d (exd d [(f, y)])) a (exo a C (some d)))) ∨
    ∃ (d : Addr) (fs : List (Str × V)), H2 a = some (exo a C (some d)) ∧ H2 d = some (exd d fs) ∧ fs.length ≤ 900 ∧ D.nx σ (upd H2 d (exd d ((f, y) :: fs))))
/-- C(e, ..) as a value -/
def tMkV (C : Addr) (sp : Sp) (ta : TA) : TE := fun σ H Q => ta σ H fun vs H1 => vs.length ≤ 1000 ∧ ∀ a, H1 a = none → sp (.ref a :: vs) (upd H1 a (exo a C none)) (fun v H2 => v = .non ∧ Q (.ref a) H2) (fun _ _ _ => False)
/-- e.f of an own exception -/
def tXv (K : PySem.W.Frag) (f : Str) (te : TE) : TE := fun σ H Q => te σ H fun x H1 => ∃ (a C d : Addr) (bmB : List Value) (newId : String) (fs : List (Str × V)) (v : V), x = .ref a ∧ H1 a = some (exo a C (some d)) ∧ H1 d = some (exd d fs) ∧ ExK K C bmB newId ∧ PySem.W.findIn K (.ref C) f = some none ∧ fs.lookup f = some v ∧ Q v H1
section
variable {X : Cx} {o e : Expr} {es : List Expr} {to te : TE} {ta : TA} {f : Str} {p p' p1 p2 pos : Pos}
theorem ps_st (ho : PE X o to) (he : PE X e te) (hs : swapsWith e (some (.Attribute o f p')) pos.line X.env = pure false := by rfl) : PS X (.Assign [.Attribute o f p'] e pos) (tSt X.K f to te) := by
  refine ⟨fun pins s σ H D I h => plainObj_wpAny_Assign_Attribute (thn (he.run pins s σ H _ I h) fun v s1 ⟨y, H1, I1, r1, q1⟩ => thn (ho.run pins s1 σ H1 _ I1 q1) fun u s2 hh => ?_) hs⟩
  obtain ⟨x, H2, I2, r2, a, C, bmB, nid, rfl, T, bs, hno, q⟩ := hh
  obtain rfl : u = Value.ref a := r2
  rcases q with ⟨ea, q⟩ | ⟨d, fs, ea, ed, hl, q⟩
  · exact st_first T bs I2 ea hno r1 fun d s' n ne J => ⟨σ, _, J, q d n ne⟩
  · exact st_more T bs I2 ea ed hl hno r1 fun s' J => ⟨σ, _, J, q⟩
theorem pe_mkv {CX : CXT} {x : Str} {C fI : Addr} {k : Nat} {fd : FuncData} {ps : List Str} {sp : Sp} {bmB : List Value} {newId : String} (T : ExK X.K C bmB newId) (bs : Bs bmB newId) (iC : PySem.W.findIn X.K (.ref C) "__init__" = some (some (.ref fI))) (tI : PySem.W.isFn X.K (.ref fI) = true)
    (G : FnOk X.prog X.w X.K X.mg X.base CX k fI fd ps sp) (hr : Room (k + 1) X.A) (hb : Binds X.K fd ps []) (hx : Passes CX X (fun _ _ _ => False)) (hg : Gl X x) (hm : X.mg x = some (.ref C)) (ha : PA X (e :: es) ta)
    (hdb : (x == ("__debug__" : Str)) = false := by decide) (he : starEach (e :: es) X.env = (false, eval e X.env) :: starEach es X.env := by rfl) (hpl : (backTo pos (starEach es X.env)).any (·.1) = false := by rfl) :
    PE X (.Call (.Name x p) (e :: es) [] pos) (tMkV C sp ta) := by
  refine ⟨fun pins s σ H Q I h => ?_⟩
  refine wpAny_Call_Name_kw (ld_glob I hg hm ?_ hdb)
  refine PySem.W.callWith_K (h₀ := X.base) I.ok.mod.kin T.kC (thn (ha.run pos pins s σ H _ I h) fun us s1 hh => ?_) he hpl
  obtain ⟨vs, H1, I1, r1, hz, q1⟩ := hh
  refine ⟨I1.kIn, ?_⟩
  obtain ⟨B, iid, FB, SF⟩ := bs
  obtain ⟨nm, N', qn, bs', bm, hdct, sn, sub, ab, col, dd, k0, k1, k2, k3, k5, hC, hT⟩ := PySem.W.excInit_of I1.kIn T.init
  obtain ⟨oI, hoI, hcI⟩ : ∃ oI, s1.heap.get? fI = some oI ∧ oI.cls = .type "function" := by
    obtain ⟨oo, h1, h2⟩ := Option.map_eq_some_iff.mp (show (X.K.lookup fI).map (·.cls) = some (.type "function") from beq_iff_eq.mp tI)
    exact ⟨oo, I1.kIn _ _ h1, h2⟩
  obtain ⟨hp, g, dr, tk, os⟩ := s1
  have kk : ∀ b u, hp.get? b = some u → ((hp.push (PySem.W.kdv_tup us)).push (PySem.HandSPX.excO C hp.objs.size)).get? b = some u := fun b u z => Heap.get?_push_of_some _ (Heap.get?_push_of_some _ z)
  have hget : ((hp.push (PySem.W.kdv_tup us)).push (PySem.HandSPX.excO C hp.objs.size)).get? (hp.objs.size + 1) = some (PySem.HandSPX.excO C hp.objs.size) := by heap_get
  have I2 : Inv X pins σ (upd H1 (hp.objs.size + 1) (exo (hp.objs.size + 1) C none)) ⟨(hp.push (PySem.W.kdv_tup us)).push (PySem.HandSPX.excO C hp.objs.size), g, dr, tk, os⟩ := I1.laid (t' := tk) kk (Nat.le_succ _) (exo_ok hget)
  have hq := q1 (hp.objs.size + 1) (I1.hok.fresh (Nat.le_succ _))
  have r2 : Vals (V.ref (hp.objs.size + 1) :: vs) (Value.ref (hp.objs.size + 1) :: us) := .cons rfl r1
  have hl : (Value.ref (hp.objs.size + 1) :: us ++ []).length = ps.length := by
    rw [List.append_nil, ← r2.length]
    exact G.len _ _ _ _ hq
  have hus : us.length ≤ sizeLine := by
    rw [← Paired.length r1, sizeLine_eq]
    omega
  have hbi := hb _ (Value.ref (hp.objs.size + 1) :: us) I2.kIn hl
  rw [List.append_nil] at hbi
  refine wpAny_call (PySem.HandSPX.call_own FB hT hC (PySem.W.looks_findIn I1.kIn iC) (fun self => PySem.W.exc_bind hoI hcI self) hus (codeAny_mono (G.run _ X.stack _ _ _ _ _ _ (fun _ _ _ => False) (hr.make C us []) (I2.env0.make C us []) hbi r2 hq) fun r s' hq' => ?_))
  cases r with
  | error er => exact hx pins σ _ _ er s' I2 hq'
  | ok fl =>
    cases fl with
    | ret u =>
      obtain ⟨v, H2, os2, bare2, un2, hok2, rv, rfl, q2⟩ := hq'
      exact ⟨rv, .ref (hp.objs.size + 1), H2, I2.call' (ch := []) os2 un2 hok2 bare2 (fun b z => absurd z (by simp)), rfl, q2⟩
    | next => exact False.elim hq'
    | brk => exact False.elim hq'
    | cont => exact False.elim hq'
theorem pe_xv (he : PE X e te) (hb : attributeBase e f X.env (eval e X.env) = eval e X.env := by rfl) : PE X (.Attribute e f pos) (tXv X.K f te) := by
  refine ⟨fun pins s σ H Q I h => attr_of hb (thn (he.run pins s σ H _ I h) fun u s1 hh => ?_)⟩
  obtain ⟨x, H1, I1, rx, a, C, d, bmB, nid, fs, v, rfl, ea, ed, T, hno, l, q⟩ := hh
  obtain rfl : u = Value.ref a := rx
  obtain ⟨t1, ho⟩ := exo_at I1.hok ea
  obtain ⟨mA, hns, rel⟩ := exd_at I1.hok ed
  obtain ⟨od, h1, h2⟩ := lookIn_ns hns
  obtain ⟨u, hu, ru⟩ := RelO.some_of (v := v) (o := mA f) (by rw [← l]; exact rel f)
  exact HandSPX.exc_get I1.kIn ⟨ho, rfl, rfl, h1⟩ T.ga T.gg T.exC (PySem.W.findObj_own T.hd hno rfl (by rw [h2, hu])) (handed_of ru) ⟨v, H1, I1.tok _, ru, q⟩
end
end KX

set_option Elab.async false
set_option linter.all false
set_option maxRecDepth 100000
set_option maxHeartbeats 2000000
/-! repr of nested data where no repr is running yet; isinstance of an own exception; defs that want to know that no repr is running. -/
namespace KX
open PySem PySem.Spec PyProof.Rows L2
/-- repr(data) -/
def rRepr (K : PySem.W.Frag) : List V → Hp → VK → Prop := fun xs H Q => ∃ (a : Addr) (d : PyData), xs = [.ref a] ∧ Dp K H (.ref a) d ∧ d.showable = true ∧ d.hasDict = false ∧ d.depth ≤ 8 ∧ d.shown.length ≤ sizeLine ∧ Q (.str d.shown) H
theorem call_repr {X : Cx} (hg : X.A.guards = some []) (hu : X.A.units + 10 < cLine) : CallR X (.builtin "repr") (rRepr X.K) := by
  intro pins s σ H xs us Q I r h
  obtain ⟨a, d, rfl, hd, h1, h2, h3, h4, q⟩ := h
  obtain ⟨u, rfl, ru⟩ := vals1 r
  obtain rfl : u = Value.ref a := ru
  obtain ⟨as, rd⟩ := Dp.reads I d _ _ hd rfl
  exact repr_of_reads' rd h1 (PyData.noDict_hsm h2) hg (by omega) (fun _ _ e => e) (fun h' u tk hk => ⟨.str d.shown, H, I.kept (t' := tk) hk, ⟨_, rfl⟩, q⟩) h4
/-- isinstance(e, c) of an own exception e -/
def rIsX (K : PySem.W.Frag) : List V → Hp → VK → Prop := fun xs H Q => ∃ (a C d : Addr) (bmB : List Value) (nid : String) (fs : List (Str × V)) (c : V) (cv : Value) (b : Bool), xs = [.ref a, c] ∧ H a = some (exo a C (some d)) ∧ H d = some (exd d fs) ∧ ExK K C bmB nid ∧
  PySem.W.specialIn K (.builtin "object.__class__") "__get__" = some (some (.builtin "getset_descriptor.__get__")) ∧ PySem.W.takesIn K (.builtin "object.__class__") = some true ∧ (∀ u, RelV c u → u = cv) ∧ PySem.W.kitOne K (.ref C) cv = some b ∧ Q (.bl b) H
theorem call_isX {X : Cx} : CallR X (.builtin "isinstance") (rIsX X.K) := by
  intro pins s σ H xs us Q I r h
  obtain ⟨a, C, d, bmB, nid, fs, c, cv, b, rfl, ea, ed, T, sp, tk, hcv, e, q⟩ := h
  cases r with
  | cons rx rr => cases rr with
    | cons rt rr =>
      cases rr
      cases rx
      obtain rfl := hcv _ rt
      obtain ⟨t1, ho⟩ := exo_at I.hok ea
      obtain ⟨mA, hns, rel⟩ := exd_at I.hok ed
      obtain ⟨od, h1, _⟩ := lookIn_ns hns
      obtain ⟨cd, hc, _⟩ := PySem.W.any_some T.hd
      exact PySem.W.kia_one (PySem.W.kitx_exc (od := some od) (by rw [hc] <;> rfl) T.ga T.gg T.exC T.ha sp tk T.hm) I.kIn ⟨ho, rfl, rfl, h1⟩ e (fun z => nomatch z) fun tk' => ⟨.bl b, H, I.kept (t' := tk') fun _ _ z => z, rfl, q⟩
end KX

set_option Elab.async false
set_option linter.all false
set_option maxRecDepth 100000
set_option maxHeartbeats 2000000
namespace KX
open PySem PySem.Spec PyProof.Rows L2
/-- a def's promise where no repr is running -/
structure FnG (P : Program) (w : World) (K : PySem.W.Frag) (mg : Str → Option Value) (base : Heap) (CX : CXT) (k : Nat) (f : Addr) (fd : FuncData) (ps : List Str) (sp : Sp) : Prop where
  len : ∀ vs H Q E, sp vs H Q E → vs.length = ps.length
  run : ∀ (A : Around) (outer : List Env) (s : Shared) (H : Hp) (args : Args) (us : List Value) (vs : List V) (Q : VK) (E : XK), A.guards = some [] → Room k A →
    Env0 P w K mg base A outer s H → BindsTo s fd args (ps.zip us) → Vals vs us → sp vs H Q E → codeAny (model P w) A (.call (.ref f) args) (CR CX outer P w H s Q E) s
section
variable {P : Program} {w : World} {K : PySem.W.Frag} {mg : Str → Option Value} {base : Heap} {CX : CXT} {k : Nat} {f : Addr} {fd : FuncData} {ps : List Str} {sp : Sp}
theorem FnG.of (F : FnOk P w K mg base CX k f fd ps sp) : FnG P w K mg base CX k f fd ps sp :=
  ⟨F.len, fun A outer s H args us vs Q E _ => F.run A outer s H args us vs Q E⟩
/-- the rule for a def whose body may use that no repr is running -/
theorem fnG_ok {x qual : Str} {params : Arguments} {body : List Stmt} {scope : Scope} {dvs : List V} {kws : List (Str × V)} {N : List Str} (F : FunD K x qual params body scope dvs kws f fd) (S : FnScope N ps scope)
    (len : ∀ vs H Q E, sp vs H Q E → vs.length = ps.length)
    (hbody : ∀ (cdv : Value) (A : Around) (outer : List Env) (s : Shared) (H : Hp) (vs : List V) (Q : VK) (E : XK),
      A.guards = some [] → Room k (A.deeper (envOfC qual scope s.heap.objs.size f cdv)) → sp vs H Q E →
      ∃ t, PSs (cxOf CX P w K mg base N qual scope f cdv A outer s H E) body t ∧ t { nx := fun _ G => Q .non G, rt := Q } (start N vs) H) :
    FnG P w K mg base CX (k + 1) f fd ps sp := by
  obtain ⟨oc, od, dV, kV, doc, pm, an, cdv, ct, osl, rfl, lk, hcd, _, _⟩ := F.ex
  constructor
  · exact len
  intro A outer s H args us vs Q E hg hr e0 hb r hsp
  have hn := len _ _ _ _ hsp
  have keep : ∀ b o, base.get? b = some o → s.heap.get? b = some o := fun b o z => (e0.bs b o z).1
  have hK : K.In s.heap := e0.mod.kin.keeps keep
  have hL : s.heap.NoLimit := e0.mod.nolimit.keeps keep
  refine codeAny_call_function hr.depth (hK _ _ lk) rfl S.co S.gen rfl (PySem.W.codeRec_of hK hcd) (hb _ _ _ _ ?_)
  refine wpAny_newFunctionEnv_cells S.kind (fun y hy => ?_) fun env he s1 x => ?_
  · rcases S.par y.1 (List.of_mem_zip (show (y.1, y.2) ∈ ps.zip us from hy)).1 with z | z
    · exact Or.inl z
    · exact Or.inr ⟨z, PySem.W.cellsFrom_some _ _ _ (Or.inl z)⟩
  · subst he
    refine ⟨hL.keeps x.toInCall.keep, codeAny_func ?_⟩
    obtain ⟨t, ht, hq⟩ := hbody cdv A outer s H vs Q E hg (hr.deeper _) hsp
    have I0 := inv_start (CX := CX) (E := E) S hr.hd e0 hn r x
    refine wpAny_mono (ht.run [] s1 (start N vs) H _ I0 hq) (fun fl s' z => ?_) fun _ _ z => z
    match fl, z with
    | .ret u, ⟨v, σ', G, J, rv, qv⟩ => exact ⟨v, G, J.os, J.bare, J.base, J.hok, rv, qv⟩
    | .next, ⟨σ', G, J, qv⟩ => exact ⟨.non, G, J.os, J.bare, J.base, J.hok, rfl, qv⟩
    | .brk, ⟨_, _, _, qv⟩ => exact False.elim qv
    | .cont, ⟨_, _, _, qv⟩ => exact False.elim qv
end
section
variable {X : Cx} {CX : CXT} {k : Nat} {f : Addr} {fd : FuncData} {ps : List Str} {sp : Sp} {dvs : List V} {ds : List Value} {E : XK} {x : Str} {p pos : Pos} {e : Expr} {es : List Expr} {t : TA}
/-- f(e, ..) where no repr is running -/
theorem pe_callG (F : FnG X.prog X.w X.K X.mg X.base CX k f fd ps sp) (gg : X.A.guards = some []) (hr : Room k X.A) (hg : Gl X x) (hm : X.mg x = some (.ref f)) (hk : PySem.W.keepIn X.K (.ref f) = true) (hb : Binds X.K fd ps ds) (hd : Vals dvs ds)
    (hx : Passes CX X E) (ha : PA X (e :: es) t) (hdb : (x == ("__debug__" : Str)) = false := by decide) (he : starEach (e :: es) X.env = (false, eval e X.env) :: starEach es X.env := by rfl)
    (hpl : (backTo pos (starEach es X.env)).any (·.1) = false := by rfl) : PE X (.Call (.Name x p) (e :: es) [] pos) (tCall sp dvs E t) := by
  constructor
  intro pins s σ H Q I h
  refine wpAny_Call_Name_kw (ld_glob I hg hm ?_ hdb)
  refine PySem.W.callWith_K (h₀ := X.base) I.ok.mod.kin hk (thn (ha.run pos pins s σ H _ I h) fun us s1 hh => ?_) he hpl
  obtain ⟨vs, H1, I1, r, q⟩ := hh
  refine ⟨I1.kIn, ?_⟩
  have r2 : Vals (vs ++ dvs) (us ++ ds) := r.append hd
  have hl : (us ++ ds).length = ps.length := r2.length.symm.trans (F.len _ _ _ _ q)
  refine wpAny_call (codeAny_mono (F.run X.A X.stack s1 H1 ⟨us, []⟩ _ _ Q E gg hr I1.env0 (hb s1 us I1.kIn hl) r2 q) fun res s' z => ?_)
  match res, z with
  | .error er, z => exact hx pins σ H1 s1 er s' I1 z
  | .ok (.ret u), z => exact I1.after z
  | .ok .next, z => exact False.elim z
  | .ok .brk, z => exact False.elim z
  | .ok .cont, z => exact False.elim z
end
/-! ### the law's own call -/
theorem law_atG {P : Program} {w : World} {K : PySem.W.Frag} {mg mb : Str → Option Value} {k : Nat} {fa a : Addr} {fd : FuncData} {x : Str} {sp : Sp} {s1 : Shared} {vs : List Value} {ns : List Int}
    (KI : K.In s1.heap) (hns : s1.heap.Ns mainGlobals mg) (hb : s1.heap.Ns builtinsNs mb) (hbb : ∀ x : Str, x ≠ "__name__" → mb x = bootBuiltins x) (hlim : s1.heap.NoLimit) (hg : s1.gens = #[])
    (ha : s1.heap.get? a = some { cls := .type "list", data := .seq vs.toArray }) (hi : IntsAre vs ns) (hl : ns.length ≤ sizeLine) (hr : Room k callerA)
    (F : ∀ base : Heap, K.In base → base.Ns mainGlobals mg → FnG P w K mg base CX0 k fa fd [x] sp) (hbind : ∀ (s : Shared) (u : Value), BindsTo s fd ⟨[u], []⟩ [(x, u)])
    (hsp : ∀ H : Hp, SqL K H a (ns.map V.int) → sp [.ref a] H (fun v _ => v = .bl true) E0) :
    codeAny (model P w) callerA (.call (.ref fa) ⟨[.ref a], []⟩) (fun r s' => r = .ok (.ret (.bool true)) ∧ PySem.OldK s1.heap s'.heap ∧ s'.os = s1.os ∧ AllBare s'.gens) s1 := by
  have rv := vals_ints hi
  have frozen : ∀ H : Hp, (∀ b u, H b = some u → b = a ∧ u = .frz { cls := .type "list", data := .seq vs.toArray } (.lst (ns.map V.int)) ∧ K.lookup a = none) → SqL K H a (ns.map V.int) →
      codeAny (model P w) callerA (.call (.ref fa) ⟨[.ref a], []⟩) (fun r s' => r = .ok (.ret (.bool true)) ∧ PySem.OldK s1.heap s'.heap ∧ s'.os = s1.os ∧ AllBare s'.gens) s1 := by
    intro H hH hS
    have free : ∀ b o, s1.heap.get? b = some o → (b = a → K.lookup a ≠ none ∨ (∀ its n, o.data ≠ .seq its n)) → H b = none := by
      intro b o e n
      cases q : H b with
      | none => rfl
      | some u =>
        obtain ⟨rfl, _, z3⟩ := hH b u q
        rw [ha] at e
        obtain rfl := Option.some.inj e
        rcases n rfl with n | n
        · exact absurd z3 n
        · exact absurd rfl (n vs.toArray _)
    have inK : K.In (hidT s1.heap H) := fun b o e => hidT_get (KI b o e) (free b o (KI b o e) fun z => .inl (by rw [← z, e]; simp))
    have nsOk : ∀ {b : Addr} {m : Str → Option Value}, s1.heap.Ns b m → (hidT s1.heap H).Ns b m := by
      rintro b m ⟨o, es, ep, e, d, r⟩
      exact ⟨o, es, ep, hidT_get e (free b o e fun _ => .inr fun its n z => by rw [d] at z; cases z), d, r⟩
    have hok : HOk P w H s1.heap := by
      intro b u q
      obtain ⟨rfl, rfl, _⟩ := hH b u q
      exact ⟨ha, by rw [List.length_map]; exact hl, vs, _, rv, ha⟩
    have md : Mod K mg (hidT s1.heap H) := ⟨inK, nsOk hns, ⟨mb, nsOk hb, hbb⟩, by
      obtain ⟨mc, h1, h2⟩ := hlim
      exact ⟨mc, nsOk h1, h2⟩⟩
    have e0 : Env0 P w K mg (hidT s1.heap H) callerA [] s1 H :=
      ⟨rfl, md, fun b o e => of_hidT e, Nat.le_of_eq (hidT_size _ _), trivial, fun b z => absurd (show b ∈ ([] : List Addr) from z) (by simp), hok, .of_eq hg⟩
    have go := (F _ inK (nsOk hns)).run callerA [] s1 H ⟨[.ref a], []⟩ [.ref a] [.ref a] _ _ rfl hr e0 (hbind s1 (.ref a)) (.cons rfl .nil) (hsp H hS)
    refine codeAny_mono go fun r s' z => ?_
    match r, z with
    | .error _, z => exact False.elim z
    | .ok .next, z => exact False.elim z
    | .ok .brk, z => exact False.elim z
    | .ok .cont, z => exact False.elim z
    | .ok (.ret u), ⟨v, G, os, bare, un, hok', rr, qv⟩ =>
      obtain rfl : v = .bl true := qv
      obtain rfl : u = Value.bool true := rr
      refine ⟨rfl, PySem.OldK.of_keep fun b o e => ?_, os, bare⟩
      cases q : H b with
      | none => exact un.keep b o e q (fun z => absurd (show b ∈ ([] : List Addr) from z) (by simp)) (by simp)
      | some t =>
        obtain ⟨rfl, rfl, _⟩ := hH b t q
        obtain ⟨e2, _⟩ := hok' _ _ (un.frzs _ _ _ q)
        exact e2.trans (ha.symm.trans e)
  cases hk : K.lookup a with
  | none =>
    refine frozen (fun b => if b = a then some (.frz { cls := .type "list", data := .seq vs.toArray } (.lst (ns.map V.int))) else none) (fun b u z => ?_) (.inl (.inr ⟨_, if_pos rfl⟩))
    by_cases hba : b = a
    · exact ⟨hba, (Option.some.inj ((if_pos hba).symm.trans z)).symm, hk⟩
    · exact nomatch (if_neg hba).symm.trans z
  | some o =>
    have e := KI a o hk
    rw [ha] at e
    obtain rfl := Option.some.inj e
    exact frozen (fun _ => none) (fun b u z => nomatch (show (none : Option HO) = some u from z))
      (.inr ⟨_, vs.toArray, _, hk, rfl, rfl, rfl, by rw [List.size_toArray, hi.length]; exact hl, by simpa using rv⟩)
/-- the goal that a head leaves, by the law's promise -/
theorem walk_atG {l : PySem.W.OpenLaw} {n k : Nat} {q : Program} {loose : List Str} {XP : (Str → Option Value) → Heap → Prop} {YP : World → Heap → Prop} {d : DefRec} {x : Str}
    (hn : l.most = some n) (hn2 : n ≤ sizeLine) (hdf : d.params.defaults = []) (hr : Room k callerA)
    (F : ∀ (w : World) (mg : Str → Option Value) (fa : Addr) (h : Heap), YP w h → h.Ns mainGlobals mg → mg d.name = some (.ref fa) →
      ∃ (K : PySem.W.Frag) (fd : FuncData) (sp : Sp), K.In h ∧ (∀ (s : Shared) (u : Value), BindsTo s fd ⟨[u], []⟩ [(x, u)]) ∧
        (∀ (H : Hp) (a : Addr) (ns : List Int), ns.length ≤ n → (∀ z ∈ ns, Builtin.Int.intBits z ≤ 1048576) → SqL K H a (ns.map V.int) → sp [.ref a] H (fun v _ => v = .bl true) E0) ∧
        ∀ base : Heap, K.In base → base.Ns mainGlobals mg → FnG l.prog w K mg base CX0 k fa fd [x] sp) :
    PySem.W.WalkO q loose XP YP l.row.toRowW d [] (fun f vs => PySem.call f vs) := by
  refine Att.attach_callB hn hdf fun w s₀ s₁ mg mb fa o pm cd doc a vs ns G Y ho hd hcd hmg hobj hints hlen hbits hg => ?_
  obtain ⟨K, fd, sp, KI, hb, hsp, hF⟩ := F w mg fa _ Y G.T.g hmg
  exact law_atG KI G.T.g G.T.b G.T.builtins G.T.nolimit hg hobj hints (Nat.le_trans hlen hn2) hr hF hb fun H hS => hsp H a ns hlen hbits hS
end KX

set_option Elab.async false
set_option linter.all false
set_option maxRecDepth 100000
set_option maxHeartbeats 2000000
/-! The bag that a law draws from: what stands in it, what is promised of a draw. -/
namespace KX
open PySem PySem.Spec PyProof.Rows L2
/-- the bag at b: digits, a seed, a count of at most n -/
def Bag (H : Hp) (b : Addr) (n : Int) : Prop := ∃ d m c : Int, H b = some (.lst [.int d, .int m, .int c]) ∧ 0 ≤ d ∧ 0 ≤ m ∧ m < 2 ^ 61 ∧ 0 ≤ c ∧ c ≤ n
/-- all but b is as it was -/
def But (b : Addr) (H H' : Hp) : Prop := ∀ x, x ≠ b → H' x = H x
/-- what was tracked is as it was, but b -/
def Kept (b : Addr) (H H' : Hp) : Prop := ∀ x o, x ≠ b → H x = some o → H' x = some o
theorem But.kept {b : Addr} {H H' : Hp} (h : But b H H') : Kept b H H' := fun x o n e => (h x n).trans e
theorem Kept.refl (b : Addr) (H : Hp) : Kept b H H := fun _ _ _ e => e
theorem Kept.trans {b : Addr} {H H1 H2 : Hp} (h : Kept b H H1) (k : Kept b H1 H2) : Kept b H H2 := fun x o n e => k x o n (h x o n e)
theorem Kept.new {b p : Addr} {H : Hp} {o : HO} (h : H p = none) : Kept b H (upd H p o) := fun x u _ e => by
  rw [upd_ne (ne_of_none e h)]
  exact e
theorem Kept.seq {K : PySem.W.Frag} {b a : Addr} {H H' : Hp} {xs : List V} (k : Kept b H H') (n : a ≠ b) (h : SqL K H a xs) : SqL K H' a xs := by
  rcases h with (h | ⟨o, h⟩) | h
  · exact .inl (.inl (k _ _ n h))
  · exact .inl (.inr ⟨o, k _ _ n h⟩)
  · exact .inr h
theorem Bag.some {H : Hp} {b : Addr} {n : Int} (h : Bag H b n) : ∃ o, H b = some o := let ⟨_, _, _, e, _⟩ := h; ⟨_, e⟩
theorem Bag.ne {H : Hp} {b p : Addr} {n : Int} (h : Bag H b n) (hp : H p = none) : p ≠ b := by
  obtain ⟨o, e⟩ := h.some
  exact (ne_of_none e hp).symm
theorem Bag.put {H : Hp} {b p : Addr} {n : Int} {o : HO} (h : Bag H b n) (hp : p ≠ b) : Bag (upd H p o) b n := by
  obtain ⟨d, m, c, e, r⟩ := h
  exact ⟨d, m, c, (upd_ne hp.symm).trans e, r⟩
theorem Bag.mono {H : Hp} {b : Addr} {n n' : Int} (h : Bag H b n) (hn : n ≤ n') : Bag H b n' := by
  obtain ⟨d, m, c, e, r1, r2, r3, r4, r5⟩ := h
  exact ⟨d, m, c, e, r1, r2, r3, r4, by omega⟩
/-- _law_bag -/
def spBag (K : PySem.W.Frag) : Sp := fun vs H Q _ => ∃ (a : Addr) (ns : List Int) (i : Nat), vs = [.ref a, .int i] ∧ SqL K H a (ns.map V.int) ∧ ns.length ≤ 63 ∧ i ≤ 63 ∧ ∀ b H', H b = none → Kept b H H' → (∀ x, x ≠ b → H' x = H x) → Bag H' b 0 → Q (.ref b) H'
/-- _law_draw -/
def spDraw : Sp := fun vs H Q _ => ∃ (b : Addr) (n many : Int), vs = [.ref b, .int many] ∧ Bag H b n ∧ n < 1000000 ∧ 0 < many ∧ many.natAbs < 2 ^ 200 ∧ ∀ (r : Int) (H' : Hp), 0 ≤ r → r < many → But b H H' → Bag H' b (n + 1) → Q (.int r) H'
/-- _law_of -/
def spOf (K : PySem.W.Frag) : Sp := fun vs H Q _ => ∃ (b l : Addr) (n : Int) (xs : List V), vs = [.ref b, .ref l] ∧ Bag H b n ∧ n < 1000000 ∧ l ≠ b ∧ SqL K H l xs ∧ 0 < xs.length ∧ xs.length ≤ 1000 ∧
  ∀ (i : Nat) (v : V) (H' : Hp), xs[i]? = some v → But b H H' → Bag H' b (n + 1) → Q v H'
/-- the numbers of a draw -/
theorem draw_pow {m c : Int} (hm0 : 0 ≤ m) (hm : m < 2 ^ 61) (hc0 : 0 ≤ c) (hc : c ≤ 1000000) : CPow (m + 611953 * (c + 1)) 2 := by
  refine ⟨by decide, by decide, ?_⟩
  omega
theorem draw_pow3 {x c : Int} (hx0 : 0 ≤ x) (hx : x < 1152921504606846869) (hc0 : 0 ≤ c) (hc : c ≤ 1000000) : CPow (x + 15485863 * (c + 1)) 3 := by
  refine ⟨by decide, by decide, ?_⟩
  omega
theorem fmod_in {x y : Int} (h : 0 < y) : 0 ≤ x.fmod y ∧ x.fmod y < y := by
  rw [Int.fmod_eq_emod_of_nonneg x (Int.le_of_lt h)]
  exact ⟨Int.emod_nonneg x (by omega), Int.emod_lt_of_pos x h⟩
end KX

set_option Elab.async false
set_option linter.all false
set_option maxRecDepth 100000
set_option maxHeartbeats 2000000
/-! Nested data on the abstract heap: it stays while what is tracked stays; bounds of its text. -/
namespace KX
open PySem PySem.Spec PyProof.Rows L2
theorem sqT_same {K : PySem.W.Frag} {H H' : Hp} {a : Addr} {xs : List V} (s : Same H H') (h : SqT K H a xs) : SqT K H' a xs := by
  rcases h with (h | ⟨o, h⟩) | h
  · exact .inl (.inl (s _ _ h))
  · exact .inl (.inr ⟨o, s _ _ h⟩)
  · exact .inr h
mutual
theorem dp_same {K : PySem.W.Frag} {H H' : Hp} (s : Same H H') : ∀ (d : PyData) (v : V), Dp K H v d → Dp K H' v d
  | .none, _, .non => .non
  | .bool _, _, .bl b => .bl b
  | .int _, _, .int i => .int i
  | .str _, _, .str x => .str x
  | .list ds, _, .lst hS ha => .lst (s.seq hS) (dps_same s ds _ ha)
  | .tuple ds, _, .tup hS ha => .tup (sqT_same s hS) (dps_same s ds _ ha)
  | .dict _, _, h => nomatch h
theorem dps_same {K : PySem.W.Frag} {H H' : Hp} (s : Same H H') : ∀ (ds : List PyData) (vs : List V), DpAll K H vs ds → DpAll K H' vs ds
  | [], _, .nil => .nil
  | d :: ds, _, .cons h hs => .cons (dp_same s d _ h) (dps_same s ds _ hs)
end
/-- what may be shown in little room -/
structure Small (d : PyData) (k n : Nat) : Prop where
  sh : d.showable = true
  nd : d.hasDict = false
  dp : d.depth ≤ k
  ln : d.shown.length ≤ n
/-- v is small data on H -/
def Good (K : PySem.W.Frag) (H : Hp) (v : V) : Prop := ∃ d, Dp K H v d ∧ Small d 2 100
theorem Good.same {K : PySem.W.Frag} {H H' : Hp} {v : V} (s : Same H H') (h : Good K H v) : Good K H' v := let ⟨d, h1, h2⟩ := h; ⟨d, dp_same s d v h1, h2⟩
theorem good_int {K : PySem.W.Frag} {H : Hp} {i : Int} (h : i.natAbs < 10 ^ 30) : Good K H (.int i) := by
  refine ⟨.int i, .int i, ⟨decide_eq_true ?_, rfl, Nat.zero_le _, ?_⟩⟩
  · have h2 : i.natAbs < 2 ^ 100 := Nat.lt_trans h (by decide)
    exact Nat.lt_trans (PySem.Flt.log2_lt_of (by decide) h2) (by decide)
  · have q := int_text_length_le10 (k := 30) (by decide) h
    show (Str.ofString (toString i)).length ≤ 100
    rw [PySem.ofString_length]
    omega
theorem textFrom_le {m : Nat} : ∀ (ts : List Str) (k : Nat) (acc : Str), (∀ t ∈ ts, t.length ≤ m) → (textFrom k acc ts).length ≤ acc.length + ts.length * (m + 2)
  | [], k, acc, _ => Nat.le_add_right _ _
  | t :: r, k, acc, h => by
    have q := textFrom_le r (k + 1) (acc ++ (if k > 0 then ", " else "" : String) ++ t) (fun u hu => h u (List.mem_cons_of_mem _ hu))
    have ht := h t List.mem_cons_self
    have e : (acc ++ (if k > 0 then ", " else "" : String) ++ t).length ≤ acc.length + 2 + t.length := by
      rw [Str.length_append, Str.length_append]
      have z : ((if k > 0 then ", " else "" : String) : Str).length ≤ 2 := by
        split <;> decide
      omega
    have f : (t :: r).length * (m + 2) = r.length * (m + 2) + (m + 2) := by rw [List.length_cons, Nat.succ_mul]
    show (textFrom (k + 1) _ r).length ≤ _
    omega
theorem listText_le {m : Nat} {ts : List Str} (h : ∀ t ∈ ts, t.length ≤ m) : (listText ts).length ≤ ts.length * (m + 2) + 2 := by
  have q := textFrom_le ts 0 ("[" : String) h
  unfold listText
  rw [Str.length_append]
  have e1 : (("[" : String) : Str).length = 1 := by decide
  have e2 : (("]" : String) : Str).length = 1 := by decide
  omega
theorem shownAll_mem : ∀ {ds : List PyData} {t : Str}, t ∈ PyData.shownAll ds → ∃ d ∈ ds, t = d.shown
  | [], _, h => nomatch h
  | d :: r, t, h => by
    rcases List.mem_cons.mp (show t ∈ d.shown :: PyData.shownAll r from h) with h | h
    · exact ⟨d, List.mem_cons_self, h⟩
    · obtain ⟨e, he, q⟩ := shownAll_mem h
      exact ⟨e, List.mem_cons_of_mem _ he, q⟩
theorem shownAll_len : ∀ ds : List PyData, (PyData.shownAll ds).length = ds.length
  | [] => rfl
  | d :: r => congrArg (· + 1) (shownAll_len r)
theorem small_all {k n : Nat} : ∀ {ds : List PyData}, (∀ d ∈ ds, Small d k n) → PyData.showableAll ds = true ∧ PyData.hasDictAll ds = false ∧ PyData.depthAll ds ≤ k
  | [], _ => ⟨rfl, rfl, Nat.zero_le _⟩
  | d :: r, h => by
    obtain ⟨h1, h2, h3⟩ := small_all (ds := r) fun e he => h e (List.mem_cons_of_mem _ he)
    have z := h d List.mem_cons_self
    refine ⟨?_, ?_, ?_⟩
    · show (d.showable && PyData.showableAll r) = true
      rw [z.sh, h1]
      rfl
    · show (d.hasDict || PyData.hasDictAll r) = false
      rw [z.nd, h2]
      rfl
    · exact Nat.max_le.mpr ⟨z.dp, h3⟩
/-- a list of small data is small, one deeper -/
theorem small_list {k n m : Nat} {ds : List PyData} (h : ∀ d ∈ ds, Small d k n) (hm : ds.length * (n + 2) + 2 ≤ m) : Small (.list ds) (k + 1) m := by
  obtain ⟨h1, h2, h3⟩ := small_all h
  refine ⟨h1, h2, Nat.succ_le_succ h3, Nat.le_trans (listText_le (m := n) fun t ht => ?_) (by rw [shownAll_len]; exact hm)⟩
  obtain ⟨d, hd, rfl⟩ := shownAll_mem ht
  exact (h d hd).ln
end KX

set_option Elab.async false
set_option linter.all false
set_option maxRecDepth 100000
set_option maxHeartbeats 0
namespace K90
open PySem PySem.Spec PyProof.Rows L2 He KX
def top (i : Nat) : Stmt := PySem.Challenge.pw_rowsinplace_k90_errors_made.main.body.getD i (.Pass ⟨0, 0, 0, 0⟩)
def cx : List (Str × List Str × Bool) := [("NoRow", ["row"], true), ("NoPlace", ["lst", "place"], true), ("NoHandler", ["name"], true), ("BadName", ["name"], false), ("BadPlace", ["place"], false), ("BadSlide", ["index"], false), ("NoInverse", ["slide"], false), ("Twice", ["row"], false),
  ("BadOperation", ["op"], false), ("BadCall", ["argument"], false), ("BadVisit", ["visit"], false), ("BadLine", ["line"], false), ("BadStep", ["index"], false), ("BadText", ["index"], false), ("BadWorld", ["world"], false), ("BadNumber", ["name"], false), ("BadSpot", ["spot"], false),
  ("BadBound", ["index"], false), ("BadKind", ["kind"], false), ("OtherOperation", ["op"], false), ("BadOrder", ["order"], false), ("BadPair", ["first", "second"], false), ("BadRule", ["rule"], false), ("BadMend", ["mend"], false), ("TooMany", ["limit"], false), ("Clash", ["step", "row", "other"], false), ("CallFailed", ["index", "reason"], false)]
def names : List Str := cx.map (fun c => c.1) ++ (["PlaceError", "MissingError"] : List Str)
def vT : List Value := [.type "ValueError", .type "Exception", .type "BaseException", .type "object"]
def lT : List Value := [.type "LookupError", .type "Exception", .type "BaseException", .type "object"]
def mroOfK (K : PySem.W.Frag) (C : Addr) : List Value := match PySem.W.clsIn K C with
  | some cd => cd.mro
  | none => []
def oneB (K : PySem.W.Frag) (c : Str × List Str × Bool) : Bool :=
  let C := ga K c.1
  (Fa.glo c.1).ok K && (exkB K C (if c.2.2 then lT else vT) (if c.2.2 then "LookupError.__new__" else "ValueError.__new__")
  && (decide (mroOfK K C = .ref C :: (if c.2.2 then .ref (ga K "MissingError") :: lT else .ref (ga K "PlaceError") :: vT))
  && (c.2.1.all fun f => eqO (PySem.W.findIn K (.ref C) f) (some none))
  && (eqO (PySem.W.findIn K (.ref C) "__init__") (some (some (.ref (ma K C "__init__")))) && PySem.W.isFn K (.ref (ma K C "__init__")))))
def frees : List Str := ["len", "range", "isinstance", "enumerate", "repr", "max", "min", "abs", "int", "LookupError", "ValueError"]
def chk (K : PySem.W.Frag) : Bool := (cx.all fun c => oneB K c) && (frees.all (fun x => (Fa.free x).ok K) && (((["_law_bag", "_law_draw", "_law_of", "_law_made", "_law_told", "_law_classes", "law", "PlaceError", "MissingError"] : List Str).all fun x => (Fa.glo x).ok K)
  && (decide ((names.map (ga K)).Nodup)
  && ((["PlaceError", "MissingError"] : List Str).all fun x => (PySem.W.clsIn K (ga K x)).isSome && decide (PySem.W.typeIn K (.ref (ga K x)) = some (.type "type")))
  && (eqO (PySem.W.specialIn K (.builtin "object.__class__") "__get__") (some (some (.builtin "getset_descriptor.__get__"))) && decide (PySem.W.takesIn K (.builtin "object.__class__") = some true)))))
def initD (i : Nat) (c : Str) : DefD := ⟨(c, some "__init__"), "__init__", c ++ ".__init__", defArgs (inClass (top i) 0), defBody (inClass (top i) 0), defScope (inClass (top i) 0), [], []⟩
def fnD (i : Nat) (x : Str) : DefD := ⟨(x, none), x, x, defArgs (top i), defBody (top i), defScope (top i), [], []⟩
def fn : List DefD := [fnD 31 "_law_bag", fnD 32 "_law_draw", fnD 33 "_law_of", fnD 34 "_law_made", fnD 35 "_law_told", fnD 36 "_law_classes", fnD 37 "law",
  initD 3 "NoRow", initD 4 "NoPlace", initD 5 "NoHandler", initD 6 "BadName", initD 7 "BadPlace", initD 8 "BadSlide", initD 9 "NoInverse", initD 10 "Twice", initD 11 "BadOperation", initD 12 "BadCall", initD 13 "BadVisit", initD 14 "BadLine", initD 15 "BadStep", initD 16 "BadText",
  initD 17 "BadWorld", initD 18 "BadNumber", initD 19 "BadSpot", initD 20 "BadBound", initD 21 "BadKind", initD 22 "OtherOperation", initD 23 "BadOrder", initD 24 "BadPair", initD 25 "BadRule", initD 26 "BadMend", initD 27 "TooMany", initD 28 "Clash", initD 29 "CallFailed"]
abbrev R : PySem.W.OpenRow := PySem.W.OpenLaw.row PySem.Challenge.rw_rowsinplace_k90_errors_made
abbrev hk : PySem.W.Hook := hookX 4 chk fn
def ob (s : PySem.W.SharedT) : Bool × List FnW := lookX 4 chk fn (HandSHeadRun.getT s)
theorem ob_eq (s : PySem.W.SharedT) : ob s = hk.obs s.abs := lookX_eq (HandSHeadRun.getT_eq s)
def loose : List Str := names ++ (["_law_bag", "_law_draw", "_law_of", "_law_made", "_law_told", "_law_classes"] : List Str)
theorem run (w : World) : HandSHeadRun.RunEq R (PySem.W.view R.prog [37]) hk ob 20000 loose w := by
  intro os
  kernel_rfl
end K90

set_option Elab.async false
set_option linter.all false
set_option maxRecDepth 100000
set_option maxHeartbeats 2000000
namespace K90
open PySem PySem.Spec PyProof.Rows L2 KX
abbrev sBag : Stmt := top 31
abbrev sDraw : Stmt := top 32
abbrev sOf : Stmt := top 33
abbrev sMade : Stmt := top 34
abbrev sTold : Stmt := top 35
abbrev sClasses : Stmt := top 36
abbrev sLaw : Stmt := top 37
abbrev FnP (K : PySem.W.Frag) (x : Str) (st : Stmt) (f : Addr) (fd : FuncData) : Prop := FunD K x x (defArgs st) (defBody st) (defScope st) [] [] f fd
section
variable {P : Program} {w : World} {K : PySem.W.Frag} {mg : Str → Option Value} {base : Heap}
theorem scBag : FnScope ["script", "at", "cell", "digits"] ["script", "at"] (defScope sBag) := ⟨rfl, rfl, rfl, by decide +kernel, rfl, by decide +kernel, by decide +kernel⟩
theorem ok_bag {f : Addr} {fd : FuncData} (F : FnP K "_law_bag" sBag f fd) (gLen : mg "len" = none) (gAbs : mg "abs" = none) (gInt : mg "int" = none) : FnOk P w K mg base CX0 1 f fd ["script", "at"] (spBag K) := by
  refine F.ok scBag (fun vs H Q E h => ?_) (fun cdv A outer s H vs Q E hr h => ?_)
  · obtain ⟨a, ns, i, rfl, _⟩ := h
    rfl
  · obtain ⟨a, ns, i, rfl, hS, hl, hi, k⟩ := h
    refine ⟨_, PSs.nox (pss_cons (ps_set (i := 2) scBag.nd rfl (Or.inl rfl) (pe_ifExp (pt_cmpR op_lt (pv 1) (pe_callB call_len_seq (by rfl) gLen PySem.boot_len (pa_cons (pv 0) pa_nil)) (nomark _)) (pe_ix ix_list (pv 0) (pv 1) (fun _ _ => rfl)) pe_int))
      (pss_cons (ps_set (i := 3) scBag.nd rfl (Or.inl rfl) (pe_ifExp (pt_cmpR op_ge (pe_callB call_abs (by rfl) gAbs (by decide +kernel) (pa_cons (pv 2) pa_nil)) (pe_op op_pow pe_int pe_int) (nomark _)) (pe_callB call_abs (by rfl) gAbs (by decide +kernel) (pa_cons (pv 2) pa_nil)) pe_int))
      (pss_one (ps_ret (pe_lst (pa_cons (pv 3) (pa_cons (pe_op op_add (pe_op op_add (pe_op op_modN (pe_callTy call_int1 (by rfl) gInt (by decide +kernel) (pa_cons (pv 2) pa_nil)) pe_int) (pe_op op_mul pe_int (pv 1))) pe_int) (pa_cons pe_int pa_nil)))))))), ?_⟩
    have fin : ∀ (d z : Int), 0 ≤ d → ∀ (p : Addr), H p = none → Q (.ref p) (upd H p (.lst [.int d, .int (z.fmod 1152921504606846883 + 7001 * (i : Int) + 17), .int 0])) := by
      intro d z hd p hp
      obtain ⟨h1, h2⟩ := fmod_in (x := z) (y := 1152921504606846883) (by decide)
      exact k p _ hp (Kept.new hp) (fun x n => upd_ne n) ⟨d, _, 0, upd_same, hd, by omega, by omega, by decide, by decide⟩
    refine ⟨_, rfl, _, rfl, _, _, rfl, .inl hS, _, _, rfl, rfl, _, rfl, ?_⟩
    refine ite2 (fun c => ?_) (fun c => ?_)
    · have ci : i < ns.length := by
        have c' : (i : Int) < ((ns.map V.int).length : Int) := of_decide_eq_true c
        rw [List.length_map] at c'
        omega
      have hx : (ns.map V.int)[i]? = some (.int ns[i]) := by
        rw [List.getElem?_map, List.getElem?_eq_getElem ci]
        rfl
      refine ⟨_, rfl, _, rfl, _, _, _, _, rfl, rfl, hS, atI_nat hx, ?_⟩
      refine ⟨_, rfl, _, rfl, _, _, rfl, rfl, ⟨by decide, by decide, by decide⟩, _, _, rfl, rfl, _, rfl, ?_⟩
      refine ite2 (fun c2 => ?_) (fun c2 => ?_)
      · refine ⟨_, rfl, _, rfl, _, rfl, _, rfl, .inl ⟨_, rfl, _, _, rfl, rfl, (by show (1152921504606846883 : Int) ≠ 0; decide), _, rfl, _, _, rfl, rfl, .inl ⟨by decide, by decide⟩, _, _, rfl, rfl, _, _, rfl, rfl, ?_⟩⟩
        exact ⟨(by show 3 ≤ sizeLine; decide), fun p hp => fin _ _ (by split <;> omega) p hp⟩
      · refine ⟨_, rfl, _, rfl, .inl ⟨_, rfl, _, _, rfl, rfl, (by show (1152921504606846883 : Int) ≠ 0; decide), _, rfl, _, _, rfl, rfl, .inl ⟨by decide, by decide⟩, _, _, rfl, rfl, _, _, rfl, rfl, ?_⟩⟩
        exact ⟨(by show 3 ≤ sizeLine; decide), fun p hp => fin _ _ (by decide) p hp⟩
    · refine ⟨_, rfl, _, rfl, _, _, rfl, rfl, ⟨by decide, by decide, by decide⟩, _, _, rfl, rfl, _, rfl, ?_⟩
      refine ite2 (fun c2 => ?_) (fun c2 => ?_)
      · refine ⟨_, rfl, _, rfl, _, rfl, _, rfl, .inl ⟨_, rfl, _, _, rfl, rfl, (by show (1152921504606846883 : Int) ≠ 0; decide), _, rfl, _, _, rfl, rfl, .inl ⟨by decide, by decide⟩, _, _, rfl, rfl, _, _, rfl, rfl, ?_⟩⟩
        exact ⟨(by show 3 ≤ sizeLine; decide), fun p hp => fin _ _ (by split <;> omega) p hp⟩
      · refine ⟨_, rfl, _, rfl, .inl ⟨_, rfl, _, _, rfl, rfl, (by show (1152921504606846883 : Int) ≠ 0; decide), _, rfl, _, _, rfl, rfl, .inl ⟨by decide, by decide⟩, _, _, rfl, rfl, _, _, rfl, rfl, ?_⟩⟩
        exact ⟨(by show 3 ≤ sizeLine; decide), fun p hp => fin _ _ (by decide) p hp⟩
/-- if bag[0] > 0: a digit; else the next mixed number -/
theorem scDraw : FnScope ["bag", "many", "digit", "mixed"] ["bag", "many"] (defScope sDraw) := ⟨rfl, rfl, rfl, by decide +kernel, rfl, by decide +kernel, by decide +kernel⟩
theorem ok_draw {f : Addr} {fd : FuncData} (F : FnP K "_law_draw" sDraw f fd) (gInt : mg "int" = none) : FnOk P w K mg base CX0 1 f fd ["bag", "many"] spDraw := by
  refine F.ok scDraw (fun vs H Q E h => ?_) (fun cdv A outer s H vs Q E hr h => ?_)
  · obtain ⟨b, n, many, rfl, _⟩ := h
    rfl
  · obtain ⟨b, n, many, rfl, ⟨d, m, c, hb, hd, hm0, hm, hc0, hc⟩, hn, hp, hw, k⟩ := h
    refine ⟨_, PSs.nox (pss_cons (ps_if (pt_cmpR op_gt (pe_ix ix_list (pv 0) pe_int (fun _ _ => rfl)) pe_int (nomark _))
        (pss_cons (ps_set (i := 2) scDraw.nd rfl (Or.inl rfl) (pe_op op_modN (pe_callTy call_int1 (by rfl) gInt (by decide +kernel) (pa_cons (pe_ix ix_list (pv 0) pe_int (fun _ _ => rfl)) pa_nil)) (pv 1)))
        (pss_cons (ps_asg (pe_op op_fdivW (pe_ix ix_list (pv 0) pe_int (fun _ _ => rfl)) (pv 1)) (pg_sub (pv 0) pe_int set_list))
        (pss_one (ps_ret (pv 2)))))
        pss_nil)
      (pss_cons (ps_asg (pe_op op_add (pe_ix ix_list (pv 0) pe_int (fun _ _ => rfl)) pe_int) (pg_sub (pv 0) pe_int set_list))
      (pss_cons (ps_set (i := 3) scDraw.nd rfl (Or.inl rfl) (pe_op op_add (pe_op op_pow (pe_op op_add (pe_ix ix_list (pv 0) pe_int (fun _ _ => rfl)) (pe_op op_mul pe_int (pe_ix ix_list (pv 0) pe_int (fun _ _ => rfl)))) pe_int) (pe_op op_mul pe_int (pe_ix ix_list (pv 0) pe_int (fun _ _ => rfl)))))
      (pss_cons (ps_set (i := 3) scDraw.nd rfl (Or.inl rfl) (pe_op op_modN (pe_callTy call_int1 (by rfl) gInt (by decide +kernel) (pa_cons (pv 3) pa_nil)) pe_int))
      (pss_cons (ps_set (i := 3) scDraw.nd rfl (Or.inl rfl) (pe_op op_modN (pe_callTy call_int1 (by rfl) gInt (by decide +kernel) (pa_cons (pe_op op_pow (pe_op op_add (pv 3) (pe_op op_mul pe_int (pe_ix ix_list (pv 0) pe_int (fun _ _ => rfl)))) pe_int) pa_nil)) pe_int))
      (pss_one (ps_ret (pe_op op_modN (pe_callTy call_int1 (by rfl) gInt (by decide +kernel) (pa_cons (pe_op op_fdivN (pv 3) pe_int) pa_nil)) (pv 1))))))))), ?_⟩
    refine ⟨_, rfl, _, _, _, _, rfl, rfl, SqL.of hb, rfl, _, _, rfl, rfl, _, rfl, ?_⟩
    refine ite2 (fun c0 => ?_) (fun c0 => ?_)
    · obtain ⟨f1, f2⟩ := fmod_in (x := d) hp
      refine ⟨_, rfl, _, _, _, _, rfl, rfl, SqL.of hb, rfl, .inl ⟨_, rfl, _, rfl, _, _, rfl, rfl, (by show many ≠ 0; omega), ?_⟩⟩
      refine ⟨_, rfl, _, _, _, _, rfl, rfl, SqL.of hb, rfl, _, rfl, _, _, rfl, rfl, wide_div hp hw (by decide) (by decide), _, rfl, b, _, 0, _, rfl, rfl, hb, rfl, _, rfl, ?_⟩
      refine k _ _ f1 f2 (fun x nx => upd_ne nx) ⟨d / many, m, c, upd_same, Int.ediv_nonneg hd (by omega), hm0, hm, hc0, by omega⟩
    · refine ⟨_, rfl, _, _, _, _, rfl, rfl, SqL.of hb, rfl, _, _, rfl, rfl, _, rfl, b, _, 2, _, rfl, rfl, hb, rfl, ?_⟩
      have hb2 : upd H b (.lst [.int d, .int m, .int (c + 1)]) b = some (.lst [.int d, .int m, .int (c + 1)]) := upd_same
      refine ⟨_, rfl, _, _, _, _, rfl, rfl, SqL.of hb2, rfl, _, rfl, _, _, _, _, rfl, rfl, SqL.of hb2, rfl, _, _, rfl, rfl, .inl ⟨by decide, by decide⟩, _, _, rfl, rfl, _, _, rfl, rfl, draw_pow hm0 hm hc0 (by omega), ?_⟩
      refine ⟨_, rfl, _, _, _, _, rfl, rfl, SqL.of hb2, rfl, _, _, rfl, rfl, .inl ⟨by decide, by decide⟩, _, _, rfl, rfl, ?_⟩
      refine ⟨_, rfl, .inl ⟨_, rfl, _, _, rfl, rfl, (by show (1152921504606846869 : Int) ≠ 0; decide), ?_⟩⟩
      refine ⟨_, rfl, _, rfl, _, _, _, _, rfl, rfl, SqL.of hb2, rfl, _, _, rfl, rfl, .inl ⟨by decide, by decide⟩, _, _, rfl, rfl, _, _, rfl, rfl, draw_pow3 (fmod_in (by decide)).1 (fmod_in (by decide)).2 hc0 (by omega), .inl ⟨_, rfl, _, _, rfl, rfl, (by show (2305843009213693951 : Int) ≠ 0; decide), ?_⟩⟩
      refine ⟨_, rfl, _, _, rfl, rfl, ⟨by decide, by decide⟩, .inl ⟨_, rfl, _, rfl, _, _, rfl, rfl, (by show many ≠ 0; omega), ?_⟩⟩
      exact k _ _ (fmod_in hp).1 (fmod_in hp).2 (fun x nx => upd_ne nx) ⟨d, m, c + 1, upd_same, hd, hm0, hm, by omega, by omega⟩
theorem scOf : FnScope ["bag", "some"] ["bag", "some"] (defScope sOf) := ⟨rfl, rfl, rfl, by decide +kernel, rfl, by decide +kernel, by decide +kernel⟩
theorem ok_of {f fD : Addr} {fd fdD : FuncData} (F : FnP K "_law_of" sOf f fd) (FD : FnP K "_law_draw" sDraw fD fdD) (gD : mg "_law_draw" = some (.ref fD)) (gLen : mg "len" = none) (gInt : mg "int" = none) : FnOk P w K mg base CX0 2 f fd ["bag", "some"] (spOf K) := by
  have GD : FnOk P w K mg base CX0 1 fD fdD ["bag", "many"] spDraw := ok_draw FD gInt
  have bD : Binds K fdD ["bag", "many"] [] := FD.bindsN fun _ _ _ _ _ _ us hl => match us, hl with | [_, _], _ => rfl
  refine F.ok scOf (fun vs H Q E h => ?_) (fun cdv A outer s H vs Q E hr h => ?_)
  · obtain ⟨b, l, n, xs, rfl, _⟩ := h
    rfl
  · obtain ⟨b, l, n, xs, rfl, hB, hn, nlb, hS, h0, h1, k⟩ := h
    refine ⟨_, PSs.nox (pss_one (ps_ret (pe_ix ix_list (pv 1) (pe_call GD hr rfl gD FD.kp bD .nil pass0 (pa_cons (pv 0) (pa_cons (pe_callB call_len_seq (by rfl) gLen PySem.boot_len (pa_cons (pv 1) pa_nil)) pa_nil))) (fun _ _ => rfl)))), ?_⟩
    refine ⟨_, rfl, _, rfl, _, rfl, _, _, rfl, .inl hS, b, n, _, rfl, hB, hn, by omega, ?_, fun r H' r0 r1 hk hB' => ?_⟩
    · have e : ((xs.length : Nat) : Int).natAbs = xs.length := by simp
      rw [e]
      exact Nat.lt_of_le_of_lt h1 (by decide)
    · obtain ⟨i, rfl⟩ : ∃ i : Nat, r = i := ⟨r.toNat, by omega⟩
      have hi : i < xs.length := by omega
      have hx : xs[i]? = some xs[i] := List.getElem?_eq_getElem hi
      exact ⟨_, _, _, _, rfl, rfl, hk.kept.seq nlb hS, atI_nat hx, k i _ H' hx hk hB'⟩
end
end K90

set_option Elab.async false
set_option linter.all false
set_option maxRecDepth 100000
set_option maxHeartbeats 2000000
/-! Each of the 27 classes: its __init__ keeps what it was made with; what C(..) leaves. -/
namespace K90
open PySem PySem.Spec PyProof.Rows L2 He KX
/-- __init__ of the class at C with the fields fs: entered upon the new object a over H0 -/
def spInit (C : Addr) (fs : List Str) : Sp := fun vs H Q _ => ∃ (a : Addr) (xs : List V) (H0 : Hp), vs = .ref a :: xs ∧ xs.length = fs.length ∧ H = upd H0 a (exo a C none) ∧ H0 a = none ∧
  ∀ d H', H0 d = none → d ≠ a → H' a = some (exo a C (some d)) → H' d = some (exd d (fs.zip xs).reverse) → (∀ x, x ≠ a → x ≠ d → H' x = H0 x) → Q .non H'
abbrev Cls1 : Type := Str × List Str × Bool
def tailOf (c : Cls1) : List Value := if c.2.2 then lT else vT
def newOf (c : Cls1) : String := if c.2.2 then "LookupError.__new__" else "ValueError.__new__"
structure One (K : PySem.W.Frag) (c : Cls1) : Prop where
  T : ExK K (ga K c.1) (tailOf c) (newOf c)
  mro : mroOfK K (ga K c.1) = .ref (ga K c.1) :: (if c.2.2 then .ref (ga K "MissingError") :: lT else .ref (ga K "PlaceError") :: vT)
  no : ∀ f ∈ c.2.1, PySem.W.findIn K (.ref (ga K c.1)) f = some none
  iC : PySem.W.findIn K (.ref (ga K c.1)) "__init__" = some (some (.ref (ma K (ga K c.1) "__init__")))
  fn : PySem.W.isFn K (.ref (ma K (ga K c.1) "__init__")) = true
theorem one_of {K : PySem.W.Frag} {c : Cls1} (h : oneB K c = true) : (Fa.glo c.1).ok K = true ∧ One K c := by
  unfold oneB at h
  obtain ⟨h1, h⟩ := Bool.and_eq_true_iff.mp h
  obtain ⟨h2, h⟩ := Bool.and_eq_true_iff.mp h
  obtain ⟨h3, h4⟩ := Bool.and_eq_true_iff.mp h
  obtain ⟨h5, h6⟩ := Bool.and_eq_true_iff.mp h3
  obtain ⟨h7, h8⟩ := Bool.and_eq_true_iff.mp h4
  exact ⟨h1, exkB_ok h2, of_decide_eq_true h5, fun f hf => eqO_ok (List.all_eq_true.mp h6 f hf), eqO_ok h7, h8⟩
theorem bs_of (c : Cls1) : Bs (tailOf c) (newOf c) := by
  obtain ⟨x, fs, b⟩ := c
  cases b
  · exact bsV
  · exact bsL
/-- what a call of the class wants -/
structure MkC (P : Program) (w : World) (K : PySem.W.Frag) (mg : Str → Option Value) (base : Heap) (c : Cls1) : Prop where
  one : One K c
  gm : mg c.1 = some (.ref (ga K c.1))
  G : ∃ fd, FnOk P w K mg base CX0 1 (ma K (ga K c.1) "__init__") fd ("self" :: c.2.1) (spInit (ga K c.1) c.2.1) ∧ Binds K fd ("self" :: c.2.1) []
section
variable {X : Cx} {e : Expr} {es : List Expr} {ta : TA} {p pos : Pos}
theorem pe_mk (c : Cls1) (M : MkC X.prog X.w X.K X.mg X.base c) (hr : Room 2 X.A) (hx : Passes CX0 X (fun _ _ _ => False)) (ha : PA X (e :: es) ta) (hg : Gl X c.1 := by rfl)
    (hdb : (c.1 == ("__debug__" : Str)) = false := by decide) (he : starEach (e :: es) X.env = (false, eval e X.env) :: starEach es X.env := by rfl) (hpl : (backTo pos (starEach es X.env)).any (·.1) = false := by rfl) :
    PE X (.Call (.Name c.1 p) (e :: es) [] pos) (tMkV (ga X.K c.1) (spInit (ga X.K c.1) c.2.1) ta) := by
  obtain ⟨fd, G, b⟩ := M.G
  exact pe_mkv M.one.T (bs_of c) M.one.iC M.one.fn G hr b hx hg M.gm ha hdb he hpl
end
section
variable {P : Program} {w : World} {K : PySem.W.Frag} {mg : Str → Option Value} {base : Heap}
abbrev sI0 : Stmt := inClass (top 3) 0
theorem scI0 : FnScope ["self", "row"] ["self", "row"] (defScope sI0) := ⟨rfl, rfl, rfl, by decide +kernel, rfl, by decide +kernel, by decide +kernel⟩
theorem ok_I0 {f : Addr} {fd : FuncData} (F : FunD K "__init__" "NoRow.__init__" (defArgs sI0) (defBody sI0) (defScope sI0) [] [] f fd) (O : One K ("NoRow", ["row"], true)) :
    FnOk P w K mg base CX0 1 f fd ["self", "row"] (spInit (ga K "NoRow") ["row"]) ∧ Binds K fd ["self", "row"] [] := by
  refine ⟨F.ok scI0 (fun vs H Q E h => ?_) (fun cdv A outer s H vs Q E hr h => ?_), F.bindsN fun _ _ _ _ _ _ us hl => match us, hl with | [_, _], _ => rfl⟩
  · obtain ⟨a, xs, H0, rfl, hl, _⟩ := h
    rw [List.length_cons, hl]
    rfl
  · obtain ⟨a, xs, H0, rfl, hl, rfl, ha, k⟩ := h
    match xs, hl with
    | [v0], _ =>
      refine ⟨_, PSs.nox (pss_one (ps_st (pv 0) (pv 1))), ?_⟩
      refine ⟨_, rfl, _, rfl, a, _, _, _, rfl, O.T, bs_of _, O.no _ (by simp), .inl ⟨upd_same, fun d hd hda => ?_⟩⟩
      have hd0 : H0 d = none := (upd_ne hda).symm.trans hd
      exact k d _ hd0 hda upd_same ((upd_ne hda).trans upd_same) (fun x n1 n2 => (upd_ne n1).trans ((upd_ne n2).trans (upd_ne n1)))
abbrev sI1 : Stmt := inClass (top 4) 0
theorem scI1 : FnScope ["self", "lst", "place"] ["self", "lst", "place"] (defScope sI1) := ⟨rfl, rfl, rfl, by decide +kernel, rfl, by decide +kernel, by decide +kernel⟩
theorem ok_I1 {f : Addr} {fd : FuncData} (F : FunD K "__init__" "NoPlace.__init__" (defArgs sI1) (defBody sI1) (defScope sI1) [] [] f fd) (O : One K ("NoPlace", ["lst", "place"], true)) :
    FnOk P w K mg base CX0 1 f fd ["self", "lst", "place"] (spInit (ga K "NoPlace") ["lst", "place"]) ∧ Binds K fd ["self", "lst", "place"] [] := by
  refine ⟨F.ok scI1 (fun vs H Q E h => ?_) (fun cdv A outer s H vs Q E hr h => ?_), F.bindsN fun _ _ _ _ _ _ us hl => match us, hl with | [_, _, _], _ => rfl⟩
  · obtain ⟨a, xs, H0, rfl, hl, _⟩ := h
    rw [List.length_cons, hl]
    rfl
  · obtain ⟨a, xs, H0, rfl, hl, rfl, ha, k⟩ := h
    match xs, hl with
    | [v0, v1], _ =>
      refine ⟨_, PSs.nox (pss_cons (ps_st (pv 0) (pv 1)) (pss_one (ps_st (pv 0) (pv 2)))), ?_⟩
      refine ⟨_, rfl, _, rfl, a, _, _, _, rfl, O.T, bs_of _, O.no _ (by simp), .inl ⟨upd_same, fun d hd hda => ?_⟩⟩
      have hd0 : H0 d = none := (upd_ne hda).symm.trans hd
      refine ⟨_, rfl, _, rfl, a, _, _, _, rfl, O.T, bs_of _, O.no _ (by simp), .inr ⟨d, _, upd_same, (upd_ne hda).trans upd_same, Nat.le_of_ble_eq_true rfl, ?_⟩⟩
      exact k d _ hd0 hda ((upd_ne hda.symm).trans upd_same) upd_same (fun x n1 n2 => (upd_ne n2).trans ((upd_ne n1).trans ((upd_ne n2).trans (upd_ne n1))))
abbrev sI2 : Stmt := inClass (top 5) 0
theorem scI2 : FnScope ["self", "name"] ["self", "name"] (defScope sI2) := ⟨rfl, rfl, rfl, by decide +kernel, rfl, by decide +kernel, by decide +kernel⟩
theorem ok_I2 {f : Addr} {fd : FuncData} (F : FunD K "__init__" "NoHandler.__init__" (defArgs sI2) (defBody sI2) (defScope sI2) [] [] f fd) (O : One K ("NoHandler", ["name"], true)) :
    FnOk P w K mg base CX0 1 f fd ["self", "name"] (spInit (ga K "NoHandler") ["name"]) ∧ Binds K fd ["self", "name"] [] := by
  refine ⟨F.ok scI2 (fun vs H Q E h => ?_) (fun cdv A outer s H vs Q E hr h => ?_), F.bindsN fun _ _ _ _ _ _ us hl => match us, hl with | [_, _], _ => rfl⟩
  · obtain ⟨a, xs, H0, rfl, hl, _⟩ := h
    rw [List.length_cons, hl]
    rfl
  · obtain ⟨a, xs, H0, rfl, hl, rfl, ha, k⟩ := h
    match xs, hl with
    | [v0], _ =>
      refine ⟨_, PSs.nox (pss_one (ps_st (pv 0) (pv 1))), ?_⟩
      refine ⟨_, rfl, _, rfl, a, _, _, _, rfl, O.T, bs_of _, O.no _ (by simp), .inl ⟨upd_same, fun d hd hda => ?_⟩⟩
      have hd0 : H0 d = none := (upd_ne hda).symm.trans hd
      exact k d _ hd0 hda upd_same ((upd_ne hda).trans upd_same) (fun x n1 n2 => (upd_ne n1).trans ((upd_ne n2).trans (upd_ne n1)))
abbrev sI3 : Stmt := inClass (top 6) 0
theorem scI3 : FnScope ["self", "name"] ["self", "name"] (defScope sI3) := ⟨rfl, rfl, rfl, by decide +kernel, rfl, by decide +kernel, by decide +kernel⟩
theorem ok_I3 {f : Addr} {fd : FuncData} (F : FunD K "__init__" "BadName.__init__" (defArgs sI3) (defBody sI3) (defScope sI3) [] [] f fd) (O : One K ("BadName", ["name"], false)) :
    FnOk P w K mg base CX0 1 f fd ["self", "name"] (spInit (ga K "BadName") ["name"]) ∧ Binds K fd ["self", "name"] [] := by
  refine ⟨F.ok scI3 (fun vs H Q E h => ?_) (fun cdv A outer s H vs Q E hr h => ?_), F.bindsN fun _ _ _ _ _ _ us hl => match us, hl with | [_, _], _ => rfl⟩
  · obtain ⟨a, xs, H0, rfl, hl, _⟩ := h
    rw [List.length_cons, hl]
    rfl
  · obtain ⟨a, xs, H0, rfl, hl, rfl, ha, k⟩ := h
    match xs, hl with
    | [v0], _ =>
      refine ⟨_, PSs.nox (pss_one (ps_st (pv 0) (pv 1))), ?_⟩
      refine ⟨_, rfl, _, rfl, a, _, _, _, rfl, O.T, bs_of _, O.no _ (by simp), .inl ⟨upd_same, fun d hd hda => ?_⟩⟩
      have hd0 : H0 d = none := (upd_ne hda).symm.trans hd
      exact k d _ hd0 hda upd_same ((upd_ne hda).trans upd_same) (fun x n1 n2 => (upd_ne n1).trans ((upd_ne n2).trans (upd_ne n1)))
abbrev sI4 : Stmt := inClass (top 7) 0
theorem scI4 : FnScope ["self", "place"] ["self", "place"] (defScope sI4) := ⟨rfl, rfl, rfl, by decide +kernel, rfl, by decide +kernel, by decide +kernel⟩
theorem ok_I4 {f : Addr} {fd : FuncData} (F : FunD K "__init__" "BadPlace.__init__" (defArgs sI4) (defBody sI4) (defScope sI4) [] [] f fd) (O : One K ("BadPlace", ["place"], false)) :
    FnOk P w K mg base CX0 1 f fd ["self", "place"] (spInit (ga K "BadPlace") ["place"]) ∧ Binds K fd ["self", "place"] [] := by
  refine ⟨F.ok scI4 (fun vs H Q E h => ?_) (fun cdv A outer s H vs Q E hr h => ?_), F.bindsN fun _ _ _ _ _ _ us hl => match us, hl with | [_, _], _ => rfl⟩
  · obtain ⟨a, xs, H0, rfl, hl, _⟩ := h
    rw [List.length_cons, hl]
    rfl
  · obtain ⟨a, xs, H0, rfl, hl, rfl, ha, k⟩ := h
    match xs, hl with
    | [v0], _ =>
      refine ⟨_, PSs.nox (pss_one (ps_st (pv 0) (pv 1))), ?_⟩
      refine ⟨_, rfl, _, rfl, a, _, _, _, rfl, O.T, bs_of _, O.no _ (by simp), .inl ⟨upd_same, fun d hd hda => ?_⟩⟩
      have hd0 : H0 d = none := (upd_ne hda).symm.trans hd
      exact k d _ hd0 hda upd_same ((upd_ne hda).trans upd_same) (fun x n1 n2 => (upd_ne n1).trans ((upd_ne n2).trans (upd_ne n1)))
abbrev sI5 : Stmt := inClass (top 8) 0
theorem scI5 : FnScope ["self", "index"] ["self", "index"] (defScope sI5) := ⟨rfl, rfl, rfl, by decide +kernel, rfl, by decide +kernel, by decide +kernel⟩
theorem ok_I5 {f : Addr} {fd : FuncData} (F : FunD K "__init__" "BadSlide.__init__" (defArgs sI5) (defBody sI5) (defScope sI5) [] [] f fd) (O : One K ("BadSlide", ["index"], false)) :
    FnOk P w K mg base CX0 1 f fd ["self", "index"] (spInit (ga K "BadSlide") ["index"]) ∧ Binds K fd ["self", "index"] [] := by
  refine ⟨F.ok scI5 (fun vs H Q E h => ?_) (fun cdv A outer s H vs Q E hr h => ?_), F.bindsN fun _ _ _ _ _ _ us hl => match us, hl with | [_, _], _ => rfl⟩
  · obtain ⟨a, xs, H0, rfl, hl, _⟩ := h
    rw [List.length_cons, hl]
    rfl
  · obtain ⟨a, xs, H0, rfl, hl, rfl, ha, k⟩ := h
    match xs, hl with
    | [v0], _ =>
      refine ⟨_, PSs.nox (pss_one (ps_st (pv 0) (pv 1))), ?_⟩
      refine ⟨_, rfl, _, rfl, a, _, _, _, rfl, O.T, bs_of _, O.no _ (by simp), .inl ⟨upd_same, fun d hd hda => ?_⟩⟩
      have hd0 : H0 d = none := (upd_ne hda).symm.trans hd
      exact k d _ hd0 hda upd_same ((upd_ne hda).trans upd_same) (fun x n1 n2 => (upd_ne n1).trans ((upd_ne n2).trans (upd_ne n1)))
abbrev sI6 : Stmt := inClass (top 9) 0
theorem scI6 : FnScope ["self", "slide"] ["self", "slide"] (defScope sI6) := ⟨rfl, rfl, rfl, by decide +kernel, rfl, by decide +kernel, by decide +kernel⟩
theorem ok_I6 {f : Addr} {fd : FuncData} (F : FunD K "__init__" "NoInverse.__init__" (defArgs sI6) (defBody sI6) (defScope sI6) [] [] f fd) (O : One K ("NoInverse", ["slide"], false)) :
    FnOk P w K mg base CX0 1 f fd ["self", "slide"] (spInit (ga K "NoInverse") ["slide"]) ∧ Binds K fd ["self", "slide"] [] := by
  refine ⟨F.ok scI6 (fun vs H Q E h => ?_) (fun cdv A outer s H vs Q E hr h => ?_), F.bindsN fun _ _ _ _ _ _ us hl => match us, hl with | [_, _], _ => rfl⟩
  · obtain ⟨a, xs, H0, rfl, hl, _⟩ := h
    rw [List.length_cons, hl]
    rfl
  · obtain ⟨a, xs, H0, rfl, hl, rfl, ha, k⟩ := h
    match xs, hl with
    | [v0], _ =>
      refine ⟨_, PSs.nox (pss_one (ps_st (pv 0) (pv 1))), ?_⟩
      refine ⟨_, rfl, _, rfl, a, _, _, _, rfl, O.T, bs_of _, O.no _ (by simp), .inl ⟨upd_same, fun d hd hda => ?_⟩⟩
      have hd0 : H0 d = none := (upd_ne hda).symm.trans hd
      exact k d _ hd0 hda upd_same ((upd_ne hda).trans upd_same) (fun x n1 n2 => (upd_ne n1).trans ((upd_ne n2).trans (upd_ne n1)))
abbrev sI7 : Stmt := inClass (top 10) 0
theorem scI7 : FnScope ["self", "row"] ["self", "row"] (defScope sI7) := ⟨rfl, rfl, rfl, by decide +kernel, rfl, by decide +kernel, by decide +kernel⟩
theorem ok_I7 {f : Addr} {fd : FuncData} (F : FunD K "__init__" "Twice.__init__" (defArgs sI7) (defBody sI7) (defScope sI7) [] [] f fd) (O : One K ("Twice", ["row"], false)) :
    FnOk P w K mg base CX0 1 f fd ["self", "row"] (spInit (ga K "Twice") ["row"]) ∧ Binds K fd ["self", "row"] [] := by
  refine ⟨F.ok scI7 (fun vs H Q E h => ?_) (fun cdv A outer s H vs Q E hr h => ?_), F.bindsN fun _ _ _ _ _ _ us hl => match us, hl with | [_, _], _ => rfl⟩
  · obtain ⟨a, xs, H0, rfl, hl, _⟩ := h
    rw [List.length_cons, hl]
    rfl
  · obtain ⟨a, xs, H0, rfl, hl, rfl, ha, k⟩ := h
    match xs, hl with
    | [v0], _ =>
      refine ⟨_, PSs.nox (pss_one (ps_st (pv 0) (pv 1))), ?_⟩
      refine ⟨_, rfl, _, rfl, a, _, _, _, rfl, O.T, bs_of _, O.no _ (by simp), .inl ⟨upd_same, fun d hd hda => ?_⟩⟩
      have hd0 : H0 d = none := (upd_ne hda).symm.trans hd
      exact k d _ hd0 hda upd_same ((upd_ne hda).trans upd_same) (fun x n1 n2 => (upd_ne n1).trans ((upd_ne n2).trans (upd_ne n1)))
abbrev sI8 : Stmt := inClass (top 11) 0
theorem scI8 : FnScope ["self", "op"] ["self", "op"] (defScope sI8) := ⟨rfl, rfl, rfl, by decide +kernel, rfl, by decide +kernel, by decide +kernel⟩
theorem ok_I8 {f : Addr} {fd : FuncData} (F : FunD K "__init__" "BadOperation.__init__" (defArgs sI8) (defBody sI8) (defScope sI8) [] [] f fd) (O : One K ("BadOperation", ["op"], false)) :
    FnOk P w K mg base CX0 1 f fd ["self", "op"] (spInit (ga K "BadOperation") ["op"]) ∧ Binds K fd ["self", "op"] [] := by
  refine ⟨F.ok scI8 (fun vs H Q E h => ?_) (fun cdv A outer s H vs Q E hr h => ?_), F.bindsN fun _ _ _ _ _ _ us hl => match us, hl with | [_, _], _ => rfl⟩
  · obtain ⟨a, xs, H0, rfl, hl, _⟩ := h
    rw [List.length_cons, hl]
    rfl
  · obtain ⟨a, xs, H0, rfl, hl, rfl, ha, k⟩ := h
    match xs, hl with
    | [v0], _ =>
      refine ⟨_, PSs.nox (pss_one (ps_st (pv 0) (pv 1))), ?_⟩
      refine ⟨_, rfl, _, rfl, a, _, _, _, rfl, O.T, bs_of _, O.no _ (by simp), .inl ⟨upd_same, fun d hd hda => ?_⟩⟩
      have hd0 : H0 d = none := (upd_ne hda).symm.trans hd
      exact k d _ hd0 hda upd_same ((upd_ne hda).trans upd_same) (fun x n1 n2 => (upd_ne n1).trans ((upd_ne n2).trans (upd_ne n1)))
abbrev sI9 : Stmt := inClass (top 12) 0
theorem scI9 : FnScope ["self", "argument"] ["self", "argument"] (defScope sI9) := ⟨rfl, rfl, rfl, by decide +kernel, rfl, by decide +kernel, by decide +kernel⟩
theorem ok_I9 {f : Addr} {fd : FuncData} (F : FunD K "__init__" "BadCall.__init__" (defArgs sI9) (defBody sI9) (defScope sI9) [] [] f fd) (O : One K ("BadCall", ["argument"], false)) :
    FnOk P w K mg base CX0 1 f fd ["self", "argument"] (spInit (ga K "BadCall") ["argument"]) ∧ Binds K fd ["self", "argument"] [] := by
  refine ⟨F.ok scI9 (fun vs H Q E h => ?_) (fun cdv A outer s H vs Q E hr h => ?_), F.bindsN fun _ _ _ _ _ _ us hl => match us, hl with | [_, _], _ => rfl⟩
  · obtain ⟨a, xs, H0, rfl, hl, _⟩ := h
    rw [List.length_cons, hl]
    rfl
  · obtain ⟨a, xs, H0, rfl, hl, rfl, ha, k⟩ := h
    match xs, hl with
    | [v0], _ =>
      refine ⟨_, PSs.nox (pss_one (ps_st (pv 0) (pv 1))), ?_⟩
      refine ⟨_, rfl, _, rfl, a, _, _, _, rfl, O.T, bs_of _, O.no _ (by simp), .inl ⟨upd_same, fun d hd hda => ?_⟩⟩
      have hd0 : H0 d = none := (upd_ne hda).symm.trans hd
      exact k d _ hd0 hda upd_same ((upd_ne hda).trans upd_same) (fun x n1 n2 => (upd_ne n1).trans ((upd_ne n2).trans (upd_ne n1)))
abbrev sI10 : Stmt := inClass (top 13) 0
theorem scI10 : FnScope ["self", "visit"] ["self", "visit"] (defScope sI10) := ⟨rfl, rfl, rfl, by decide +kernel, rfl, by decide +kernel, by decide +kernel⟩
theorem ok_I10 {f : Addr} {fd : FuncData} (F : FunD K "__init__" "BadVisit.__init__" (defArgs sI10) (defBody sI10) (defScope sI10) [] [] f fd) (O : One K ("BadVisit", ["visit"], false)) :
    FnOk P w K mg base CX0 1 f fd ["self", "visit"] (spInit (ga K "BadVisit") ["visit"]) ∧ Binds K fd ["self", "visit"] [] := by
  refine ⟨F.ok scI10 (fun vs H Q E h => ?_) (fun cdv A outer s H vs Q E hr h => ?_), F.bindsN fun _ _ _ _ _ _ us hl => match us, hl with | [_, _], _ => rfl⟩
  · obtain ⟨a, xs, H0, rfl, hl, _⟩ := h
    rw [List.length_cons, hl]
    rfl
  · obtain ⟨a, xs, H0, rfl, hl, rfl, ha, k⟩ := h
    match xs, hl with
    | [v0], _ =>
      refine ⟨_, PSs.nox (pss_one (ps_st (pv 0) (pv 1))), ?_⟩
      refine ⟨_, rfl, _, rfl, a, _, _, _, rfl, O.T, bs_of _, O.no _ (by simp), .inl ⟨upd_same, fun d hd hda => ?_⟩⟩
      have hd0 : H0 d = none := (upd_ne hda).symm.trans hd
      exact k d _ hd0 hda upd_same ((upd_ne hda).trans upd_same) (fun x n1 n2 => (upd_ne n1).trans ((upd_ne n2).trans (upd_ne n1)))
abbrev sI11 : Stmt := inClass (top 14) 0
theorem scI11 : FnScope ["self", "line"] ["self", "line"] (defScope sI11) := ⟨rfl, rfl, rfl, by decide +kernel, rfl, by decide +kernel, by decide +kernel⟩
theorem ok_I11 {f : Addr} {fd : FuncData} (F : FunD K "__init__" "BadLine.__init__" (defArgs sI11) (defBody sI11) (defScope sI11) [] [] f fd) (O : One K ("BadLine", ["line"], false)) :
    FnOk P w K mg base CX0 1 f fd ["self", "line"] (spInit (ga K "BadLine") ["line"]) ∧ Binds K fd ["self", "line"] [] := by
  refine ⟨F.ok scI11 (fun vs H Q E h => ?_) (fun cdv A outer s H vs Q E hr h => ?_), F.bindsN fun _ _ _ _ _ _ us hl => match us, hl with | [_, _], _ => rfl⟩
  · obtain ⟨a, xs, H0, rfl, hl, _⟩ := h
    rw [List.length_cons, hl]
    rfl
  · obtain ⟨a, xs, H0, rfl, hl, rfl, ha, k⟩ := h
    match xs, hl with
    | [v0], _ =>
      refine ⟨_, PSs.nox (pss_one (ps_st (pv 0) (pv 1))), ?_⟩
      refine ⟨_, rfl, _, rfl, a, _, _, _, rfl, O.T, bs_of _, O.no _ (by simp), .inl ⟨upd_same, fun d hd hda => ?_⟩⟩
      have hd0 : H0 d = none := (upd_ne hda).symm.trans hd
      exact k d _ hd0 hda upd_same ((upd_ne hda).trans upd_same) (fun x n1 n2 => (upd_ne n1).trans ((upd_ne n2).trans (upd_ne n1)))
abbrev sI12 : Stmt := inClass (top 15) 0
theorem scI12 : FnScope ["self", "index"] ["self", "index"] (defScope sI12) := ⟨rfl, rfl, rfl, by decide +kernel, rfl, by decide +kernel, by decide +kernel⟩
theorem ok_I12 {f : Addr} {fd : FuncData} (F : FunD K "__init__" "BadStep.__init__" (defArgs sI12) (defBody sI12) (defScope sI12) [] [] f fd) (O : One K ("BadStep", ["index"], false)) :
    FnOk P w K mg base CX0 1 f fd ["self", "index"] (spInit (ga K "BadStep") ["index"]) ∧ Binds K fd ["self", "index"] [] := by
  refine ⟨F.ok scI12 (fun vs H Q E h => ?_) (fun cdv A outer s H vs Q E hr h => ?_), F.bindsN fun _ _ _ _ _ _ us hl => match us, hl with | [_, _], _ => rfl⟩
  · obtain ⟨a, xs, H0, rfl, hl, _⟩ := h
    rw [List.length_cons, hl]
    rfl
  · obtain ⟨a, xs, H0, rfl, hl, rfl, ha, k⟩ := h
    match xs, hl with
    | [v0], _ =>
      refine ⟨_, PSs.nox (pss_one (ps_st (pv 0) (pv 1))), ?_⟩
      refine ⟨_, rfl, _, rfl, a, _, _, _, rfl, O.T, bs_of _, O.no _ (by simp), .inl ⟨upd_same, fun d hd hda => ?_⟩⟩
      have hd0 : H0 d = none := (upd_ne hda).symm.trans hd
      exact k d _ hd0 hda upd_same ((upd_ne hda).trans upd_same) (fun x n1 n2 => (upd_ne n1).trans ((upd_ne n2).trans (upd_ne n1)))
abbrev sI13 : Stmt := inClass (top 16) 0
theorem scI13 : FnScope ["self", "index"] ["self", "index"] (defScope sI13) := ⟨rfl, rfl, rfl, by decide +kernel, rfl, by decide +kernel, by decide +kernel⟩
theorem ok_I13 {f : Addr} {fd : FuncData} (F : FunD K "__init__" "BadText.__init__" (defArgs sI13) (defBody sI13) (defScope sI13) [] [] f fd) (O : One K ("BadText", ["index"], false)) :
    FnOk P w K mg base CX0 1 f fd ["self", "index"] (spInit (ga K "BadText") ["index"]) ∧ Binds K fd ["self", "index"] [] := by
  refine ⟨F.ok scI13 (fun vs H Q E h => ?_) (fun cdv A outer s H vs Q E hr h => ?_), F.bindsN fun _ _ _ _ _ _ us hl => match us, hl with | [_, _], _ => rfl⟩
  · obtain ⟨a, xs, H0, rfl, hl, _⟩ := h
    rw [List.length_cons, hl]
    rfl
  · obtain ⟨a, xs, H0, rfl, hl, rfl, ha, k⟩ := h
    match xs, hl with
    | [v0], _ =>
      refine ⟨_, PSs.nox (pss_one (ps_st (pv 0) (pv 1))), ?_⟩
      refine ⟨_, rfl, _, rfl, a, _, _, _, rfl, O.T, bs_of _, O.no _ (by simp), .inl ⟨upd_same, fun d hd hda => ?_⟩⟩
      have hd0 : H0 d = none := (upd_ne hda).symm.trans hd
      exact k d _ hd0 hda upd_same ((upd_ne hda).trans upd_same) (fun x n1 n2 => (upd_ne n1).trans ((upd_ne n2).trans (upd_ne n1)))
abbrev sI14 : Stmt := inClass (top 17) 0
theorem scI14 : FnScope ["self", "world"] ["self", "world"] (defScope sI14) := ⟨rfl, rfl, rfl, by decide +kernel, rfl, by decide +kernel, by decide +kernel⟩
theorem ok_I14 {f : Addr} {fd : FuncData} (F : FunD K "__init__" "BadWorld.__init__" (defArgs sI14) (defBody sI14) (defScope sI14) [] [] f fd) (O : One K ("BadWorld", ["world"], false)) :
    FnOk P w K mg base CX0 1 f fd ["self", "world"] (spInit (ga K "BadWorld") ["world"]) ∧ Binds K fd ["self", "world"] [] := by
  refine ⟨F.ok scI14 (fun vs H Q E h => ?_) (fun cdv A outer s H vs Q E hr h => ?_), F.bindsN fun _ _ _ _ _ _ us hl => match us, hl with | [_, _], _ => rfl⟩
  · obtain ⟨a, xs, H0, rfl, hl, _⟩ := h
    rw [List.length_cons, hl]
    rfl
  · obtain ⟨a, xs, H0, rfl, hl, rfl, ha, k⟩ := h
    match xs, hl with
    | [v0], _ =>
      refine ⟨_, PSs.nox (pss_one (ps_st (pv 0) (pv 1))), ?_⟩
      refine ⟨_, rfl, _, rfl, a, _, _, _, rfl, O.T, bs_of _, O.no _ (by simp), .inl ⟨upd_same, fun d hd hda => ?_⟩⟩
      have hd0 : H0 d = none := (upd_ne hda).symm.trans hd
      exact k d _ hd0 hda upd_same ((upd_ne hda).trans upd_same) (fun x n1 n2 => (upd_ne n1).trans ((upd_ne n2).trans (upd_ne n1)))
abbrev sI15 : Stmt := inClass (top 18) 0
theorem scI15 : FnScope ["self", "name"] ["self", "name"] (defScope sI15) := ⟨rfl, rfl, rfl, by decide +kernel, rfl, by decide +kernel, by decide +kernel⟩
theorem ok_I15 {f : Addr} {fd : FuncData} (F : FunD K "__init__" "BadNumber.__init__" (defArgs sI15) (defBody sI15) (defScope sI15) [] [] f fd) (O : One K ("BadNumber", ["name"], false)) :
    FnOk P w K mg base CX0 1 f fd ["self", "name"] (spInit (ga K "BadNumber") ["name"]) ∧ Binds K fd ["self", "name"] [] := by
  refine ⟨F.ok scI15 (fun vs H Q E h => ?_) (fun cdv A outer s H vs Q E hr h => ?_), F.bindsN fun _ _ _ _ _ _ us hl => match us, hl with | [_, _], _ => rfl⟩
  · obtain ⟨a, xs, H0, rfl, hl, _⟩ := h
    rw [List.length_cons, hl]
    rfl
  · obtain ⟨a, xs, H0, rfl, hl, rfl, ha, k⟩ := h
    match xs, hl with
    | [v0], _ =>
      refine ⟨_, PSs.nox (pss_one (ps_st (pv 0) (pv 1))), ?_⟩
      refine ⟨_, rfl, _, rfl, a, _, _, _, rfl, O.T, bs_of _, O.no _ (by simp), .inl ⟨upd_same, fun d hd hda => ?_⟩⟩
      have hd0 : H0 d = none := (upd_ne hda).symm.trans hd
      exact k d _ hd0 hda upd_same ((upd_ne hda).trans upd_same) (fun x n1 n2 => (upd_ne n1).trans ((upd_ne n2).trans (upd_ne n1)))
abbrev sI16 : Stmt := inClass (top 19) 0
theorem scI16 : FnScope ["self", "spot"] ["self", "spot"] (defScope sI16) := ⟨rfl, rfl, rfl, by decide +kernel, rfl, by decide +kernel, by decide +kernel⟩
theorem ok_I16 {f : Addr} {fd : FuncData} (F : FunD K "__init__" "BadSpot.__init__" (defArgs sI16) (defBody sI16) (defScope sI16) [] [] f fd) (O : One K ("BadSpot", ["spot"], false)) :
    FnOk P w K mg base CX0 1 f fd ["self", "spot"] (spInit (ga K "BadSpot") ["spot"]) ∧ Binds K fd ["self", "spot"] [] := by
  refine ⟨F.ok scI16 (fun vs H Q E h => ?_) (fun cdv A outer s H vs Q E hr h => ?_), F.bindsN fun _ _ _ _ _ _ us hl => match us, hl with | [_, _], _ => rfl⟩
  · obtain ⟨a, xs, H0, rfl, hl, _⟩ := h
    rw [List.length_cons, hl]
    rfl
  · obtain ⟨a, xs, H0, rfl, hl, rfl, ha, k⟩ := h
    match xs, hl with
    | [v0], _ =>
      refine ⟨_, PSs.nox (pss_one (ps_st (pv 0) (pv 1))), ?_⟩
      refine ⟨_, rfl, _, rfl, a, _, _, _, rfl, O.T, bs_of _, O.no _ (by simp), .inl ⟨upd_same, fun d hd hda => ?_⟩⟩
      have hd0 : H0 d = none := (upd_ne hda).symm.trans hd
      exact k d _ hd0 hda upd_same ((upd_ne hda).trans upd_same) (fun x n1 n2 => (upd_ne n1).trans ((upd_ne n2).trans (upd_ne n1)))
abbrev sI17 : Stmt := inClass (top 20) 0
theorem scI17 : FnScope ["self", "index"] ["self", "index"] (defScope sI17) := ⟨rfl, rfl, rfl, by decide +kernel, rfl, by decide +kernel, by decide +kernel⟩
theorem ok_I17 {f : Addr} {fd : FuncData} (F : FunD K "__init__" "BadBound.__init__" (defArgs sI17) (defBody sI17) (defScope sI17) [] [] f fd) (O : One K ("BadBound", ["index"], false)) :
    FnOk P w K mg base CX0 1 f fd ["self", "index"] (spInit (ga K "BadBound") ["index"]) ∧ Binds K fd ["self", "index"] [] := by
  refine ⟨F.ok scI17 (fun vs H Q E h => ?_) (fun cdv A outer s H vs Q E hr h => ?_), F.bindsN fun _ _ _ _ _ _ us hl => match us, hl with | [_, _], _ => rfl⟩
  · obtain ⟨a, xs, H0, rfl, hl, _⟩ := h
    rw [List.length_cons, hl]
    rfl
  · obtain ⟨a, xs, H0, rfl, hl, rfl, ha, k⟩ := h
    match xs, hl with
    | [v0], _ =>
      refine ⟨_, PSs.nox (pss_one (ps_st (pv 0) (pv 1))), ?_⟩
      refine ⟨_, rfl, _, rfl, a, _, _, _, rfl, O.T, bs_of _, O.no _ (by simp), .inl ⟨upd_same, fun d hd hda => ?_⟩⟩
      have hd0 : H0 d = none := (upd_ne hda).symm.trans hd
      exact k d _ hd0 hda upd_same ((upd_ne hda).trans upd_same) (fun x n1 n2 => (upd_ne n1).trans ((upd_ne n2).trans (upd_ne n1)))
abbrev sI18 : Stmt := inClass (top 21) 0
theorem scI18 : FnScope ["self", "kind"] ["self", "kind"] (defScope sI18) := ⟨rfl, rfl, rfl, by decide +kernel, rfl, by decide +kernel, by decide +kernel⟩
theorem ok_I18 {f : Addr} {fd : FuncData} (F : FunD K "__init__" "BadKind.__init__" (defArgs sI18) (defBody sI18) (defScope sI18) [] [] f fd) (O : One K ("BadKind", ["kind"], false)) :
    FnOk P w K mg base CX0 1 f fd ["self", "kind"] (spInit (ga K "BadKind") ["kind"]) ∧ Binds K fd ["self", "kind"] [] := by
  refine ⟨F.ok scI18 (fun vs H Q E h => ?_) (fun cdv A outer s H vs Q E hr h => ?_), F.bindsN fun _ _ _ _ _ _ us hl => match us, hl with | [_, _], _ => rfl⟩
  · obtain ⟨a, xs, H0, rfl, hl, _⟩ := h
    rw [List.length_cons, hl]
    rfl
  · obtain ⟨a, xs, H0, rfl, hl, rfl, ha, k⟩ := h
    match xs, hl with
    | [v0], _ =>
      refine ⟨_, PSs.nox (pss_one (ps_st (pv 0) (pv 1))), ?_⟩
      refine ⟨_, rfl, _, rfl, a, _, _, _, rfl, O.T, bs_of _, O.no _ (by simp), .inl ⟨upd_same, fun d hd hda => ?_⟩⟩
      have hd0 : H0 d = none := (upd_ne hda).symm.trans hd
      exact k d _ hd0 hda upd_same ((upd_ne hda).trans upd_same) (fun x n1 n2 => (upd_ne n1).trans ((upd_ne n2).trans (upd_ne n1)))
abbrev sI19 : Stmt := inClass (top 22) 0
theorem scI19 : FnScope ["self", "op"] ["self", "op"] (defScope sI19) := ⟨rfl, rfl, rfl, by decide +kernel, rfl, by decide +kernel, by decide +kernel⟩
theorem ok_I19 {f : Addr} {fd : FuncData} (F : FunD K "__init__" "OtherOperation.__init__" (defArgs sI19) (defBody sI19) (defScope sI19) [] [] f fd) (O : One K ("OtherOperation", ["op"], false)) :
    FnOk P w K mg base CX0 1 f fd ["self", "op"] (spInit (ga K "OtherOperation") ["op"]) ∧ Binds K fd ["self", "op"] [] := by
  refine ⟨F.ok scI19 (fun vs H Q E h => ?_) (fun cdv A outer s H vs Q E hr h => ?_), F.bindsN fun _ _ _ _ _ _ us hl => match us, hl with | [_, _], _ => rfl⟩
  · obtain ⟨a, xs, H0, rfl, hl, _⟩ := h
    rw [List.length_cons, hl]
    rfl
  · obtain ⟨a, xs, H0, rfl, hl, rfl, ha, k⟩ := h
    match xs, hl with
    | [v0], _ =>
      refine ⟨_, PSs.nox (pss_one (ps_st (pv 0) (pv 1))), ?_⟩
      refine ⟨_, rfl, _, rfl, a, _, _, _, rfl, O.T, bs_of _, O.no _ (by simp), .inl ⟨upd_same, fun d hd hda => ?_⟩⟩
      have hd0 : H0 d = none := (upd_ne hda).symm.trans hd
      exact k d _ hd0 hda upd_same ((upd_ne hda).trans upd_same) (fun x n1 n2 => (upd_ne n1).trans ((upd_ne n2).trans (upd_ne n1)))
abbrev sI20 : Stmt := inClass (top 23) 0
theorem scI20 : FnScope ["self", "order"] ["self", "order"] (defScope sI20) := ⟨rfl, rfl, rfl, by decide +kernel, rfl, by decide +kernel, by decide +kernel⟩
theorem ok_I20 {f : Addr} {fd : FuncData} (F : FunD K "__init__" "BadOrder.__init__" (defArgs sI20) (defBody sI20) (defScope sI20) [] [] f fd) (O : One K ("BadOrder", ["order"], false)) :
    FnOk P w K mg base CX0 1 f fd ["self", "order"] (spInit (ga K "BadOrder") ["order"]) ∧ Binds K fd ["self", "order"] [] := by
  refine ⟨F.ok scI20 (fun vs H Q E h => ?_) (fun cdv A outer s H vs Q E hr h => ?_), F.bindsN fun _ _ _ _ _ _ us hl => match us, hl with | [_, _], _ => rfl⟩
  · obtain ⟨a, xs, H0, rfl, hl, _⟩ := h
    rw [List.length_cons, hl]
    rfl
  · obtain ⟨a, xs, H0, rfl, hl, rfl, ha, k⟩ := h
    match xs, hl with
    | [v0], _ =>
      refine ⟨_, PSs.nox (pss_one (ps_st (pv 0) (pv 1))), ?_⟩
      refine ⟨_, rfl, _, rfl, a, _, _, _, rfl, O.T, bs_of _, O.no _ (by simp), .inl ⟨upd_same, fun d hd hda => ?_⟩⟩
      have hd0 : H0 d = none := (upd_ne hda).symm.trans hd
      exact k d _ hd0 hda upd_same ((upd_ne hda).trans upd_same) (fun x n1 n2 => (upd_ne n1).trans ((upd_ne n2).trans (upd_ne n1)))
abbrev sI21 : Stmt := inClass (top 24) 0
theorem scI21 : FnScope ["self", "first", "second"] ["self", "first", "second"] (defScope sI21) := ⟨rfl, rfl, rfl, by decide +kernel, rfl, by decide +kernel, by decide +kernel⟩
theorem ok_I21 {f : Addr} {fd : FuncData} (F : FunD K "__init__" "BadPair.__init__" (defArgs sI21) (defBody sI21) (defScope sI21) [] [] f fd) (O : One K ("BadPair", ["first", "second"], false)) :
    FnOk P w K mg base CX0 1 f fd ["self", "first", "second"] (spInit (ga K "BadPair") ["first", "second"]) ∧ Binds K fd ["self", "first", "second"] [] := by
  refine ⟨F.ok scI21 (fun vs H Q E h => ?_) (fun cdv A outer s H vs Q E hr h => ?_), F.bindsN fun _ _ _ _ _ _ us hl => match us, hl with | [_, _, _], _ => rfl⟩
  · obtain ⟨a, xs, H0, rfl, hl, _⟩ := h
    rw [List.length_cons, hl]
    rfl
  · obtain ⟨a, xs, H0, rfl, hl, rfl, ha, k⟩ := h
    match xs, hl with
    | [v0, v1], _ =>
      refine ⟨_, PSs.nox (pss_cons (ps_st (pv 0) (pv 1)) (pss_one (ps_st (pv 0) (pv 2)))), ?_⟩
      refine ⟨_, rfl, _, rfl, a, _, _, _, rfl, O.T, bs_of _, O.no _ (by simp), .inl ⟨upd_same, fun d hd hda => ?_⟩⟩
      have hd0 : H0 d = none := (upd_ne hda).symm.trans hd
      refine ⟨_, rfl, _, rfl, a, _, _, _, rfl, O.T, bs_of _, O.no _ (by simp), .inr ⟨d, _, upd_same, (upd_ne hda).trans upd_same, Nat.le_of_ble_eq_true rfl, ?_⟩⟩
      exact k d _ hd0 hda ((upd_ne hda.symm).trans upd_same) upd_same (fun x n1 n2 => (upd_ne n2).trans ((upd_ne n1).trans ((upd_ne n2).trans (upd_ne n1))))
abbrev sI22 : Stmt := inClass (top 25) 0
theorem scI22 : FnScope ["self", "rule"] ["self", "rule"] (defScope sI22) := ⟨rfl, rfl, rfl, by decide +kernel, rfl, by decide +kernel, by decide +kernel⟩
theorem ok_I22 {f : Addr} {fd : FuncData} (F : FunD K "__init__" "BadRule.__init__" (defArgs sI22) (defBody sI22) (defScope sI22) [] [] f fd) (O : One K ("BadRule", ["rule"], false)) :
    FnOk P w K mg base CX0 1 f fd ["self", "rule"] (spInit (ga K "BadRule") ["rule"]) ∧ Binds K fd ["self", "rule"] [] := by
  refine ⟨F.ok scI22 (fun vs H Q E h => ?_) (fun cdv A outer s H vs Q E hr h => ?_), F.bindsN fun _ _ _ _ _ _ us hl => match us, hl with | [_, _], _ => rfl⟩
  · obtain ⟨a, xs, H0, rfl, hl, _⟩ := h
    rw [List.length_cons, hl]
    rfl
  · obtain ⟨a, xs, H0, rfl, hl, rfl, ha, k⟩ := h
    match xs, hl with
    | [v0], _ =>
      refine ⟨_, PSs.nox (pss_one (ps_st (pv 0) (pv 1))), ?_⟩
      refine ⟨_, rfl, _, rfl, a, _, _, _, rfl, O.T, bs_of _, O.no _ (by simp), .inl ⟨upd_same, fun d hd hda => ?_⟩⟩
      have hd0 : H0 d = none := (upd_ne hda).symm.trans hd
      exact k d _ hd0 hda upd_same ((upd_ne hda).trans upd_same) (fun x n1 n2 => (upd_ne n1).trans ((upd_ne n2).trans (upd_ne n1)))
abbrev sI23 : Stmt := inClass (top 26) 0
theorem scI23 : FnScope ["self", "mend"] ["self", "mend"] (defScope sI23) := ⟨rfl, rfl, rfl, by decide +kernel, rfl, by decide +kernel, by decide +kernel⟩
theorem ok_I23 {f : Addr} {fd : FuncData} (F : FunD K "__init__" "BadMend.__init__" (defArgs sI23) (defBody sI23) (defScope sI23) [] [] f fd) (O : One K ("BadMend", ["mend"], false)) :
    FnOk P w K mg base CX0 1 f fd ["self", "mend"] (spInit (ga K "BadMend") ["mend"]) ∧ Binds K fd ["self", "mend"] [] := by
  refine ⟨F.ok scI23 (fun vs H Q E h => ?_) (fun cdv A outer s H vs Q E hr h => ?_), F.bindsN fun _ _ _ _ _ _ us hl => match us, hl with | [_, _], _ => rfl⟩
  · obtain ⟨a, xs, H0, rfl, hl, _⟩ := h
    rw [List.length_cons, hl]
    rfl
  · obtain ⟨a, xs, H0, rfl, hl, rfl, ha, k⟩ := h
    match xs, hl with
    | [v0], _ =>
      refine ⟨_, PSs.nox (pss_one (ps_st (pv 0) (pv 1))), ?_⟩
      refine ⟨_, rfl, _, rfl, a, _, _, _, rfl, O.T, bs_of _, O.no _ (by simp), .inl ⟨upd_same, fun d hd hda => ?_⟩⟩
      have hd0 : H0 d = none := (upd_ne hda).symm.trans hd
      exact k d _ hd0 hda upd_same ((upd_ne hda).trans upd_same) (fun x n1 n2 => (upd_ne n1).trans ((upd_ne n2).trans (upd_ne n1)))
abbrev sI24 : Stmt := inClass (top 27) 0
theorem scI24 : FnScope ["self", "limit"] ["self", "limit"] (defScope sI24) := ⟨rfl, rfl, rfl, by decide +kernel, rfl, by decide +kernel, by decide +kernel⟩
theorem ok_I24 {f : Addr} {fd : FuncData} (F : FunD K "__init__" "TooMany.__init__" (defArgs sI24) (defBody sI24) (defScope sI24) [] [] f fd) (O : One K ("TooMany", ["limit"], false)) :
    FnOk P w K mg base CX0 1 f fd ["self", "limit"] (spInit (ga K "TooMany") ["limit"]) ∧ Binds K fd ["self", "limit"] [] := by
  refine ⟨F.ok scI24 (fun vs H Q E h => ?_) (fun cdv A outer s H vs Q E hr h => ?_), F.bindsN fun _ _ _ _ _ _ us hl => match us, hl with | [_, _], _ => rfl⟩
  · obtain ⟨a, xs, H0, rfl, hl, _⟩ := h
    rw [List.length_cons, hl]
    rfl
  · obtain ⟨a, xs, H0, rfl, hl, rfl, ha, k⟩ := h
    match xs, hl with
    | [v0], _ =>
      refine ⟨_, PSs.nox (pss_one (ps_st (pv 0) (pv 1))), ?_⟩
      refine ⟨_, rfl, _, rfl, a, _, _, _, rfl, O.T, bs_of _, O.no _ (by simp), .inl ⟨upd_same, fun d hd hda => ?_⟩⟩
      have hd0 : H0 d = none := (upd_ne hda).symm.trans hd
      exact k d _ hd0 hda upd_same ((upd_ne hda).trans upd_same) (fun x n1 n2 => (upd_ne n1).trans ((upd_ne n2).trans (upd_ne n1)))
abbrev sI25 : Stmt := inClass (top 28) 0
theorem scI25 : FnScope ["self", "step", "row", "other"] ["self", "step", "row", "other"] (defScope sI25) := ⟨rfl, rfl, rfl, by decide +kernel, rfl, by decide +kernel, by decide +kernel⟩
theorem ok_I25 {f : Addr} {fd : FuncData} (F : FunD K "__init__" "Clash.__init__" (defArgs sI25) (defBody sI25) (defScope sI25) [] [] f fd) (O : One K ("Clash", ["step", "row", "other"], false)) :
    FnOk P w K mg base CX0 1 f fd ["self", "step", "row", "other"] (spInit (ga K "Clash") ["step", "row", "other"]) ∧ Binds K fd ["self", "step", "row", "other"] [] := by
  refine ⟨F.ok scI25 (fun vs H Q E h => ?_) (fun cdv A outer s H vs Q E hr h => ?_), F.bindsN fun _ _ _ _ _ _ us hl => match us, hl with | [_, _, _, _], _ => rfl⟩
  · obtain ⟨a, xs, H0, rfl, hl, _⟩ := h
    rw [List.length_cons, hl]
    rfl
  · obtain ⟨a, xs, H0, rfl, hl, rfl, ha, k⟩ := h
    match xs, hl with
    | [v0, v1, v2], _ =>
      refine ⟨_, PSs.nox (pss_cons (ps_st (pv 0) (pv 1)) (pss_cons (ps_st (pv 0) (pv 2)) (pss_one (ps_st (pv 0) (pv 3))))), ?_⟩
      refine ⟨_, rfl, _, rfl, a, _, _, _, rfl, O.T, bs_of _, O.no _ (by simp), .inl ⟨upd_same, fun d hd hda => ?_⟩⟩
      have hd0 : H0 d = none := (upd_ne hda).symm.trans hd
      refine ⟨_, rfl, _, rfl, a, _, _, _, rfl, O.T, bs_of _, O.no _ (by simp), .inr ⟨d, _, upd_same, (upd_ne hda).trans upd_same, Nat.le_of_ble_eq_true rfl, ?_⟩⟩
      refine ⟨_, rfl, _, rfl, a, _, _, _, rfl, O.T, bs_of _, O.no _ (by simp), .inr ⟨d, _, (upd_ne hda.symm).trans upd_same, upd_same, Nat.le_of_ble_eq_true rfl, ?_⟩⟩
      exact k d _ hd0 hda ((upd_ne hda.symm).trans ((upd_ne hda.symm).trans upd_same)) upd_same (fun x n1 n2 => (upd_ne n2).trans ((upd_ne n2).trans ((upd_ne n1).trans ((upd_ne n2).trans (upd_ne n1)))))
abbrev sI26 : Stmt := inClass (top 29) 0
theorem scI26 : FnScope ["self", "index", "reason"] ["self", "index", "reason"] (defScope sI26) := ⟨rfl, rfl, rfl, by decide +kernel, rfl, by decide +kernel, by decide +kernel⟩
theorem ok_I26 {f : Addr} {fd : FuncData} (F : FunD K "__init__" "CallFailed.__init__" (defArgs sI26) (defBody sI26) (defScope sI26) [] [] f fd) (O : One K ("CallFailed", ["index", "reason"], false)) :
    FnOk P w K mg base CX0 1 f fd ["self", "index", "reason"] (spInit (ga K "CallFailed") ["index", "reason"]) ∧ Binds K fd ["self", "index", "reason"] [] := by
  refine ⟨F.ok scI26 (fun vs H Q E h => ?_) (fun cdv A outer s H vs Q E hr h => ?_), F.bindsN fun _ _ _ _ _ _ us hl => match us, hl with | [_, _, _], _ => rfl⟩
  · obtain ⟨a, xs, H0, rfl, hl, _⟩ := h
    rw [List.length_cons, hl]
    rfl
  · obtain ⟨a, xs, H0, rfl, hl, rfl, ha, k⟩ := h
    match xs, hl with
    | [v0, v1], _ =>
      refine ⟨_, PSs.nox (pss_cons (ps_st (pv 0) (pv 1)) (pss_one (ps_st (pv 0) (pv 2)))), ?_⟩
      refine ⟨_, rfl, _, rfl, a, _, _, _, rfl, O.T, bs_of _, O.no _ (by simp), .inl ⟨upd_same, fun d hd hda => ?_⟩⟩
      have hd0 : H0 d = none := (upd_ne hda).symm.trans hd
      refine ⟨_, rfl, _, rfl, a, _, _, _, rfl, O.T, bs_of _, O.no _ (by simp), .inr ⟨d, _, upd_same, (upd_ne hda).trans upd_same, Nat.le_of_ble_eq_true rfl, ?_⟩⟩
      exact k d _ hd0 hda ((upd_ne hda.symm).trans upd_same) upd_same (fun x n1 n2 => (upd_ne n2).trans ((upd_ne n1).trans ((upd_ne n2).trans (upd_ne n1))))
end
end K90

set_option Elab.async false
set_option linter.all false
set_option maxRecDepth 100000
set_option maxHeartbeats 4000000
namespace K90
open PySem PySem.Spec PyProof.Rows L2 He KX
/-- v is an own exception of the class c with these fields -/
def Exc (K : PySem.W.Frag) (H : Hp) (v : V) (c : Cls1) (fl : List (Str × V)) : Prop := ∃ a d, v = .ref a ∧ H a = some (exo a (ga K c.1) (some d)) ∧ H d = some (exd d fl)
theorem Exc.same {K : PySem.W.Frag} {H H' : Hp} {v : V} {c : Cls1} {fl : List (Str × V)} (s : Same H H') (h : Exc K H v c fl) : Exc K H' v c fl := by
  obtain ⟨a, d, rfl, e1, e2⟩ := h
  exact ⟨a, d, rfl, s _ _ e1, s _ _ e2⟩
inductive Excs (K : PySem.W.Frag) (H : Hp) : List V → List (Cls1 × List (Str × V)) → Prop where
  | nil : Excs K H [] []
  | snoc {xs : List V} {cs : List (Cls1 × List (Str × V))} {v : V} {c : Cls1} {fl : List (Str × V)} : Excs K H xs cs → Exc K H v c fl → Excs K H (xs ++ [v]) (cs ++ [(c, fl)])
theorem Excs.same {K : PySem.W.Frag} {H H' : Hp} (s : Same H H') {xs : List V} {cs : List (Cls1 × List (Str × V))} (h : Excs K H xs cs) : Excs K H' xs cs := by
  induction h with
  | nil => exact .nil
  | snoc _ e ih => exact .snoc ih (e.same s)
theorem Excs.append {K : PySem.W.Frag} {H : Hp} {xs ys : List V} {cs ds : List (Cls1 × List (Str × V))} (h : Excs K H xs cs) (k : Excs K H ys ds) : Excs K H (xs ++ ys) (cs ++ ds) := by
  induction k with
  | nil =>
    rw [List.append_nil, List.append_nil]
    exact h
  | snoc _ e ih =>
    rw [← List.append_assoc, ← List.append_assoc]
    exact .snoc ih e
theorem Excs.len {K : PySem.W.Frag} {H : Hp} {xs : List V} {cs : List (Cls1 × List (Str × V))} (h : Excs K H xs cs) : xs.length = cs.length := by
  induction h with
  | nil => rfl
  | snoc _ _ ih => rw [List.length_append, List.length_append, ih]; rfl
theorem Excs.get {K : PySem.W.Frag} {H : Hp} {xs : List V} {cs : List (Cls1 × List (Str × V))} (h : Excs K H xs cs) : ∀ {i : Nat} {c : Cls1} {fl : List (Str × V)}, cs[i]? = some (c, fl) → ∃ v, xs[i]? = some v ∧ Exc K H v c fl := by
  induction h with
  | nil => intro i c fl e; cases e
  | @snoc xs cs v c0 fl0 h0 e0 ih =>
    intro i c fl e
    have hl := h0.len
    by_cases hi : i < cs.length
    · rw [List.getElem?_append_left hi] at e
      rw [List.getElem?_append_left (by omega)]
      exact ih e
    · rw [List.getElem?_append_right (by omega)] at e
      have e1 : i - cs.length = 0 := by
        have q := (List.getElem?_eq_some_iff.mp e).1
        rw [List.length_singleton] at q
        omega
      rw [e1] at e
      obtain ⟨rfl, rfl⟩ := Prod.mk.inj (Option.some.inj e)
      rw [List.getElem?_append_right (by omega), hl, e1]
      exact ⟨v, rfl, e0⟩
/-- the row of what is made, growing -/
structure Ms (K : PySem.W.Frag) (H0 H : Hp) (xs : List V) (cs : List (Cls1 × List (Str × V))) : Prop where
  same : Same H0 H
  is : Excs K H xs cs
theorem Ms.start {K : PySem.W.Frag} {H : Hp} : Ms K H H [] [] := ⟨Same.refl H, .nil⟩
theorem same_mk {a d : Addr} {H H' : Hp} (ha : H a = none) (hd : H d = none) (e3 : ∀ x, x ≠ a → x ≠ d → H' x = H x) : Same H H' := fun x o e => (e3 x (ne_of_none e ha) (ne_of_none e hd)).trans e
theorem Ms.more {K : PySem.W.Frag} {H0 H H' : Hp} {xs : List V} {cs : List (Cls1 × List (Str × V))} (m : Ms K H0 H xs cs) (c : Cls1) {fl : List (Str × V)} {a d : Addr} (ha : H a = none) (hd : H d = none) (e1 : H' a = some (exo a (ga K c.1) (some d))) (e2 : H' d = some (exd d fl))
    (e3 : ∀ x, x ≠ a → x ≠ d → H' x = H x) : Ms K H0 H' (xs ++ [.ref a]) (cs ++ [(c, fl)]) :=
  have s := same_mk ha hd e3
  ⟨m.same.trans s, .snoc (m.is.same s) ⟨a, d, rfl, e1, e2⟩⟩
theorem Ms.put {K : PySem.W.Frag} {H0 H : Hp} {xs : List V} {cs : List (Cls1 × List (Str × V))} (m : Ms K H0 H xs cs) {p : Addr} {o : HO} (hp : H p = none) : Ms K H0 (upd H p o) xs cs :=
  have s : Same H (upd H p o) := fun x u e => (upd_ne (ne_of_none e hp)).trans e
  ⟨m.same.trans s, m.is.same s⟩
def want (x y z : V) : List (Cls1 × List (Str × V)) := [(("NoRow", ["row"], true), [("row", x)]),
  (("NoPlace", ["lst", "place"], true), [("place", y), ("lst", x)]),
  (("NoHandler", ["name"], true), [("name", x)]),
  (("BadName", ["name"], false), [("name", x)]),
  (("BadPlace", ["place"], false), [("place", x)]),
  (("BadSlide", ["index"], false), [("index", x)]),
  (("NoInverse", ["slide"], false), [("slide", x)]),
  (("Twice", ["row"], false), [("row", x)]),
  (("BadOperation", ["op"], false), [("op", x)]),
  (("BadCall", ["argument"], false), [("argument", x)]),
  (("BadVisit", ["visit"], false), [("visit", x)]),
  (("BadLine", ["line"], false), [("line", x)]),
  (("BadStep", ["index"], false), [("index", x)]),
  (("BadText", ["index"], false), [("index", x)]),
  (("BadWorld", ["world"], false), [("world", x)]),
  (("BadNumber", ["name"], false), [("name", x)]),
  (("BadSpot", ["spot"], false), [("spot", x)]),
  (("BadBound", ["index"], false), [("index", x)]),
  (("BadKind", ["kind"], false), [("kind", x)]),
  (("OtherOperation", ["op"], false), [("op", x)]),
  (("BadOrder", ["order"], false), [("order", x)]),
  (("BadPair", ["first", "second"], false), [("second", y), ("first", x)]),
  (("BadRule", ["rule"], false), [("rule", x)]),
  (("BadMend", ["mend"], false), [("mend", x)]),
  (("TooMany", ["limit"], false), [("limit", x)]),
  (("Clash", ["step", "row", "other"], false), [("other", z), ("row", y), ("step", x)]),
  (("CallFailed", ["index", "reason"], false), [("reason", y), ("index", x)])]
/-- _law_made(a, b, c) -/
def spMade (K : PySem.W.Frag) : Sp := fun vs H Q _ => ∃ x y z, vs = [x, y, z] ∧ ∀ (p : Addr) (xs : List V) (H' : Hp), H p = none → Same H H' → H' p = some (.lst xs) → Excs K H' xs (want x y z) → Q (.ref p) H'
section
variable {P : Program} {w : World} {K : PySem.W.Frag} {mg : Str → Option Value} {base : Heap}
theorem scMade : FnScope ["a", "b", "c", "found"] ["a", "b", "c"] (defScope sMade) := ⟨rfl, rfl, rfl, by decide +kernel, rfl, by decide +kernel, by decide +kernel⟩
theorem ok_made {f : Addr} {fd : FuncData} (F : FnP K "_law_made" sMade f fd) (M : ∀ c ∈ cx, MkC P w K mg base c) : FnOk P w K mg base CX0 3 f fd ["a", "b", "c"] (spMade K) := by
  refine F.ok scMade (fun vs H Q E h => ?_) (fun cdv A outer s H vs Q E hr h => ?_)
  · obtain ⟨x, y, z, rfl, _⟩ := h
    rfl
  · obtain ⟨x, y, z, rfl, k⟩ := h
    refine ⟨_, PSs.nox (pss_cons (ps_set (i := 3) scMade.nd rfl (Or.inl rfl) (pe_lst (pa_cons (pe_mk ("NoRow", ["row"], true) (M _ (List.mem_of_getElem? (i := 0) rfl)) hr pass0 (pa_cons (pv 0) pa_nil)) (pa_cons (pe_mk ("NoPlace", ["lst", "place"], true) (M _ (List.mem_of_getElem? (i := 1) rfl)) hr pass0 (pa_cons (pv 0) (pa_cons (pv 1) pa_nil))) (pa_cons (pe_mk ("NoHandler", ["name"], true) (M _ (List.mem_of_getElem? (i := 2) rfl)) hr pass0 (pa_cons (pv 0) pa_nil)) (pa_cons (pe_mk ("BadName", ["name"], false) (M _ (List.mem_of_getElem? (i := 3) rfl)) hr pass0 (pa_cons (pv 0) pa_nil)) (pa_cons (pe_mk ("BadPlace", ["place"], false) (M _ (List.mem_of_getElem? (i := 4) rfl)) hr pass0 (pa_cons (pv 0) pa_nil)) (pa_cons (pe_mk ("BadSlide", ["index"], false) (M _ (List.mem_of_getElem? (i := 5) rfl)) hr pass0 (pa_cons (pv 0) pa_nil)) (pa_cons (pe_mk ("NoInverse", ["slide"], false) (M _ (List.mem_of_getElem? (i := 6) rfl)) hr pass0 (pa_cons (pv 0) pa_nil)) (pa_cons (pe_mk ("Twice", ["row"], false) (M _ (List.mem_of_getElem? (i := 7) rfl)) hr pass0 (pa_cons (pv 0) pa_nil)) pa_nil))))))))))
      (pss_cons (ps_set (i := 3) scMade.nd rfl (Or.inl rfl) (pe_op op_cat (pv 3) (pe_lst (pa_cons (pe_mk ("BadOperation", ["op"], false) (M _ (List.mem_of_getElem? (i := 8) rfl)) hr pass0 (pa_cons (pv 0) pa_nil)) (pa_cons (pe_mk ("BadCall", ["argument"], false) (M _ (List.mem_of_getElem? (i := 9) rfl)) hr pass0 (pa_cons (pv 0) pa_nil)) (pa_cons (pe_mk ("BadVisit", ["visit"], false) (M _ (List.mem_of_getElem? (i := 10) rfl)) hr pass0 (pa_cons (pv 0) pa_nil)) (pa_cons (pe_mk ("BadLine", ["line"], false) (M _ (List.mem_of_getElem? (i := 11) rfl)) hr pass0 (pa_cons (pv 0) pa_nil)) (pa_cons (pe_mk ("BadStep", ["index"], false) (M _ (List.mem_of_getElem? (i := 12) rfl)) hr pass0 (pa_cons (pv 0) pa_nil)) (pa_cons (pe_mk ("BadText", ["index"], false) (M _ (List.mem_of_getElem? (i := 13) rfl)) hr pass0 (pa_cons (pv 0) pa_nil)) (pa_cons (pe_mk ("BadWorld", ["world"], false) (M _ (List.mem_of_getElem? (i := 14) rfl)) hr pass0 (pa_cons (pv 0) pa_nil)) pa_nil))))))))))
      (pss_cons (ps_set (i := 3) scMade.nd rfl (Or.inl rfl) (pe_op op_cat (pv 3) (pe_lst (pa_cons (pe_mk ("BadNumber", ["name"], false) (M _ (List.mem_of_getElem? (i := 15) rfl)) hr pass0 (pa_cons (pv 0) pa_nil)) (pa_cons (pe_mk ("BadSpot", ["spot"], false) (M _ (List.mem_of_getElem? (i := 16) rfl)) hr pass0 (pa_cons (pv 0) pa_nil)) (pa_cons (pe_mk ("BadBound", ["index"], false) (M _ (List.mem_of_getElem? (i := 17) rfl)) hr pass0 (pa_cons (pv 0) pa_nil)) (pa_cons (pe_mk ("BadKind", ["kind"], false) (M _ (List.mem_of_getElem? (i := 18) rfl)) hr pass0 (pa_cons (pv 0) pa_nil)) (pa_cons (pe_mk ("OtherOperation", ["op"], false) (M _ (List.mem_of_getElem? (i := 19) rfl)) hr pass0 (pa_cons (pv 0) pa_nil)) (pa_cons (pe_mk ("BadOrder", ["order"], false) (M _ (List.mem_of_getElem? (i := 20) rfl)) hr pass0 (pa_cons (pv 0) pa_nil)) (pa_cons (pe_mk ("BadPair", ["first", "second"], false) (M _ (List.mem_of_getElem? (i := 21) rfl)) hr pass0 (pa_cons (pv 0) (pa_cons (pv 1) pa_nil))) pa_nil))))))))))
      (pss_one (ps_ret (pe_op op_cat (pv 3) (pe_lst (pa_cons (pe_mk ("BadRule", ["rule"], false) (M _ (List.mem_of_getElem? (i := 22) rfl)) hr pass0 (pa_cons (pv 0) pa_nil)) (pa_cons (pe_mk ("BadMend", ["mend"], false) (M _ (List.mem_of_getElem? (i := 23) rfl)) hr pass0 (pa_cons (pv 0) pa_nil)) (pa_cons (pe_mk ("TooMany", ["limit"], false) (M _ (List.mem_of_getElem? (i := 24) rfl)) hr pass0 (pa_cons (pv 0) pa_nil)) (pa_cons (pe_mk ("Clash", ["step", "row", "other"], false) (M _ (List.mem_of_getElem? (i := 25) rfl)) hr pass0 (pa_cons (pv 0) (pa_cons (pv 1) (pa_cons (pv 2) pa_nil)))) (pa_cons (pe_mk ("CallFailed", ["index", "reason"], false) (M _ (List.mem_of_getElem? (i := 26) rfl)) hr pass0 (pa_cons (pv 0) (pa_cons (pv 1) pa_nil))) pa_nil)))))))))))), ?_⟩
    refine ⟨_, rfl, Nat.le_of_ble_eq_true rfl, fun a0 na0 => ⟨a0, _, _, rfl, rfl, rfl, na0, fun d0 G0 nd0 nn0 e0 g0 r0 => ⟨rfl, ?_⟩⟩⟩
    have m1 := Ms.more (Ms.start (K := K) (H := H)) ("NoRow", ["row"], true) na0 nd0 e0 g0 r0
    refine ⟨_, rfl, _, rfl, Nat.le_of_ble_eq_true rfl, fun a1 na1 => ⟨a1, _, _, rfl, rfl, rfl, na1, fun d1 G1 nd1 nn1 e1 g1 r1 => ⟨rfl, ?_⟩⟩⟩
    have m2 := Ms.more m1 ("NoPlace", ["lst", "place"], true) na1 nd1 e1 g1 r1
    refine ⟨_, rfl, Nat.le_of_ble_eq_true rfl, fun a2 na2 => ⟨a2, _, _, rfl, rfl, rfl, na2, fun d2 G2 nd2 nn2 e2 g2 r2 => ⟨rfl, ?_⟩⟩⟩
    have m3 := Ms.more m2 ("NoHandler", ["name"], true) na2 nd2 e2 g2 r2
    refine ⟨_, rfl, Nat.le_of_ble_eq_true rfl, fun a3 na3 => ⟨a3, _, _, rfl, rfl, rfl, na3, fun d3 G3 nd3 nn3 e3 g3 r3 => ⟨rfl, ?_⟩⟩⟩
    have m4 := Ms.more m3 ("BadName", ["name"], false) na3 nd3 e3 g3 r3
    refine ⟨_, rfl, Nat.le_of_ble_eq_true rfl, fun a4 na4 => ⟨a4, _, _, rfl, rfl, rfl, na4, fun d4 G4 nd4 nn4 e4 g4 r4 => ⟨rfl, ?_⟩⟩⟩
    have m5 := Ms.more m4 ("BadPlace", ["place"], false) na4 nd4 e4 g4 r4
    refine ⟨_, rfl, Nat.le_of_ble_eq_true rfl, fun a5 na5 => ⟨a5, _, _, rfl, rfl, rfl, na5, fun d5 G5 nd5 nn5 e5 g5 r5 => ⟨rfl, ?_⟩⟩⟩
    have m6 := Ms.more m5 ("BadSlide", ["index"], false) na5 nd5 e5 g5 r5
    refine ⟨_, rfl, Nat.le_of_ble_eq_true rfl, fun a6 na6 => ⟨a6, _, _, rfl, rfl, rfl, na6, fun d6 G6 nd6 nn6 e6 g6 r6 => ⟨rfl, ?_⟩⟩⟩
    have m7 := Ms.more m6 ("NoInverse", ["slide"], false) na6 nd6 e6 g6 r6
    refine ⟨_, rfl, Nat.le_of_ble_eq_true rfl, fun a7 na7 => ⟨a7, _, _, rfl, rfl, rfl, na7, fun d7 G7 nd7 nn7 e7 g7 r7 => ⟨rfl, ?_⟩⟩⟩
    have m8 := Ms.more m7 ("Twice", ["row"], false) na7 nd7 e7 g7 r7
    refine ⟨Nat.le_of_ble_eq_true rfl, fun p1 np1 => ?_⟩
    have f1 : upd G7 p1 (.lst [.ref a0, .ref a1, .ref a2, .ref a3, .ref a4, .ref a5, .ref a6, .ref a7]) p1 = some (.lst [.ref a0, .ref a1, .ref a2, .ref a3, .ref a4, .ref a5, .ref a6, .ref a7]) := upd_same
    have u1 := m8.put (o := .lst [.ref a0, .ref a1, .ref a2, .ref a3, .ref a4, .ref a5, .ref a6, .ref a7]) np1
    have x1 := u1.is
    have s1 := u1.same
    generalize upd G7 p1 (.lst [.ref a0, .ref a1, .ref a2, .ref a3, .ref a4, .ref a5, .ref a6, .ref a7]) = J1 at u1 f1 x1 s1
    clear u1 m1 m2 m3 m4 m5 m6 m7 m8
    refine ⟨_, rfl, ?_⟩
    refine ⟨_, rfl, Nat.le_of_ble_eq_true rfl, fun a8 na8 => ⟨a8, _, _, rfl, rfl, rfl, na8, fun d8 G8 nd8 nn8 e8 g8 r8 => ⟨rfl, ?_⟩⟩⟩
    have m9 := Ms.more (Ms.start (K := K) (H := J1)) ("BadOperation", ["op"], false) na8 nd8 e8 g8 r8
    refine ⟨_, rfl, Nat.le_of_ble_eq_true rfl, fun a9 na9 => ⟨a9, _, _, rfl, rfl, rfl, na9, fun d9 G9 nd9 nn9 e9 g9 r9 => ⟨rfl, ?_⟩⟩⟩
    have m10 := Ms.more m9 ("BadCall", ["argument"], false) na9 nd9 e9 g9 r9
    refine ⟨_, rfl, Nat.le_of_ble_eq_true rfl, fun a10 na10 => ⟨a10, _, _, rfl, rfl, rfl, na10, fun d10 G10 nd10 nn10 e10 g10 r10 => ⟨rfl, ?_⟩⟩⟩
    have m11 := Ms.more m10 ("BadVisit", ["visit"], false) na10 nd10 e10 g10 r10
    refine ⟨_, rfl, Nat.le_of_ble_eq_true rfl, fun a11 na11 => ⟨a11, _, _, rfl, rfl, rfl, na11, fun d11 G11 nd11 nn11 e11 g11 r11 => ⟨rfl, ?_⟩⟩⟩
    have m12 := Ms.more m11 ("BadLine", ["line"], false) na11 nd11 e11 g11 r11
    refine ⟨_, rfl, Nat.le_of_ble_eq_true rfl, fun a12 na12 => ⟨a12, _, _, rfl, rfl, rfl, na12, fun d12 G12 nd12 nn12 e12 g12 r12 => ⟨rfl, ?_⟩⟩⟩
    have m13 := Ms.more m12 ("BadStep", ["index"], false) na12 nd12 e12 g12 r12
    refine ⟨_, rfl, Nat.le_of_ble_eq_true rfl, fun a13 na13 => ⟨a13, _, _, rfl, rfl, rfl, na13, fun d13 G13 nd13 nn13 e13 g13 r13 => ⟨rfl, ?_⟩⟩⟩
    have m14 := Ms.more m13 ("BadText", ["index"], false) na13 nd13 e13 g13 r13
    refine ⟨_, rfl, Nat.le_of_ble_eq_true rfl, fun a14 na14 => ⟨a14, _, _, rfl, rfl, rfl, na14, fun d14 G14 nd14 nn14 e14 g14 r14 => ⟨rfl, ?_⟩⟩⟩
    have m15 := Ms.more m14 ("BadWorld", ["world"], false) na14 nd14 e14 g14 r14
    refine ⟨Nat.le_of_ble_eq_true rfl, fun q2 nq2 => ?_⟩
    have v2 := m15.put (o := .lst [.ref a8, .ref a9, .ref a10, .ref a11, .ref a12, .ref a13, .ref a14]) nq2
    have f2b := v2.same _ _ f1
    have fq2 : upd G14 q2 (.lst [.ref a8, .ref a9, .ref a10, .ref a11, .ref a12, .ref a13, .ref a14]) q2 = some (.lst [.ref a8, .ref a9, .ref a10, .ref a11, .ref a12, .ref a13, .ref a14]) := upd_same
    have xb2 := (x1.same v2.same).append v2.is
    have sb2 := s1.trans v2.same
    generalize upd G14 q2 (.lst [.ref a8, .ref a9, .ref a10, .ref a11, .ref a12, .ref a13, .ref a14]) = B2 at v2 f2b fq2 xb2 sb2
    clear v2 m9 m10 m11 m12 m13 m14 m15
    refine ⟨_, _, _, _, rfl, rfl, f2b, fq2, Nat.le_of_ble_eq_true rfl, fun p2 np2 => ?_⟩
    have w2 : Same B2 (upd B2 p2 (.lst ([.ref a0, .ref a1, .ref a2, .ref a3, .ref a4, .ref a5, .ref a6, .ref a7] ++ [.ref a8, .ref a9, .ref a10, .ref a11, .ref a12, .ref a13, .ref a14]))) := fun x u e => (upd_ne (ne_of_none e np2)).trans e
    have f2 : upd B2 p2 (.lst ([.ref a0, .ref a1, .ref a2, .ref a3, .ref a4, .ref a5, .ref a6, .ref a7] ++ [.ref a8, .ref a9, .ref a10, .ref a11, .ref a12, .ref a13, .ref a14])) p2 = some (.lst ([.ref a0, .ref a1, .ref a2, .ref a3, .ref a4, .ref a5, .ref a6, .ref a7] ++ [.ref a8, .ref a9, .ref a10, .ref a11, .ref a12, .ref a13, .ref a14])) := upd_same
    have x2 := xb2.same w2
    have s2 := sb2.trans w2
    generalize upd B2 p2 (.lst ([.ref a0, .ref a1, .ref a2, .ref a3, .ref a4, .ref a5, .ref a6, .ref a7] ++ [.ref a8, .ref a9, .ref a10, .ref a11, .ref a12, .ref a13, .ref a14])) = J2 at f2 x2 s2
    clear f2b fq2 xb2 sb2 w2 x1 s1
    refine ⟨_, rfl, ?_⟩
    refine ⟨_, rfl, Nat.le_of_ble_eq_true rfl, fun a15 na15 => ⟨a15, _, _, rfl, rfl, rfl, na15, fun d15 G15 nd15 nn15 e15 g15 r15 => ⟨rfl, ?_⟩⟩⟩
    have m16 := Ms.more (Ms.start (K := K) (H := J2)) ("BadNumber", ["name"], false) na15 nd15 e15 g15 r15
    refine ⟨_, rfl, Nat.le_of_ble_eq_true rfl, fun a16 na16 => ⟨a16, _, _, rfl, rfl, rfl, na16, fun d16 G16 nd16 nn16 e16 g16 r16 => ⟨rfl, ?_⟩⟩⟩
    have m17 := Ms.more m16 ("BadSpot", ["spot"], false) na16 nd16 e16 g16 r16
    refine ⟨_, rfl, Nat.le_of_ble_eq_true rfl, fun a17 na17 => ⟨a17, _, _, rfl, rfl, rfl, na17, fun d17 G17 nd17 nn17 e17 g17 r17 => ⟨rfl, ?_⟩⟩⟩
    have m18 := Ms.more m17 ("BadBound", ["index"], false) na17 nd17 e17 g17 r17
    refine ⟨_, rfl, Nat.le_of_ble_eq_true rfl, fun a18 na18 => ⟨a18, _, _, rfl, rfl, rfl, na18, fun d18 G18 nd18 nn18 e18 g18 r18 => ⟨rfl, ?_⟩⟩⟩
    have m19 := Ms.more m18 ("BadKind", ["kind"], false) na18 nd18 e18 g18 r18
    refine ⟨_, rfl, Nat.le_of_ble_eq_true rfl, fun a19 na19 => ⟨a19, _, _, rfl, rfl, rfl, na19, fun d19 G19 nd19 nn19 e19 g19 r19 => ⟨rfl, ?_⟩⟩⟩
    have m20 := Ms.more m19 ("OtherOperation", ["op"], false) na19 nd19 e19 g19 r19
    refine ⟨_, rfl, Nat.le_of_ble_eq_true rfl, fun a20 na20 => ⟨a20, _, _, rfl, rfl, rfl, na20, fun d20 G20 nd20 nn20 e20 g20 r20 => ⟨rfl, ?_⟩⟩⟩
    have m21 := Ms.more m20 ("BadOrder", ["order"], false) na20 nd20 e20 g20 r20
    refine ⟨_, rfl, _, rfl, Nat.le_of_ble_eq_true rfl, fun a21 na21 => ⟨a21, _, _, rfl, rfl, rfl, na21, fun d21 G21 nd21 nn21 e21 g21 r21 => ⟨rfl, ?_⟩⟩⟩
    have m22 := Ms.more m21 ("BadPair", ["first", "second"], false) na21 nd21 e21 g21 r21
    refine ⟨Nat.le_of_ble_eq_true rfl, fun q3 nq3 => ?_⟩
    have v3 := m22.put (o := .lst [.ref a15, .ref a16, .ref a17, .ref a18, .ref a19, .ref a20, .ref a21]) nq3
    have f3b := v3.same _ _ f2
    have fq3 : upd G21 q3 (.lst [.ref a15, .ref a16, .ref a17, .ref a18, .ref a19, .ref a20, .ref a21]) q3 = some (.lst [.ref a15, .ref a16, .ref a17, .ref a18, .ref a19, .ref a20, .ref a21]) := upd_same
    have xb3 := (x2.same v3.same).append v3.is
    have sb3 := s2.trans v3.same
    generalize upd G21 q3 (.lst [.ref a15, .ref a16, .ref a17, .ref a18, .ref a19, .ref a20, .ref a21]) = B3 at v3 f3b fq3 xb3 sb3
    clear v3 m16 m17 m18 m19 m20 m21 m22
    refine ⟨_, _, _, _, rfl, rfl, f3b, fq3, Nat.le_of_ble_eq_true rfl, fun p3 np3 => ?_⟩
    have w3 : Same B3 (upd B3 p3 (.lst ([.ref a0, .ref a1, .ref a2, .ref a3, .ref a4, .ref a5, .ref a6, .ref a7] ++ [.ref a8, .ref a9, .ref a10, .ref a11, .ref a12, .ref a13, .ref a14] ++ [.ref a15, .ref a16, .ref a17, .ref a18, .ref a19, .ref a20, .ref a21]))) := fun x u e => (upd_ne (ne_of_none e np3)).trans e
    have f3 : upd B3 p3 (.lst ([.ref a0, .ref a1, .ref a2, .ref a3, .ref a4, .ref a5, .ref a6, .ref a7] ++ [.ref a8, .ref a9, .ref a10, .ref a11, .ref a12, .ref a13, .ref a14] ++ [.ref a15, .ref a16, .ref a17, .ref a18, .ref a19, .ref a20, .ref a21])) p3 = some (.lst ([.ref a0, .ref a1, .ref a2, .ref a3, .ref a4, .ref a5, .ref a6, .ref a7] ++ [.ref a8, .ref a9, .ref a10, .ref a11, .ref a12, .ref a13, .ref a14] ++ [.ref a15, .ref a16, .ref a17, .ref a18, .ref a19, .ref a20, .ref a21])) := upd_same
    have x3 := xb3.same w3
    have s3 := sb3.trans w3
    generalize upd B3 p3 (.lst ([.ref a0, .ref a1, .ref a2, .ref a3, .ref a4, .ref a5, .ref a6, .ref a7] ++ [.ref a8, .ref a9, .ref a10, .ref a11, .ref a12, .ref a13, .ref a14] ++ [.ref a15, .ref a16, .ref a17, .ref a18, .ref a19, .ref a20, .ref a21])) = J3 at f3 x3 s3
    clear f3b fq3 xb3 sb3 w3 x2 s2
    refine ⟨_, rfl, ?_⟩
    refine ⟨_, rfl, Nat.le_of_ble_eq_true rfl, fun a22 na22 => ⟨a22, _, _, rfl, rfl, rfl, na22, fun d22 G22 nd22 nn22 e22 g22 r22 => ⟨rfl, ?_⟩⟩⟩
    have m23 := Ms.more (Ms.start (K := K) (H := J3)) ("BadRule", ["rule"], false) na22 nd22 e22 g22 r22
    refine ⟨_, rfl, Nat.le_of_ble_eq_true rfl, fun a23 na23 => ⟨a23, _, _, rfl, rfl, rfl, na23, fun d23 G23 nd23 nn23 e23 g23 r23 => ⟨rfl, ?_⟩⟩⟩
    have m24 := Ms.more m23 ("BadMend", ["mend"], false) na23 nd23 e23 g23 r23
    refine ⟨_, rfl, Nat.le_of_ble_eq_true rfl, fun a24 na24 => ⟨a24, _, _, rfl, rfl, rfl, na24, fun d24 G24 nd24 nn24 e24 g24 r24 => ⟨rfl, ?_⟩⟩⟩
    have m25 := Ms.more m24 ("TooMany", ["limit"], false) na24 nd24 e24 g24 r24
    refine ⟨_, rfl, _, rfl, _, rfl, Nat.le_of_ble_eq_true rfl, fun a25 na25 => ⟨a25, _, _, rfl, rfl, rfl, na25, fun d25 G25 nd25 nn25 e25 g25 r25 => ⟨rfl, ?_⟩⟩⟩
    have m26 := Ms.more m25 ("Clash", ["step", "row", "other"], false) na25 nd25 e25 g25 r25
    refine ⟨_, rfl, _, rfl, Nat.le_of_ble_eq_true rfl, fun a26 na26 => ⟨a26, _, _, rfl, rfl, rfl, na26, fun d26 G26 nd26 nn26 e26 g26 r26 => ⟨rfl, ?_⟩⟩⟩
    have m27 := Ms.more m26 ("CallFailed", ["index", "reason"], false) na26 nd26 e26 g26 r26
    refine ⟨Nat.le_of_ble_eq_true rfl, fun q4 nq4 => ?_⟩
    have v4 := m27.put (o := .lst [.ref a22, .ref a23, .ref a24, .ref a25, .ref a26]) nq4
    have f4b := v4.same _ _ f3
    have fq4 : upd G26 q4 (.lst [.ref a22, .ref a23, .ref a24, .ref a25, .ref a26]) q4 = some (.lst [.ref a22, .ref a23, .ref a24, .ref a25, .ref a26]) := upd_same
    have xb4 := (x3.same v4.same).append v4.is
    have sb4 := s3.trans v4.same
    generalize upd G26 q4 (.lst [.ref a22, .ref a23, .ref a24, .ref a25, .ref a26]) = B4 at v4 f4b fq4 xb4 sb4
    clear v4 m23 m24 m25 m26 m27
    refine ⟨_, _, _, _, rfl, rfl, f4b, fq4, Nat.le_of_ble_eq_true rfl, fun p4 np4 => ?_⟩
    have w4 : Same B4 (upd B4 p4 (.lst ([.ref a0, .ref a1, .ref a2, .ref a3, .ref a4, .ref a5, .ref a6, .ref a7] ++ [.ref a8, .ref a9, .ref a10, .ref a11, .ref a12, .ref a13, .ref a14] ++ [.ref a15, .ref a16, .ref a17, .ref a18, .ref a19, .ref a20, .ref a21] ++ [.ref a22, .ref a23, .ref a24, .ref a25, .ref a26]))) := fun x u e => (upd_ne (ne_of_none e np4)).trans e
    exact k p4 _ _ (sb4.free np4) (sb4.trans w4) upd_same (xb4.same w4)
end
end K90

set_option Elab.async false
set_option linter.all false
set_option maxRecDepth 100000
set_option maxHeartbeats 4000000
namespace K90
open PySem PySem.Spec PyProof.Rows L2 He KX
/-- lists of values, one behind another -/
inductive Lsts (H : Hp) : List V → List (List V) → Prop where
  | nil : Lsts H [] []
  | snoc {xs : List V} {ls : List (List V)} {a : Addr} {l : List V} : Lsts H xs ls → H a = some (.lst l) → Lsts H (xs ++ [.ref a]) (ls ++ [l])
theorem Lsts.same {H H' : Hp} (s : Same H H') {xs : List V} {ls : List (List V)} (h : Lsts H xs ls) : Lsts H' xs ls := by
  induction h with
  | nil => exact .nil
  | snoc _ e ih => exact .snoc ih (s _ _ e)
theorem Lsts.append {H : Hp} {xs ys : List V} {ls ms : List (List V)} (h : Lsts H xs ls) (k : Lsts H ys ms) : Lsts H (xs ++ ys) (ls ++ ms) := by
  induction k with
  | nil =>
    rw [List.append_nil, List.append_nil]
    exact h
  | snoc _ e ih =>
    rw [← List.append_assoc, ← List.append_assoc]
    exact .snoc ih e
structure Ls (H0 H : Hp) (xs : List V) (ls : List (List V)) : Prop where
  same : Same H0 H
  is : Lsts H xs ls
theorem Ls.start {H : Hp} : Ls H H [] [] := ⟨Same.refl H, .nil⟩
theorem lk_eq {f : Str} {v : V} {r : List (Str × V)} : List.lookup f ((f, v) :: r) = some v := by
  rw [L2.lookup_put, if_pos rfl]
theorem lk_ne {f g : Str} {v : V} {r : List (Str × V)} {o : Option V} (h : g ≠ f) (k : List.lookup g r = o) : List.lookup g ((f, v) :: r) = o := by
  rw [L2.lookup_put, if_neg h]
  exact k
theorem same_put {H : Hp} {p : Addr} {o : HO} (hp : H p = none) : Same H (upd H p o) := fun x u e => (upd_ne (ne_of_none e hp)).trans e
theorem Ls.more {H0 H : Hp} {xs : List V} {ls : List (List V)} (m : Ls H0 H xs ls) {p : Addr} (l : List V) (hp : H p = none) : Ls H0 (upd H p (.lst l)) (xs ++ [.ref p]) (ls ++ [l]) :=
  ⟨m.same.trans (same_put hp), .snoc (m.is.same (same_put hp)) upd_same⟩
theorem Ls.put {H0 H : Hp} {xs : List V} {ls : List (List V)} (m : Ls H0 H xs ls) {p : Addr} {o : HO} (hp : H p = none) : Ls H0 (upd H p o) xs ls := ⟨m.same.trans (same_put hp), m.is.same (same_put hp)⟩
def toldOf (x y z : V) : List (List V) := [[x], [x, y], [x], [x], [x], [x], [x], [x], [x], [x], [x], [x], [x], [x], [x], [x], [x], [x], [x], [x], [x], [x, y], [x], [x], [x], [x, y, z], [x, y]]
/-- _law_told(made) -/
def spTold (K : PySem.W.Frag) : Sp := fun vs H Q _ => ∃ (p : Addr) (xs : List V) (x y z : V), vs = [.ref p] ∧ H p = some (.lst xs) ∧ Excs K H xs (want x y z) ∧ ∀ (q : Addr) (rs : List V) (H' : Hp), H q = none → Same H H' → H' q = some (.lst rs) → Lsts H' rs (toldOf x y z) → Q (.ref q) H'
section
variable {P : Program} {w : World} {K : PySem.W.Frag} {mg : Str → Option Value} {base : Heap}
theorem scTold : FnScope ["made", "found"] ["made"] (defScope sTold) := ⟨rfl, rfl, rfl, by decide +kernel, rfl, by decide +kernel, by decide +kernel⟩
theorem ok_told {f : Addr} {fd : FuncData} (F : FnP K "_law_told" sTold f fd) (O : ∀ c ∈ cx, One K c) : FnOk P w K mg base CX0 1 f fd ["made"] (spTold K) := by
  refine F.ok scTold (fun vs H Q E h => ?_) (fun cdv A outer s H vs Q E hr h => ?_)
  · obtain ⟨p, xs, x, y, z, rfl, _⟩ := h
    rfl
  · obtain ⟨p, xs, x, y, z, rfl, hp, hE, k⟩ := h
    obtain ⟨_, h0, a0, d0, rfl, ea0, ed0⟩ := hE.get (i := 0) (c := ("NoRow", ["row"], true)) (fl := [("row", x)]) rfl
    have o0 := O ("NoRow", ["row"], true) (List.mem_of_getElem? (i := 0) rfl)
    obtain ⟨_, h1, a1, d1, rfl, ea1, ed1⟩ := hE.get (i := 1) (c := ("NoPlace", ["lst", "place"], true)) (fl := [("place", y), ("lst", x)]) rfl
    have o1 := O ("NoPlace", ["lst", "place"], true) (List.mem_of_getElem? (i := 1) rfl)
    obtain ⟨_, h2, a2, d2, rfl, ea2, ed2⟩ := hE.get (i := 2) (c := ("NoHandler", ["name"], true)) (fl := [("name", x)]) rfl
    have o2 := O ("NoHandler", ["name"], true) (List.mem_of_getElem? (i := 2) rfl)
    obtain ⟨_, h3, a3, d3, rfl, ea3, ed3⟩ := hE.get (i := 3) (c := ("BadName", ["name"], false)) (fl := [("name", x)]) rfl
    have o3 := O ("BadName", ["name"], false) (List.mem_of_getElem? (i := 3) rfl)
    obtain ⟨_, h4, a4, d4, rfl, ea4, ed4⟩ := hE.get (i := 4) (c := ("BadPlace", ["place"], false)) (fl := [("place", x)]) rfl
    have o4 := O ("BadPlace", ["place"], false) (List.mem_of_getElem? (i := 4) rfl)
    obtain ⟨_, h5, a5, d5, rfl, ea5, ed5⟩ := hE.get (i := 5) (c := ("BadSlide", ["index"], false)) (fl := [("index", x)]) rfl
    have o5 := O ("BadSlide", ["index"], false) (List.mem_of_getElem? (i := 5) rfl)
    obtain ⟨_, h6, a6, d6, rfl, ea6, ed6⟩ := hE.get (i := 6) (c := ("NoInverse", ["slide"], false)) (fl := [("slide", x)]) rfl
    have o6 := O ("NoInverse", ["slide"], false) (List.mem_of_getElem? (i := 6) rfl)
    obtain ⟨_, h7, a7, d7, rfl, ea7, ed7⟩ := hE.get (i := 7) (c := ("Twice", ["row"], false)) (fl := [("row", x)]) rfl
    have o7 := O ("Twice", ["row"], false) (List.mem_of_getElem? (i := 7) rfl)
    obtain ⟨_, h8, a8, d8, rfl, ea8, ed8⟩ := hE.get (i := 8) (c := ("BadOperation", ["op"], false)) (fl := [("op", x)]) rfl
    have o8 := O ("BadOperation", ["op"], false) (List.mem_of_getElem? (i := 8) rfl)
    obtain ⟨_, h9, a9, d9, rfl, ea9, ed9⟩ := hE.get (i := 9) (c := ("BadCall", ["argument"], false)) (fl := [("argument", x)]) rfl
    have o9 := O ("BadCall", ["argument"], false) (List.mem_of_getElem? (i := 9) rfl)
    obtain ⟨_, h10, a10, d10, rfl, ea10, ed10⟩ := hE.get (i := 10) (c := ("BadVisit", ["visit"], false)) (fl := [("visit", x)]) rfl
    have o10 := O ("BadVisit", ["visit"], false) (List.mem_of_getElem? (i := 10) rfl)
    obtain ⟨_, h11, a11, d11, rfl, ea11, ed11⟩ := hE.get (i := 11) (c := ("BadLine", ["line"], false)) (fl := [("line", x)]) rfl
    have o11 := O ("BadLine", ["line"], false) (List.mem_of_getElem? (i := 11) rfl)
    obtain ⟨_, h12, a12, d12, rfl, ea12, ed12⟩ := hE.get (i := 12) (c := ("BadStep", ["index"], false)) (fl := [("index", x)]) rfl
    have o12 := O ("BadStep", ["index"], false) (List.mem_of_getElem? (i := 12) rfl)
    obtain ⟨_, h13, a13, d13, rfl, ea13, ed13⟩ := hE.get (i := 13) (c := ("BadText", ["index"], false)) (fl := [("index", x)]) rfl
    have o13 := O ("BadText", ["index"], false) (List.mem_of_getElem? (i := 13) rfl)
    obtain ⟨_, h14, a14, d14, rfl, ea14, ed14⟩ := hE.get (i := 14) (c := ("BadWorld", ["world"], false)) (fl := [("world", x)]) rfl
    have o14 := O ("BadWorld", ["world"], false) (List.mem_of_getElem? (i := 14) rfl)
    obtain ⟨_, h15, a15, d15, rfl, ea15, ed15⟩ := hE.get (i := 15) (c := ("BadNumber", ["name"], false)) (fl := [("name", x)]) rfl
    have o15 := O ("BadNumber", ["name"], false) (List.mem_of_getElem? (i := 15) rfl)
    obtain ⟨_, h16, a16, d16, rfl, ea16, ed16⟩ := hE.get (i := 16) (c := ("BadSpot", ["spot"], false)) (fl := [("spot", x)]) rfl
    have o16 := O ("BadSpot", ["spot"], false) (List.mem_of_getElem? (i := 16) rfl)
    obtain ⟨_, h17, a17, d17, rfl, ea17, ed17⟩ := hE.get (i := 17) (c := ("BadBound", ["index"], false)) (fl := [("index", x)]) rfl
    have o17 := O ("BadBound", ["index"], false) (List.mem_of_getElem? (i := 17) rfl)
    obtain ⟨_, h18, a18, d18, rfl, ea18, ed18⟩ := hE.get (i := 18) (c := ("BadKind", ["kind"], false)) (fl := [("kind", x)]) rfl
    have o18 := O ("BadKind", ["kind"], false) (List.mem_of_getElem? (i := 18) rfl)
    obtain ⟨_, h19, a19, d19, rfl, ea19, ed19⟩ := hE.get (i := 19) (c := ("OtherOperation", ["op"], false)) (fl := [("op", x)]) rfl
    have o19 := O ("OtherOperation", ["op"], false) (List.mem_of_getElem? (i := 19) rfl)
    obtain ⟨_, h20, a20, d20, rfl, ea20, ed20⟩ := hE.get (i := 20) (c := ("BadOrder", ["order"], false)) (fl := [("order", x)]) rfl
    have o20 := O ("BadOrder", ["order"], false) (List.mem_of_getElem? (i := 20) rfl)
    obtain ⟨_, h21, a21, d21, rfl, ea21, ed21⟩ := hE.get (i := 21) (c := ("BadPair", ["first", "second"], false)) (fl := [("second", y), ("first", x)]) rfl
    have o21 := O ("BadPair", ["first", "second"], false) (List.mem_of_getElem? (i := 21) rfl)
    obtain ⟨_, h22, a22, d22, rfl, ea22, ed22⟩ := hE.get (i := 22) (c := ("BadRule", ["rule"], false)) (fl := [("rule", x)]) rfl
    have o22 := O ("BadRule", ["rule"], false) (List.mem_of_getElem? (i := 22) rfl)
    obtain ⟨_, h23, a23, d23, rfl, ea23, ed23⟩ := hE.get (i := 23) (c := ("BadMend", ["mend"], false)) (fl := [("mend", x)]) rfl
    have o23 := O ("BadMend", ["mend"], false) (List.mem_of_getElem? (i := 23) rfl)
    obtain ⟨_, h24, a24, d24, rfl, ea24, ed24⟩ := hE.get (i := 24) (c := ("TooMany", ["limit"], false)) (fl := [("limit", x)]) rfl
    have o24 := O ("TooMany", ["limit"], false) (List.mem_of_getElem? (i := 24) rfl)
    obtain ⟨_, h25, a25, d25, rfl, ea25, ed25⟩ := hE.get (i := 25) (c := ("Clash", ["step", "row", "other"], false)) (fl := [("other", z), ("row", y), ("step", x)]) rfl
    have o25 := O ("Clash", ["step", "row", "other"], false) (List.mem_of_getElem? (i := 25) rfl)
    obtain ⟨_, h26, a26, d26, rfl, ea26, ed26⟩ := hE.get (i := 26) (c := ("CallFailed", ["index", "reason"], false)) (fl := [("reason", y), ("index", x)]) rfl
    have o26 := O ("CallFailed", ["index", "reason"], false) (List.mem_of_getElem? (i := 26) rfl)
    refine ⟨_, PSs.nox (pss_cons (ps_set (i := 1) scTold.nd rfl (Or.inl rfl) (pe_lst (pa_cons (pe_lst (pa_cons (pe_xv (pe_ix ix_list (pv 0) pe_int (fun _ _ => rfl))) pa_nil)) (pa_cons (pe_lst (pa_cons (pe_xv (pe_ix ix_list (pv 0) pe_int (fun _ _ => rfl))) (pa_cons (pe_xv (pe_ix ix_list (pv 0) pe_int (fun _ _ => rfl))) pa_nil))) (pa_cons (pe_lst (pa_cons (pe_xv (pe_ix ix_list (pv 0) pe_int (fun _ _ => rfl))) pa_nil)) (pa_cons (pe_lst (pa_cons (pe_xv (pe_ix ix_list (pv 0) pe_int (fun _ _ => rfl))) pa_nil)) (pa_cons (pe_lst (pa_cons (pe_xv (pe_ix ix_list (pv 0) pe_int (fun _ _ => rfl))) pa_nil)) pa_nil)))))))
      (pss_cons (ps_set (i := 1) scTold.nd rfl (Or.inl rfl) (pe_op op_cat (pv 1) (pe_lst (pa_cons (pe_lst (pa_cons (pe_xv (pe_ix ix_list (pv 0) pe_int (fun _ _ => rfl))) pa_nil)) (pa_cons (pe_lst (pa_cons (pe_xv (pe_ix ix_list (pv 0) pe_int (fun _ _ => rfl))) pa_nil)) (pa_cons (pe_lst (pa_cons (pe_xv (pe_ix ix_list (pv 0) pe_int (fun _ _ => rfl))) pa_nil)) (pa_cons (pe_lst (pa_cons (pe_xv (pe_ix ix_list (pv 0) pe_int (fun _ _ => rfl))) pa_nil)) (pa_cons (pe_lst (pa_cons (pe_xv (pe_ix ix_list (pv 0) pe_int (fun _ _ => rfl))) pa_nil)) pa_nil))))))))
      (pss_cons (ps_set (i := 1) scTold.nd rfl (Or.inl rfl) (pe_op op_cat (pv 1) (pe_lst (pa_cons (pe_lst (pa_cons (pe_xv (pe_ix ix_list (pv 0) pe_int (fun _ _ => rfl))) pa_nil)) (pa_cons (pe_lst (pa_cons (pe_xv (pe_ix ix_list (pv 0) pe_int (fun _ _ => rfl))) pa_nil)) (pa_cons (pe_lst (pa_cons (pe_xv (pe_ix ix_list (pv 0) pe_int (fun _ _ => rfl))) pa_nil)) (pa_cons (pe_lst (pa_cons (pe_xv (pe_ix ix_list (pv 0) pe_int (fun _ _ => rfl))) pa_nil)) (pa_cons (pe_lst (pa_cons (pe_xv (pe_ix ix_list (pv 0) pe_int (fun _ _ => rfl))) pa_nil)) pa_nil))))))))
      (pss_cons (ps_set (i := 1) scTold.nd rfl (Or.inl rfl) (pe_op op_cat (pv 1) (pe_lst (pa_cons (pe_lst (pa_cons (pe_xv (pe_ix ix_list (pv 0) pe_int (fun _ _ => rfl))) pa_nil)) (pa_cons (pe_lst (pa_cons (pe_xv (pe_ix ix_list (pv 0) pe_int (fun _ _ => rfl))) pa_nil)) (pa_cons (pe_lst (pa_cons (pe_xv (pe_ix ix_list (pv 0) pe_int (fun _ _ => rfl))) pa_nil)) (pa_cons (pe_lst (pa_cons (pe_xv (pe_ix ix_list (pv 0) pe_int (fun _ _ => rfl))) pa_nil)) (pa_cons (pe_lst (pa_cons (pe_xv (pe_ix ix_list (pv 0) pe_int (fun _ _ => rfl))) pa_nil)) pa_nil))))))))
      (pss_cons (ps_set (i := 1) scTold.nd rfl (Or.inl rfl) (pe_op op_cat (pv 1) (pe_lst (pa_cons (pe_lst (pa_cons (pe_xv (pe_ix ix_list (pv 0) pe_int (fun _ _ => rfl))) pa_nil)) (pa_cons (pe_lst (pa_cons (pe_xv (pe_ix ix_list (pv 0) pe_int (fun _ _ => rfl))) (pa_cons (pe_xv (pe_ix ix_list (pv 0) pe_int (fun _ _ => rfl))) pa_nil))) (pa_cons (pe_lst (pa_cons (pe_xv (pe_ix ix_list (pv 0) pe_int (fun _ _ => rfl))) pa_nil)) (pa_cons (pe_lst (pa_cons (pe_xv (pe_ix ix_list (pv 0) pe_int (fun _ _ => rfl))) pa_nil)) pa_nil)))))))
      (pss_cons (ps_set (i := 1) scTold.nd rfl (Or.inl rfl) (pe_op op_cat (pv 1) (pe_lst (pa_cons (pe_lst (pa_cons (pe_xv (pe_ix ix_list (pv 0) pe_int (fun _ _ => rfl))) pa_nil)) (pa_cons (pe_lst (pa_cons (pe_xv (pe_ix ix_list (pv 0) pe_int (fun _ _ => rfl))) (pa_cons (pe_xv (pe_ix ix_list (pv 0) pe_int (fun _ _ => rfl))) (pa_cons (pe_xv (pe_ix ix_list (pv 0) pe_int (fun _ _ => rfl))) pa_nil)))) pa_nil)))))
      (pss_one (ps_ret (pe_op op_cat (pv 1) (pe_lst (pa_cons (pe_lst (pa_cons (pe_xv (pe_ix ix_list (pv 0) pe_int (fun _ _ => rfl))) (pa_cons (pe_xv (pe_ix ix_list (pv 0) pe_int (fun _ _ => rfl))) pa_nil))) pa_nil))))))))))), ?_⟩
    have m0 := Ls.start (H := H)
    refine ⟨_, rfl, _, _, _, _, rfl, rfl, SqL.of (((Same.refl H).trans m0.same) _ _ hp), atI_nat h0, a0, _, d0, _, _, _, _, rfl, ((Same.refl H).trans m0.same) _ _ ea0, ((Same.refl H).trans m0.same) _ _ ed0, o0.T, o0.no _ (List.mem_of_getElem? (i := 0) rfl), lk_eq, Nat.le_of_ble_eq_true rfl, fun t0 nt0 => ?_⟩
    have m1 := Ls.more m0 [x] nt0
    refine ⟨_, rfl, _, _, _, _, rfl, rfl, SqL.of (((Same.refl H).trans m1.same) _ _ hp), atI_nat h1, a1, _, d1, _, _, _, _, rfl, ((Same.refl H).trans m1.same) _ _ ea1, ((Same.refl H).trans m1.same) _ _ ed1, o1.T, o1.no _ (List.mem_of_getElem? (i := 0) rfl), (lk_ne (by decide +kernel) lk_eq), _, rfl, _, _, _, _, rfl, rfl, SqL.of (((Same.refl H).trans m1.same) _ _ hp), atI_nat h1, a1, _, d1, _, _, _, _, rfl, ((Same.refl H).trans m1.same) _ _ ea1, ((Same.refl H).trans m1.same) _ _ ed1, o1.T, o1.no _ (List.mem_of_getElem? (i := 1) rfl), lk_eq, Nat.le_of_ble_eq_true rfl, fun t1 nt1 => ?_⟩
    have m2 := Ls.more m1 [x, y] nt1
    refine ⟨_, rfl, _, _, _, _, rfl, rfl, SqL.of (((Same.refl H).trans m2.same) _ _ hp), atI_nat h2, a2, _, d2, _, _, _, _, rfl, ((Same.refl H).trans m2.same) _ _ ea2, ((Same.refl H).trans m2.same) _ _ ed2, o2.T, o2.no _ (List.mem_of_getElem? (i := 0) rfl), lk_eq, Nat.le_of_ble_eq_true rfl, fun t2 nt2 => ?_⟩
    have m3 := Ls.more m2 [x] nt2
    refine ⟨_, rfl, _, _, _, _, rfl, rfl, SqL.of (((Same.refl H).trans m3.same) _ _ hp), atI_nat h3, a3, _, d3, _, _, _, _, rfl, ((Same.refl H).trans m3.same) _ _ ea3, ((Same.refl H).trans m3.same) _ _ ed3, o3.T, o3.no _ (List.mem_of_getElem? (i := 0) rfl), lk_eq, Nat.le_of_ble_eq_true rfl, fun t3 nt3 => ?_⟩
    have m4 := Ls.more m3 [x] nt3
    refine ⟨_, rfl, _, _, _, _, rfl, rfl, SqL.of (((Same.refl H).trans m4.same) _ _ hp), atI_nat h4, a4, _, d4, _, _, _, _, rfl, ((Same.refl H).trans m4.same) _ _ ea4, ((Same.refl H).trans m4.same) _ _ ed4, o4.T, o4.no _ (List.mem_of_getElem? (i := 0) rfl), lk_eq, Nat.le_of_ble_eq_true rfl, fun t4 nt4 => ?_⟩
    have m5 := Ls.more m4 [x] nt4
    refine ⟨Nat.le_of_ble_eq_true rfl, fun p1 np1 => ?_⟩
    have u1 := m5.put (o := .lst [.ref t0, .ref t1, .ref t2, .ref t3, .ref t4]) np1
    have f1 : upd (upd (upd (upd (upd (upd H t0 (.lst [x])) t1 (.lst [x, y])) t2 (.lst [x])) t3 (.lst [x])) t4 (.lst [x])) p1 (.lst [.ref t0, .ref t1, .ref t2, .ref t3, .ref t4]) p1 = some (.lst [.ref t0, .ref t1, .ref t2, .ref t3, .ref t4]) := upd_same
    have x1 := u1.is
    have s1 := u1.same
    generalize upd (upd (upd (upd (upd (upd H t0 (.lst [x])) t1 (.lst [x, y])) t2 (.lst [x])) t3 (.lst [x])) t4 (.lst [x])) p1 (.lst [.ref t0, .ref t1, .ref t2, .ref t3, .ref t4]) = J1 at u1 f1 x1 s1
    clear u1 m0 m1 m2 m3 m4 m5
    refine ⟨_, rfl, ?_⟩
    have m5 := Ls.start (H := J1)
    refine ⟨_, rfl, _, _, _, _, rfl, rfl, SqL.of ((s1.trans m5.same) _ _ hp), atI_nat h5, a5, _, d5, _, _, _, _, rfl, (s1.trans m5.same) _ _ ea5, (s1.trans m5.same) _ _ ed5, o5.T, o5.no _ (List.mem_of_getElem? (i := 0) rfl), lk_eq, Nat.le_of_ble_eq_true rfl, fun t5 nt5 => ?_⟩
    have m6 := Ls.more m5 [x] nt5
    refine ⟨_, rfl, _, _, _, _, rfl, rfl, SqL.of ((s1.trans m6.same) _ _ hp), atI_nat h6, a6, _, d6, _, _, _, _, rfl, (s1.trans m6.same) _ _ ea6, (s1.trans m6.same) _ _ ed6, o6.T, o6.no _ (List.mem_of_getElem? (i := 0) rfl), lk_eq, Nat.le_of_ble_eq_true rfl, fun t6 nt6 => ?_⟩
    have m7 := Ls.more m6 [x] nt6
    refine ⟨_, rfl, _, _, _, _, rfl, rfl, SqL.of ((s1.trans m7.same) _ _ hp), atI_nat h7, a7, _, d7, _, _, _, _, rfl, (s1.trans m7.same) _ _ ea7, (s1.trans m7.same) _ _ ed7, o7.T, o7.no _ (List.mem_of_getElem? (i := 0) rfl), lk_eq, Nat.le_of_ble_eq_true rfl, fun t7 nt7 => ?_⟩
    have m8 := Ls.more m7 [x] nt7
    refine ⟨_, rfl, _, _, _, _, rfl, rfl, SqL.of ((s1.trans m8.same) _ _ hp), atI_nat h8, a8, _, d8, _, _, _, _, rfl, (s1.trans m8.same) _ _ ea8, (s1.trans m8.same) _ _ ed8, o8.T, o8.no _ (List.mem_of_getElem? (i := 0) rfl), lk_eq, Nat.le_of_ble_eq_true rfl, fun t8 nt8 => ?_⟩
    have m9 := Ls.more m8 [x] nt8
    refine ⟨_, rfl, _, _, _, _, rfl, rfl, SqL.of ((s1.trans m9.same) _ _ hp), atI_nat h9, a9, _, d9, _, _, _, _, rfl, (s1.trans m9.same) _ _ ea9, (s1.trans m9.same) _ _ ed9, o9.T, o9.no _ (List.mem_of_getElem? (i := 0) rfl), lk_eq, Nat.le_of_ble_eq_true rfl, fun t9 nt9 => ?_⟩
    have m10 := Ls.more m9 [x] nt9
    refine ⟨Nat.le_of_ble_eq_true rfl, fun q2 nq2 => ?_⟩
    have v2 := m10.put (o := .lst [.ref t5, .ref t6, .ref t7, .ref t8, .ref t9]) nq2
    have fb := v2.same _ _ f1
    have fq : upd (upd (upd (upd (upd (upd J1 t5 (.lst [x])) t6 (.lst [x])) t7 (.lst [x])) t8 (.lst [x])) t9 (.lst [x])) q2 (.lst [.ref t5, .ref t6, .ref t7, .ref t8, .ref t9]) q2 = some (.lst [.ref t5, .ref t6, .ref t7, .ref t8, .ref t9]) := upd_same
    have xb := (x1.same v2.same).append v2.is
    have sb := s1.trans v2.same
    generalize upd (upd (upd (upd (upd (upd J1 t5 (.lst [x])) t6 (.lst [x])) t7 (.lst [x])) t8 (.lst [x])) t9 (.lst [x])) q2 (.lst [.ref t5, .ref t6, .ref t7, .ref t8, .ref t9]) = B2 at v2 fb fq xb sb
    clear v2 m5 m6 m7 m8 m9 m10
    refine ⟨_, _, _, _, rfl, rfl, fb, fq, Nat.le_of_ble_eq_true rfl, fun p2 np2 => ?_⟩
    have f2 : upd B2 p2 (.lst ([.ref t0, .ref t1, .ref t2, .ref t3, .ref t4] ++ [.ref t5, .ref t6, .ref t7, .ref t8, .ref t9])) p2 = some (.lst ([.ref t0, .ref t1, .ref t2, .ref t3, .ref t4] ++ [.ref t5, .ref t6, .ref t7, .ref t8, .ref t9])) := upd_same
    have x2 := xb.same (same_put (o := .lst ([.ref t0, .ref t1, .ref t2, .ref t3, .ref t4] ++ [.ref t5, .ref t6, .ref t7, .ref t8, .ref t9])) np2)
    have s2 := sb.trans (same_put (o := .lst ([.ref t0, .ref t1, .ref t2, .ref t3, .ref t4] ++ [.ref t5, .ref t6, .ref t7, .ref t8, .ref t9])) np2)
    generalize upd B2 p2 (.lst ([.ref t0, .ref t1, .ref t2, .ref t3, .ref t4] ++ [.ref t5, .ref t6, .ref t7, .ref t8, .ref t9])) = J2 at f2 x2 s2
    clear fb fq xb sb x1 s1
    refine ⟨_, rfl, ?_⟩
    have m10 := Ls.start (H := J2)
    refine ⟨_, rfl, _, _, _, _, rfl, rfl, SqL.of ((s2.trans m10.same) _ _ hp), atI_nat h10, a10, _, d10, _, _, _, _, rfl, (s2.trans m10.same) _ _ ea10, (s2.trans m10.same) _ _ ed10, o10.T, o10.no _ (List.mem_of_getElem? (i := 0) rfl), lk_eq, Nat.le_of_ble_eq_true rfl, fun t10 nt10 => ?_⟩
    have m11 := Ls.more m10 [x] nt10
    refine ⟨_, rfl, _, _, _, _, rfl, rfl, SqL.of ((s2.trans m11.same) _ _ hp), atI_nat h11, a11, _, d11, _, _, _, _, rfl, (s2.trans m11.same) _ _ ea11, (s2.trans m11.same) _ _ ed11, o11.T, o11.no _ (List.mem_of_getElem? (i := 0) rfl), lk_eq, Nat.le_of_ble_eq_true rfl, fun t11 nt11 => ?_⟩
    have m12 := Ls.more m11 [x] nt11
    refine ⟨_, rfl, _, _, _, _, rfl, rfl, SqL.of ((s2.trans m12.same) _ _ hp), atI_nat h12, a12, _, d12, _, _, _, _, rfl, (s2.trans m12.same) _ _ ea12, (s2.trans m12.same) _ _ ed12, o12.T, o12.no _ (List.mem_of_getElem? (i := 0) rfl), lk_eq, Nat.le_of_ble_eq_true rfl, fun t12 nt12 => ?_⟩
    have m13 := Ls.more m12 [x] nt12
    refine ⟨_, rfl, _, _, _, _, rfl, rfl, SqL.of ((s2.trans m13.same) _ _ hp), atI_nat h13, a13, _, d13, _, _, _, _, rfl, (s2.trans m13.same) _ _ ea13, (s2.trans m13.same) _ _ ed13, o13.T, o13.no _ (List.mem_of_getElem? (i := 0) rfl), lk_eq, Nat.le_of_ble_eq_true rfl, fun t13 nt13 => ?_⟩
    have m14 := Ls.more m13 [x] nt13
    refine ⟨_, rfl, _, _, _, _, rfl, rfl, SqL.of ((s2.trans m14.same) _ _ hp), atI_nat h14, a14, _, d14, _, _, _, _, rfl, (s2.trans m14.same) _ _ ea14, (s2.trans m14.same) _ _ ed14, o14.T, o14.no _ (List.mem_of_getElem? (i := 0) rfl), lk_eq, Nat.le_of_ble_eq_true rfl, fun t14 nt14 => ?_⟩
    have m15 := Ls.more m14 [x] nt14
    refine ⟨Nat.le_of_ble_eq_true rfl, fun q3 nq3 => ?_⟩
    have v3 := m15.put (o := .lst [.ref t10, .ref t11, .ref t12, .ref t13, .ref t14]) nq3
    have fb := v3.same _ _ f2
    have fq : upd (upd (upd (upd (upd (upd J2 t10 (.lst [x])) t11 (.lst [x])) t12 (.lst [x])) t13 (.lst [x])) t14 (.lst [x])) q3 (.lst [.ref t10, .ref t11, .ref t12, .ref t13, .ref t14]) q3 = some (.lst [.ref t10, .ref t11, .ref t12, .ref t13, .ref t14]) := upd_same
    have xb := (x2.same v3.same).append v3.is
    have sb := s2.trans v3.same
    generalize upd (upd (upd (upd (upd (upd J2 t10 (.lst [x])) t11 (.lst [x])) t12 (.lst [x])) t13 (.lst [x])) t14 (.lst [x])) q3 (.lst [.ref t10, .ref t11, .ref t12, .ref t13, .ref t14]) = B3 at v3 fb fq xb sb
    clear v3 m10 m11 m12 m13 m14 m15
    refine ⟨_, _, _, _, rfl, rfl, fb, fq, Nat.le_of_ble_eq_true rfl, fun p3 np3 => ?_⟩
    have f3 : upd B3 p3 (.lst ([.ref t0, .ref t1, .ref t2, .ref t3, .ref t4] ++ [.ref t5, .ref t6, .ref t7, .ref t8, .ref t9] ++ [.ref t10, .ref t11, .ref t12, .ref t13, .ref t14])) p3 = some (.lst ([.ref t0, .ref t1, .ref t2, .ref t3, .ref t4] ++ [.ref t5, .ref t6, .ref t7, .ref t8, .ref t9] ++ [.ref t10, .ref t11, .ref t12, .ref t13, .ref t14])) := upd_same
    have x3 := xb.same (same_put (o := .lst ([.ref t0, .ref t1, .ref t2, .ref t3, .ref t4] ++ [.ref t5, .ref t6, .ref t7, .ref t8, .ref t9] ++ [.ref t10, .ref t11, .ref t12, .ref t13, .ref t14])) np3)
    have s3 := sb.trans (same_put (o := .lst ([.ref t0, .ref t1, .ref t2, .ref t3, .ref t4] ++ [.ref t5, .ref t6, .ref t7, .ref t8, .ref t9] ++ [.ref t10, .ref t11, .ref t12, .ref t13, .ref t14])) np3)
    generalize upd B3 p3 (.lst ([.ref t0, .ref t1, .ref t2, .ref t3, .ref t4] ++ [.ref t5, .ref t6, .ref t7, .ref t8, .ref t9] ++ [.ref t10, .ref t11, .ref t12, .ref t13, .ref t14])) = J3 at f3 x3 s3
    clear fb fq xb sb x2 s2
    refine ⟨_, rfl, ?_⟩
    have m15 := Ls.start (H := J3)
    refine ⟨_, rfl, _, _, _, _, rfl, rfl, SqL.of ((s3.trans m15.same) _ _ hp), atI_nat h15, a15, _, d15, _, _, _, _, rfl, (s3.trans m15.same) _ _ ea15, (s3.trans m15.same) _ _ ed15, o15.T, o15.no _ (List.mem_of_getElem? (i := 0) rfl), lk_eq, Nat.le_of_ble_eq_true rfl, fun t15 nt15 => ?_⟩
    have m16 := Ls.more m15 [x] nt15
    refine ⟨_, rfl, _, _, _, _, rfl, rfl, SqL.of ((s3.trans m16.same) _ _ hp), atI_nat h16, a16, _, d16, _, _, _, _, rfl, (s3.trans m16.same) _ _ ea16, (s3.trans m16.same) _ _ ed16, o16.T, o16.no _ (List.mem_of_getElem? (i := 0) rfl), lk_eq, Nat.le_of_ble_eq_true rfl, fun t16 nt16 => ?_⟩
    have m17 := Ls.more m16 [x] nt16
    refine ⟨_, rfl, _, _, _, _, rfl, rfl, SqL.of ((s3.trans m17.same) _ _ hp), atI_nat h17, a17, _, d17, _, _, _, _, rfl, (s3.trans m17.same) _ _ ea17, (s3.trans m17.same) _ _ ed17, o17.T, o17.no _ (List.mem_of_getElem? (i := 0) rfl), lk_eq, Nat.le_of_ble_eq_true rfl, fun t17 nt17 => ?_⟩
    have m18 := Ls.more m17 [x] nt17
    refine ⟨_, rfl, _, _, _, _, rfl, rfl, SqL.of ((s3.trans m18.same) _ _ hp), atI_nat h18, a18, _, d18, _, _, _, _, rfl, (s3.trans m18.same) _ _ ea18, (s3.trans m18.same) _ _ ed18, o18.T, o18.no _ (List.mem_of_getElem? (i := 0) rfl), lk_eq, Nat.le_of_ble_eq_true rfl, fun t18 nt18 => ?_⟩
    have m19 := Ls.more m18 [x] nt18
    refine ⟨_, rfl, _, _, _, _, rfl, rfl, SqL.of ((s3.trans m19.same) _ _ hp), atI_nat h19, a19, _, d19, _, _, _, _, rfl, (s3.trans m19.same) _ _ ea19, (s3.trans m19.same) _ _ ed19, o19.T, o19.no _ (List.mem_of_getElem? (i := 0) rfl), lk_eq, Nat.le_of_ble_eq_true rfl, fun t19 nt19 => ?_⟩
    have m20 := Ls.more m19 [x] nt19
    refine ⟨Nat.le_of_ble_eq_true rfl, fun q4 nq4 => ?_⟩
    have v4 := m20.put (o := .lst [.ref t15, .ref t16, .ref t17, .ref t18, .ref t19]) nq4
    have fb := v4.same _ _ f3
    have fq : upd (upd (upd (upd (upd (upd J3 t15 (.lst [x])) t16 (.lst [x])) t17 (.lst [x])) t18 (.lst [x])) t19 (.lst [x])) q4 (.lst [.ref t15, .ref t16, .ref t17, .ref t18, .ref t19]) q4 = some (.lst [.ref t15, .ref t16, .ref t17, .ref t18, .ref t19]) := upd_same
    have xb := (x3.same v4.same).append v4.is
    have sb := s3.trans v4.same
    generalize upd (upd (upd (upd (upd (upd J3 t15 (.lst [x])) t16 (.lst [x])) t17 (.lst [x])) t18 (.lst [x])) t19 (.lst [x])) q4 (.lst [.ref t15, .ref t16, .ref t17, .ref t18, .ref t19]) = B4 at v4 fb fq xb sb
    clear v4 m15 m16 m17 m18 m19 m20
    refine ⟨_, _, _, _, rfl, rfl, fb, fq, Nat.le_of_ble_eq_true rfl, fun p4 np4 => ?_⟩
    have f4 : upd B4 p4 (.lst ([.ref t0, .ref t1, .ref t2, .ref t3, .ref t4] ++ [.ref t5, .ref t6, .ref t7, .ref t8, .ref t9] ++ [.ref t10, .ref t11, .ref t12, .ref t13, .ref t14] ++ [.ref t15, .ref t16, .ref t17, .ref t18, .ref t19])) p4 = some (.lst ([.ref t0, .ref t1, .ref t2, .ref t3, .ref t4] ++ [.ref t5, .ref t6, .ref t7, .ref t8, .ref t9] ++ [.ref t10, .ref t11, .ref t12, .ref t13, .ref t14] ++ [.ref t15, .ref t16, .ref t17, .ref t18, .ref t19])) := upd_same
    have x4 := xb.same (same_put (o := .lst ([.ref t0, .ref t1, .ref t2, .ref t3, .ref t4] ++ [.ref t5, .ref t6, .ref t7, .ref t8, .ref t9] ++ [.ref t10, .ref t11, .ref t12, .ref t13, .ref t14] ++ [.ref t15, .ref t16, .ref t17, .ref t18, .ref t19])) np4)
    have s4 := sb.trans (same_put (o := .lst ([.ref t0, .ref t1, .ref t2, .ref t3, .ref t4] ++ [.ref t5, .ref t6, .ref t7, .ref t8, .ref t9] ++ [.ref t10, .ref t11, .ref t12, .ref t13, .ref t14] ++ [.ref t15, .ref t16, .ref t17, .ref t18, .ref t19])) np4)
    generalize upd B4 p4 (.lst ([.ref t0, .ref t1, .ref t2, .ref t3, .ref t4] ++ [.ref t5, .ref t6, .ref t7, .ref t8, .ref t9] ++ [.ref t10, .ref t11, .ref t12, .ref t13, .ref t14] ++ [.ref t15, .ref t16, .ref t17, .ref t18, .ref t19])) = J4 at f4 x4 s4
    clear fb fq xb sb x3 s3
    refine ⟨_, rfl, ?_⟩
    have m20 := Ls.start (H := J4)
    refine ⟨_, rfl, _, _, _, _, rfl, rfl, SqL.of ((s4.trans m20.same) _ _ hp), atI_nat h20, a20, _, d20, _, _, _, _, rfl, (s4.trans m20.same) _ _ ea20, (s4.trans m20.same) _ _ ed20, o20.T, o20.no _ (List.mem_of_getElem? (i := 0) rfl), lk_eq, Nat.le_of_ble_eq_true rfl, fun t20 nt20 => ?_⟩
    have m21 := Ls.more m20 [x] nt20
    refine ⟨_, rfl, _, _, _, _, rfl, rfl, SqL.of ((s4.trans m21.same) _ _ hp), atI_nat h21, a21, _, d21, _, _, _, _, rfl, (s4.trans m21.same) _ _ ea21, (s4.trans m21.same) _ _ ed21, o21.T, o21.no _ (List.mem_of_getElem? (i := 0) rfl), (lk_ne (by decide +kernel) lk_eq), _, rfl, _, _, _, _, rfl, rfl, SqL.of ((s4.trans m21.same) _ _ hp), atI_nat h21, a21, _, d21, _, _, _, _, rfl, (s4.trans m21.same) _ _ ea21, (s4.trans m21.same) _ _ ed21, o21.T, o21.no _ (List.mem_of_getElem? (i := 1) rfl), lk_eq, Nat.le_of_ble_eq_true rfl, fun t21 nt21 => ?_⟩
    have m22 := Ls.more m21 [x, y] nt21
    refine ⟨_, rfl, _, _, _, _, rfl, rfl, SqL.of ((s4.trans m22.same) _ _ hp), atI_nat h22, a22, _, d22, _, _, _, _, rfl, (s4.trans m22.same) _ _ ea22, (s4.trans m22.same) _ _ ed22, o22.T, o22.no _ (List.mem_of_getElem? (i := 0) rfl), lk_eq, Nat.le_of_ble_eq_true rfl, fun t22 nt22 => ?_⟩
    have m23 := Ls.more m22 [x] nt22
    refine ⟨_, rfl, _, _, _, _, rfl, rfl, SqL.of ((s4.trans m23.same) _ _ hp), atI_nat h23, a23, _, d23, _, _, _, _, rfl, (s4.trans m23.same) _ _ ea23, (s4.trans m23.same) _ _ ed23, o23.T, o23.no _ (List.mem_of_getElem? (i := 0) rfl), lk_eq, Nat.le_of_ble_eq_true rfl, fun t23 nt23 => ?_⟩
    have m24 := Ls.more m23 [x] nt23
    refine ⟨Nat.le_of_ble_eq_true rfl, fun q5 nq5 => ?_⟩
    have v5 := m24.put (o := .lst [.ref t20, .ref t21, .ref t22, .ref t23]) nq5
    have fb := v5.same _ _ f4
    have fq : upd (upd (upd (upd (upd J4 t20 (.lst [x])) t21 (.lst [x, y])) t22 (.lst [x])) t23 (.lst [x])) q5 (.lst [.ref t20, .ref t21, .ref t22, .ref t23]) q5 = some (.lst [.ref t20, .ref t21, .ref t22, .ref t23]) := upd_same
    have xb := (x4.same v5.same).append v5.is
    have sb := s4.trans v5.same
    generalize upd (upd (upd (upd (upd J4 t20 (.lst [x])) t21 (.lst [x, y])) t22 (.lst [x])) t23 (.lst [x])) q5 (.lst [.ref t20, .ref t21, .ref t22, .ref t23]) = B5 at v5 fb fq xb sb
    clear v5 m20 m21 m22 m23 m24
    refine ⟨_, _, _, _, rfl, rfl, fb, fq, Nat.le_of_ble_eq_true rfl, fun p5 np5 => ?_⟩
    have f5 : upd B5 p5 (.lst ([.ref t0, .ref t1, .ref t2, .ref t3, .ref t4] ++ [.ref t5, .ref t6, .ref t7, .ref t8, .ref t9] ++ [.ref t10, .ref t11, .ref t12, .ref t13, .ref t14] ++ [.ref t15, .ref t16, .ref t17, .ref t18, .ref t19] ++ [.ref t20, .ref t21, .ref t22, .ref t23])) p5 = some (.lst ([.ref t0, .ref t1, .ref t2, .ref t3, .ref t4] ++ [.ref t5, .ref t6, .ref t7, .ref t8, .ref t9] ++ [.ref t10, .ref t11, .ref t12, .ref t13, .ref t14] ++ [.ref t15, .ref t16, .ref t17, .ref t18, .ref t19] ++ [.ref t20, .ref t21, .ref t22, .ref t23])) := upd_same
    have x5 := xb.same (same_put (o := .lst ([.ref t0, .ref t1, .ref t2, .ref t3, .ref t4] ++ [.ref t5, .ref t6, .ref t7, .ref t8, .ref t9] ++ [.ref t10, .ref t11, .ref t12, .ref t13, .ref t14] ++ [.ref t15, .ref t16, .ref t17, .ref t18, .ref t19] ++ [.ref t20, .ref t21, .ref t22, .ref t23])) np5)
    have s5 := sb.trans (same_put (o := .lst ([.ref t0, .ref t1, .ref t2, .ref t3, .ref t4] ++ [.ref t5, .ref t6, .ref t7, .ref t8, .ref t9] ++ [.ref t10, .ref t11, .ref t12, .ref t13, .ref t14] ++ [.ref t15, .ref t16, .ref t17, .ref t18, .ref t19] ++ [.ref t20, .ref t21, .ref t22, .ref t23])) np5)
    generalize upd B5 p5 (.lst ([.ref t0, .ref t1, .ref t2, .ref t3, .ref t4] ++ [.ref t5, .ref t6, .ref t7, .ref t8, .ref t9] ++ [.ref t10, .ref t11, .ref t12, .ref t13, .ref t14] ++ [.ref t15, .ref t16, .ref t17, .ref t18, .ref t19] ++ [.ref t20, .ref t21, .ref t22, .ref t23])) = J5 at f5 x5 s5
    clear fb fq xb sb x4 s4
    refine ⟨_, rfl, ?_⟩
    have m24 := Ls.start (H := J5)
    refine ⟨_, rfl, _, _, _, _, rfl, rfl, SqL.of ((s5.trans m24.same) _ _ hp), atI_nat h24, a24, _, d24, _, _, _, _, rfl, (s5.trans m24.same) _ _ ea24, (s5.trans m24.same) _ _ ed24, o24.T, o24.no _ (List.mem_of_getElem? (i := 0) rfl), lk_eq, Nat.le_of_ble_eq_true rfl, fun t24 nt24 => ?_⟩
    have m25 := Ls.more m24 [x] nt24
    refine ⟨_, rfl, _, _, _, _, rfl, rfl, SqL.of ((s5.trans m25.same) _ _ hp), atI_nat h25, a25, _, d25, _, _, _, _, rfl, (s5.trans m25.same) _ _ ea25, (s5.trans m25.same) _ _ ed25, o25.T, o25.no _ (List.mem_of_getElem? (i := 0) rfl), (lk_ne (by decide +kernel) (lk_ne (by decide +kernel) lk_eq)), _, rfl, _, _, _, _, rfl, rfl, SqL.of ((s5.trans m25.same) _ _ hp), atI_nat h25, a25, _, d25, _, _, _, _, rfl, (s5.trans m25.same) _ _ ea25, (s5.trans m25.same) _ _ ed25, o25.T, o25.no _ (List.mem_of_getElem? (i := 1) rfl), (lk_ne (by decide +kernel) lk_eq), _, rfl, _, _, _, _, rfl, rfl, SqL.of ((s5.trans m25.same) _ _ hp), atI_nat h25, a25, _, d25, _, _, _, _, rfl, (s5.trans m25.same) _ _ ea25, (s5.trans m25.same) _ _ ed25, o25.T, o25.no _ (List.mem_of_getElem? (i := 2) rfl), lk_eq, Nat.le_of_ble_eq_true rfl, fun t25 nt25 => ?_⟩
    have m26 := Ls.more m25 [x, y, z] nt25
    refine ⟨Nat.le_of_ble_eq_true rfl, fun q6 nq6 => ?_⟩
    have v6 := m26.put (o := .lst [.ref t24, .ref t25]) nq6
    have fb := v6.same _ _ f5
    have fq : upd (upd (upd J5 t24 (.lst [x])) t25 (.lst [x, y, z])) q6 (.lst [.ref t24, .ref t25]) q6 = some (.lst [.ref t24, .ref t25]) := upd_same
    have xb := (x5.same v6.same).append v6.is
    have sb := s5.trans v6.same
    generalize upd (upd (upd J5 t24 (.lst [x])) t25 (.lst [x, y, z])) q6 (.lst [.ref t24, .ref t25]) = B6 at v6 fb fq xb sb
    clear v6 m24 m25 m26
    refine ⟨_, _, _, _, rfl, rfl, fb, fq, Nat.le_of_ble_eq_true rfl, fun p6 np6 => ?_⟩
    have f6 : upd B6 p6 (.lst ([.ref t0, .ref t1, .ref t2, .ref t3, .ref t4] ++ [.ref t5, .ref t6, .ref t7, .ref t8, .ref t9] ++ [.ref t10, .ref t11, .ref t12, .ref t13, .ref t14] ++ [.ref t15, .ref t16, .ref t17, .ref t18, .ref t19] ++ [.ref t20, .ref t21, .ref t22, .ref t23] ++ [.ref t24, .ref t25])) p6 = some (.lst ([.ref t0, .ref t1, .ref t2, .ref t3, .ref t4] ++ [.ref t5, .ref t6, .ref t7, .ref t8, .ref t9] ++ [.ref t10, .ref t11, .ref t12, .ref t13, .ref t14] ++ [.ref t15, .ref t16, .ref t17, .ref t18, .ref t19] ++ [.ref t20, .ref t21, .ref t22, .ref t23] ++ [.ref t24, .ref t25])) := upd_same
    have x6 := xb.same (same_put (o := .lst ([.ref t0, .ref t1, .ref t2, .ref t3, .ref t4] ++ [.ref t5, .ref t6, .ref t7, .ref t8, .ref t9] ++ [.ref t10, .ref t11, .ref t12, .ref t13, .ref t14] ++ [.ref t15, .ref t16, .ref t17, .ref t18, .ref t19] ++ [.ref t20, .ref t21, .ref t22, .ref t23] ++ [.ref t24, .ref t25])) np6)
    have s6 := sb.trans (same_put (o := .lst ([.ref t0, .ref t1, .ref t2, .ref t3, .ref t4] ++ [.ref t5, .ref t6, .ref t7, .ref t8, .ref t9] ++ [.ref t10, .ref t11, .ref t12, .ref t13, .ref t14] ++ [.ref t15, .ref t16, .ref t17, .ref t18, .ref t19] ++ [.ref t20, .ref t21, .ref t22, .ref t23] ++ [.ref t24, .ref t25])) np6)
    generalize upd B6 p6 (.lst ([.ref t0, .ref t1, .ref t2, .ref t3, .ref t4] ++ [.ref t5, .ref t6, .ref t7, .ref t8, .ref t9] ++ [.ref t10, .ref t11, .ref t12, .ref t13, .ref t14] ++ [.ref t15, .ref t16, .ref t17, .ref t18, .ref t19] ++ [.ref t20, .ref t21, .ref t22, .ref t23] ++ [.ref t24, .ref t25])) = J6 at f6 x6 s6
    clear fb fq xb sb x5 s5
    refine ⟨_, rfl, ?_⟩
    have m26 := Ls.start (H := J6)
    refine ⟨_, rfl, _, _, _, _, rfl, rfl, SqL.of ((s6.trans m26.same) _ _ hp), atI_nat h26, a26, _, d26, _, _, _, _, rfl, (s6.trans m26.same) _ _ ea26, (s6.trans m26.same) _ _ ed26, o26.T, o26.no _ (List.mem_of_getElem? (i := 0) rfl), (lk_ne (by decide +kernel) lk_eq), _, rfl, _, _, _, _, rfl, rfl, SqL.of ((s6.trans m26.same) _ _ hp), atI_nat h26, a26, _, d26, _, _, _, _, rfl, (s6.trans m26.same) _ _ ea26, (s6.trans m26.same) _ _ ed26, o26.T, o26.no _ (List.mem_of_getElem? (i := 1) rfl), lk_eq, Nat.le_of_ble_eq_true rfl, fun t26 nt26 => ?_⟩
    have m27 := Ls.more m26 [x, y] nt26
    refine ⟨Nat.le_of_ble_eq_true rfl, fun q7 nq7 => ?_⟩
    have v7 := m27.put (o := .lst [.ref t26]) nq7
    have fb := v7.same _ _ f6
    have fq : upd (upd J6 t26 (.lst [x, y])) q7 (.lst [.ref t26]) q7 = some (.lst [.ref t26]) := upd_same
    have xb := (x6.same v7.same).append v7.is
    have sb := s6.trans v7.same
    generalize upd (upd J6 t26 (.lst [x, y])) q7 (.lst [.ref t26]) = B7 at v7 fb fq xb sb
    clear v7 m26 m27
    refine ⟨_, _, _, _, rfl, rfl, fb, fq, Nat.le_of_ble_eq_true rfl, fun p7 np7 => ?_⟩
    exact k p7 _ _ (sb.free np7) (sb.trans (same_put np7)) upd_same (xb.same (same_put np7))
end
end K90

set_option Elab.async false
set_option linter.all false
set_option maxRecDepth 100000
set_option maxHeartbeats 4000000
namespace K90
open PySem PySem.Spec PyProof.Rows L2 He KX
structure KF (K : PySem.W.Frag) : Prop where
  one : ∀ c ∈ cx, One K c
  nd : (names.map (ga K)).Nodup
  bp : (PySem.W.clsIn K (ga K "PlaceError")).isSome = true ∧ PySem.W.typeIn K (.ref (ga K "PlaceError")) = some (.type "type")
  bm : (PySem.W.clsIn K (ga K "MissingError")).isSome = true ∧ PySem.W.typeIn K (.ref (ga K "MissingError")) = some (.type "type")
  sp : PySem.W.specialIn K (.builtin "object.__class__") "__get__" = some (some (.builtin "getset_descriptor.__get__"))
  tk : PySem.W.takesIn K (.builtin "object.__class__") = some true
theorem name_i {i : Nat} {c : Cls1} (h : cx[i]? = some c) : names[i]? = some c.1 := by
  have hi : i < 27 := (List.getElem?_eq_some_iff.mp h).1
  unfold names
  rw [List.getElem?_append_left (by rw [List.length_map]; exact hi), List.getElem?_map, h]
  rfl
theorem KF.ne {K : PySem.W.Frag} (F : KF K) {i j : Nat} {x y : Str} (hi : names[i]? = some x) (hj : names[j]? = some y) (h : i ≠ j) : ga K x ≠ ga K y := by
  have li := (List.getElem?_eq_some_iff.mp hi).1
  have lj := (List.getElem?_eq_some_iff.mp hj).1
  intro e
  have h1 : (names.map (ga K))[i]? = some (ga K x) := by rw [List.getElem?_map, hi]; rfl
  have h2 : (names.map (ga K))[j]? = some (ga K x) := by rw [List.getElem?_map, hj, e]; rfl
  have l2 : i < (names.map (ga K)).length := by rw [List.length_map]; exact li
  exact h ((List.getElem?_inj l2 F.nd).mp (h1.trans h2.symm))
theorem type_of_one {K : PySem.W.Frag} {C : Addr} {bmB : List Value} {nid : String} (T : ExK K C bmB nid) : PySem.W.typeIn K (.ref C) = some (.type "type") := by
  have q := T.init
  unfold PySem.W.excInitIn at q
  split at q
  · rename_i dd cd sl ho
    show (List.lookup C K).map (·.cls) = _
    rw [show List.lookup C K = _ from ho] <;> rfl
  · cases q
theorem mro_in {K : PySem.W.Frag} {C : Addr} {l : List Value} {b : Value} (hc : (PySem.W.clsIn K C).isSome = true) (h : mroOfK K C = l) (hl : l.isEmpty = false) : PySem.W.mroIn K C b = some (l.contains b) := by
  obtain ⟨cd, e⟩ := Option.isSome_iff_exists.mp hc
  unfold mroOfK at h
  unfold PySem.W.mroIn
  rw [e] at h ⊢
  have h' : cd.mro = l := h
  rw [Option.bind_some, h', hl]
  rfl
section
variable {K : PySem.W.Frag}
theorem cls_some {C : Addr} {bmB : List Value} {nid : String} (T : ExK K C bmB nid) : (PySem.W.clsIn K C).isSome = true := by
  obtain ⟨cd, hc, _⟩ := PySem.W.any_some T.hd
  rw [hc]
  rfl
/-- the class among its own mro -/
def mroC (K : PySem.W.Frag) (c : Cls1) : List Value := .ref (ga K c.1) :: (if c.2.2 then .ref (ga K "MissingError") :: lT else .ref (ga K "PlaceError") :: vT)
theorem kit_own (F : KF K) {i j : Nat} {c c' : Cls1} (hi : cx[i]? = some c) (hj : cx[j]? = some c') : PySem.W.kitOne K (.ref (ga K c.1)) (.ref (ga K c'.1)) = some (decide (j = i)) := by
  have hO := F.one c (List.mem_of_getElem? hi)
  have hO' := F.one c' (List.mem_of_getElem? hj)
  by_cases h : j = i
  · subst h
    obtain rfl : c = c' := Option.some.inj (hi.symm.trans hj)
    unfold PySem.W.kitOne
    rw [if_pos (beq_self_eq_true _)]
    simp
  · have n1 : ga K c'.1 ≠ ga K c.1 := F.ne (name_i hj) (name_i hi) h
    have lj : j < 27 := (List.getElem?_eq_some_iff.mp hj).1
    have n2 : ga K c'.1 ≠ ga K "PlaceError" := F.ne (i := j) (j := 27) (name_i hj) rfl (by omega)
    have n3 : ga K c'.1 ≠ ga K "MissingError" := F.ne (i := j) (j := 28) (name_i hj) rfl (by omega)
    unfold PySem.W.kitOne PySem.W.kitCls
    rw [if_neg (by intro q; exact n1 (Value.ref.inj (beq_iff_eq.mp q)).symm)]
    show (if ((PySem.W.clsIn K (ga K c'.1)).isSome && PySem.W.typeIn K (.ref (ga K c'.1)) == some (.type "type")) = true then PySem.W.subIn K (.ref (ga K c.1)) (.ref (ga K c'.1)) else none) = _
    rw [cls_some hO'.T, type_of_one hO'.T, if_pos (by decide)]
    show PySem.W.mroIn K (ga K c.1) (.ref (ga K c'.1)) = _
    rw [mro_in (cls_some hO.T) hO.mro rfl, decide_eq_false h]
    congr 1
    rw [List.contains_eq_any_beq, List.any_eq_false]
    intro v hv q
    have e : v = .ref (ga K c'.1) := (beq_iff_eq.mp q).symm
    subst e
    rcases List.mem_cons.mp hv with z | z
    · exact n1 (Value.ref.inj z)
    · cases hb : c.2.2 with
      | true =>
        rw [hb] at z
        rcases List.mem_cons.mp z with z | z
        · exact n3 (Value.ref.inj z)
        · simp [lT] at z
      | false =>
        rw [hb] at z
        rcases List.mem_cons.mp z with z | z
        · exact n2 (Value.ref.inj z)
        · simp [vT] at z
theorem kit_base (F : KF K) {i : Nat} {c : Cls1} (hi : cx[i]? = some c) (m : Bool) : PySem.W.kitOne K (.ref (ga K c.1)) (.ref (ga K (if m then "MissingError" else "PlaceError"))) = some (c.2.2 == m) := by
  have hO := F.one c (List.mem_of_getElem? hi)
  have li : i < 27 := (List.getElem?_eq_some_iff.mp hi).1
  have n2 : ga K c.1 ≠ ga K "PlaceError" := F.ne (i := i) (j := 27) (name_i hi) rfl (by omega)
  have n3 : ga K c.1 ≠ ga K "MissingError" := F.ne (i := i) (j := 28) (name_i hi) rfl (by omega)
  have n4 : ga K "PlaceError" ≠ ga K "MissingError" := F.ne (i := 27) (j := 28) rfl rfl (by omega)
  have n5 : ga K c.1 ≠ ga K (if m then "MissingError" else "PlaceError") := by cases m <;> assumption
  have hb : (PySem.W.clsIn K (ga K (if m then "MissingError" else "PlaceError"))).isSome = true ∧ PySem.W.typeIn K (.ref (ga K (if m then "MissingError" else "PlaceError"))) = some (.type "type") := by
    cases m
    · exact F.bp
    · exact F.bm
  unfold PySem.W.kitOne PySem.W.kitCls
  rw [if_neg (by intro q; exact n5 (Value.ref.inj (beq_iff_eq.mp q)))]
  show (if ((PySem.W.clsIn K _).isSome && PySem.W.typeIn K (.ref _) == some (.type "type")) = true then PySem.W.subIn K (.ref (ga K c.1)) (.ref _) else none) = _
  rw [hb.1, hb.2, if_pos (by decide)]
  show PySem.W.mroIn K (ga K c.1) (.ref _) = _
  rw [mro_in (cls_some hO.T) hO.mro rfl]
  congr 1
  cases hc : c.2.2 <;> cases m
  · simp [vT, n2, n2.symm]
  · simp [vT, n3.symm, n4.symm, n4]
  · simp [lT, n2.symm, n4, n4.symm]
  · simp [lT, n3, n3.symm]
theorem kit_blt (F : KF K) {i : Nat} {c : Cls1} (hi : cx[i]? = some c) (m : Bool) : PySem.W.kitOne K (.ref (ga K c.1)) (.type (if m then "LookupError" else "ValueError")) = some (c.2.2 == m) := by
  have hO := F.one c (List.mem_of_getElem? hi)
  unfold PySem.W.kitOne PySem.W.kitCls
  rw [if_neg (by intro q; exact nomatch beq_iff_eq.mp q)]
  show (if PySem.W.kitMeta (if m then "LookupError" else "ValueError") = true then PySem.W.mroIn K (ga K c.1) (.type (if m then "LookupError" else "ValueError")) else none) = _
  rw [if_pos (by cases m <;> decide +kernel), mro_in (cls_some hO.T) hO.mro rfl]
  congr 1
  cases hc : c.2.2 <;> cases m <;> simp [vT, lT]
theorem lookup_kind {i : Nat} {c : Cls1} (hi : cx[i]? = some c) : c.2.2 = decide (i < 3) := by
  have li : i < 27 := (List.getElem?_eq_some_iff.mp hi).1
  have h : ∀ j, j < 27 → (cx[j]?.map fun c => c.2.2) = some (decide (j < 3)) := by decide +kernel
  have q := h i li
  rw [hi] at q
  exact Option.some.inj q
end
end K90

set_option Elab.async false
set_option linter.all false
set_option maxRecDepth 100000
set_option maxHeartbeats 4000000
namespace K90
open PySem PySem.Spec PyProof.Rows L2 He KX
theorem sameP {H : Hp} {p : Addr} {o : HO} (hp : H p = none) : Same H (upd H p o) := fun x u e => (upd_ne (ne_of_none e hp)).trans e
/-- _law_classes(e) -/
def spClasses (K : PySem.W.Frag) : Sp := fun vs H Q _ => ∃ (a d : Addr) (i : Nat) (c : Cls1) (fl : List (Str × V)), vs = [.ref a] ∧ cx[i]? = some c ∧ H a = some (exo a (ga K c.1) (some d)) ∧ H d = some (exd d fl) ∧
  ∀ (q : Addr) (H' : Hp), H q = none → Same H H' → H' q = some (.lst ((List.range 27).map fun j => V.bl (decide (j = i)))) → Q (.ref q) H'
section
variable {P : Program} {w : World} {K : PySem.W.Frag} {mg : Str → Option Value} {base : Heap}
theorem scClasses : FnScope ["e", "found"] ["e"] (defScope sClasses) := ⟨rfl, rfl, rfl, by decide +kernel, rfl, by decide +kernel, by decide +kernel⟩
theorem ok_classes {f : Addr} {fd : FuncData} (F : FnP K "_law_classes" sClasses f fd) (KK : KF K) (GM : ∀ c ∈ cx, mg c.1 = some (.ref (ga K c.1))) (gIsi : mg "isinstance" = none) : FnOk P w K mg base CX0 1 f fd ["e"] (spClasses K) := by
  refine F.ok scClasses (fun vs H Q E h => ?_) (fun cdv A outer s H vs Q E hr h => ?_)
  · obtain ⟨a, d, i, c, fl, rfl, _⟩ := h
    rfl
  · obtain ⟨a, d, i, c, fl, rfl, hi, ea, ed, k⟩ := h
    have O := KK.one c (List.mem_of_getElem? hi)
    refine ⟨_, PSs.nox (pss_cons (ps_set (i := 1) scClasses.nd rfl (Or.inl rfl) (pe_lst (pa_cons (pe_callB call_isX (by rfl) gIsi (by decide +kernel) (pa_cons (pv 0) (pa_cons (pe_glob (v := .ref (ga K "NoRow")) rfl (GM _ (List.mem_of_getElem? (i := 0) rfl)) rfl) pa_nil))) (pa_cons (pe_callB call_isX (by rfl) gIsi (by decide +kernel) (pa_cons (pv 0) (pa_cons (pe_glob (v := .ref (ga K "NoPlace")) rfl (GM _ (List.mem_of_getElem? (i := 1) rfl)) rfl) pa_nil))) (pa_cons (pe_callB call_isX (by rfl) gIsi (by decide +kernel) (pa_cons (pv 0) (pa_cons (pe_glob (v := .ref (ga K "NoHandler")) rfl (GM _ (List.mem_of_getElem? (i := 2) rfl)) rfl) pa_nil))) (pa_cons (pe_callB call_isX (by rfl) gIsi (by decide +kernel) (pa_cons (pv 0) (pa_cons (pe_glob (v := .ref (ga K "BadName")) rfl (GM _ (List.mem_of_getElem? (i := 3) rfl)) rfl) pa_nil))) pa_nil))))))
      (pss_cons (ps_set (i := 1) scClasses.nd rfl (Or.inl rfl) (pe_op op_cat (pv 1) (pe_lst (pa_cons (pe_callB call_isX (by rfl) gIsi (by decide +kernel) (pa_cons (pv 0) (pa_cons (pe_glob (v := .ref (ga K "BadPlace")) rfl (GM _ (List.mem_of_getElem? (i := 4) rfl)) rfl) pa_nil))) (pa_cons (pe_callB call_isX (by rfl) gIsi (by decide +kernel) (pa_cons (pv 0) (pa_cons (pe_glob (v := .ref (ga K "BadSlide")) rfl (GM _ (List.mem_of_getElem? (i := 5) rfl)) rfl) pa_nil))) (pa_cons (pe_callB call_isX (by rfl) gIsi (by decide +kernel) (pa_cons (pv 0) (pa_cons (pe_glob (v := .ref (ga K "NoInverse")) rfl (GM _ (List.mem_of_getElem? (i := 6) rfl)) rfl) pa_nil))) (pa_cons (pe_callB call_isX (by rfl) gIsi (by decide +kernel) (pa_cons (pv 0) (pa_cons (pe_glob (v := .ref (ga K "Twice")) rfl (GM _ (List.mem_of_getElem? (i := 7) rfl)) rfl) pa_nil))) pa_nil)))))))
      (pss_cons (ps_set (i := 1) scClasses.nd rfl (Or.inl rfl) (pe_op op_cat (pv 1) (pe_lst (pa_cons (pe_callB call_isX (by rfl) gIsi (by decide +kernel) (pa_cons (pv 0) (pa_cons (pe_glob (v := .ref (ga K "BadOperation")) rfl (GM _ (List.mem_of_getElem? (i := 8) rfl)) rfl) pa_nil))) (pa_cons (pe_callB call_isX (by rfl) gIsi (by decide +kernel) (pa_cons (pv 0) (pa_cons (pe_glob (v := .ref (ga K "BadCall")) rfl (GM _ (List.mem_of_getElem? (i := 9) rfl)) rfl) pa_nil))) (pa_cons (pe_callB call_isX (by rfl) gIsi (by decide +kernel) (pa_cons (pv 0) (pa_cons (pe_glob (v := .ref (ga K "BadVisit")) rfl (GM _ (List.mem_of_getElem? (i := 10) rfl)) rfl) pa_nil))) pa_nil))))))
      (pss_cons (ps_set (i := 1) scClasses.nd rfl (Or.inl rfl) (pe_op op_cat (pv 1) (pe_lst (pa_cons (pe_callB call_isX (by rfl) gIsi (by decide +kernel) (pa_cons (pv 0) (pa_cons (pe_glob (v := .ref (ga K "BadLine")) rfl (GM _ (List.mem_of_getElem? (i := 11) rfl)) rfl) pa_nil))) (pa_cons (pe_callB call_isX (by rfl) gIsi (by decide +kernel) (pa_cons (pv 0) (pa_cons (pe_glob (v := .ref (ga K "BadStep")) rfl (GM _ (List.mem_of_getElem? (i := 12) rfl)) rfl) pa_nil))) (pa_cons (pe_callB call_isX (by rfl) gIsi (by decide +kernel) (pa_cons (pv 0) (pa_cons (pe_glob (v := .ref (ga K "BadText")) rfl (GM _ (List.mem_of_getElem? (i := 13) rfl)) rfl) pa_nil))) (pa_cons (pe_callB call_isX (by rfl) gIsi (by decide +kernel) (pa_cons (pv 0) (pa_cons (pe_glob (v := .ref (ga K "BadWorld")) rfl (GM _ (List.mem_of_getElem? (i := 14) rfl)) rfl) pa_nil))) pa_nil)))))))
      (pss_cons (ps_set (i := 1) scClasses.nd rfl (Or.inl rfl) (pe_op op_cat (pv 1) (pe_lst (pa_cons (pe_callB call_isX (by rfl) gIsi (by decide +kernel) (pa_cons (pv 0) (pa_cons (pe_glob (v := .ref (ga K "BadNumber")) rfl (GM _ (List.mem_of_getElem? (i := 15) rfl)) rfl) pa_nil))) (pa_cons (pe_callB call_isX (by rfl) gIsi (by decide +kernel) (pa_cons (pv 0) (pa_cons (pe_glob (v := .ref (ga K "BadSpot")) rfl (GM _ (List.mem_of_getElem? (i := 16) rfl)) rfl) pa_nil))) (pa_cons (pe_callB call_isX (by rfl) gIsi (by decide +kernel) (pa_cons (pv 0) (pa_cons (pe_glob (v := .ref (ga K "BadBound")) rfl (GM _ (List.mem_of_getElem? (i := 17) rfl)) rfl) pa_nil))) pa_nil))))))
      (pss_cons (ps_set (i := 1) scClasses.nd rfl (Or.inl rfl) (pe_op op_cat (pv 1) (pe_lst (pa_cons (pe_callB call_isX (by rfl) gIsi (by decide +kernel) (pa_cons (pv 0) (pa_cons (pe_glob (v := .ref (ga K "BadKind")) rfl (GM _ (List.mem_of_getElem? (i := 18) rfl)) rfl) pa_nil))) (pa_cons (pe_callB call_isX (by rfl) gIsi (by decide +kernel) (pa_cons (pv 0) (pa_cons (pe_glob (v := .ref (ga K "OtherOperation")) rfl (GM _ (List.mem_of_getElem? (i := 19) rfl)) rfl) pa_nil))) (pa_cons (pe_callB call_isX (by rfl) gIsi (by decide +kernel) (pa_cons (pv 0) (pa_cons (pe_glob (v := .ref (ga K "BadOrder")) rfl (GM _ (List.mem_of_getElem? (i := 20) rfl)) rfl) pa_nil))) pa_nil))))))
      (pss_cons (ps_set (i := 1) scClasses.nd rfl (Or.inl rfl) (pe_op op_cat (pv 1) (pe_lst (pa_cons (pe_callB call_isX (by rfl) gIsi (by decide +kernel) (pa_cons (pv 0) (pa_cons (pe_glob (v := .ref (ga K "BadPair")) rfl (GM _ (List.mem_of_getElem? (i := 21) rfl)) rfl) pa_nil))) (pa_cons (pe_callB call_isX (by rfl) gIsi (by decide +kernel) (pa_cons (pv 0) (pa_cons (pe_glob (v := .ref (ga K "BadRule")) rfl (GM _ (List.mem_of_getElem? (i := 22) rfl)) rfl) pa_nil))) (pa_cons (pe_callB call_isX (by rfl) gIsi (by decide +kernel) (pa_cons (pv 0) (pa_cons (pe_glob (v := .ref (ga K "BadMend")) rfl (GM _ (List.mem_of_getElem? (i := 23) rfl)) rfl) pa_nil))) (pa_cons (pe_callB call_isX (by rfl) gIsi (by decide +kernel) (pa_cons (pv 0) (pa_cons (pe_glob (v := .ref (ga K "TooMany")) rfl (GM _ (List.mem_of_getElem? (i := 24) rfl)) rfl) pa_nil))) pa_nil)))))))
      (pss_one (ps_ret (pe_op op_cat (pv 1) (pe_lst (pa_cons (pe_callB call_isX (by rfl) gIsi (by decide +kernel) (pa_cons (pv 0) (pa_cons (pe_glob (v := .ref (ga K "Clash")) rfl (GM _ (List.mem_of_getElem? (i := 25) rfl)) rfl) pa_nil))) (pa_cons (pe_callB call_isX (by rfl) gIsi (by decide +kernel) (pa_cons (pv 0) (pa_cons (pe_glob (v := .ref (ga K "CallFailed")) rfl (GM _ (List.mem_of_getElem? (i := 26) rfl)) rfl) pa_nil))) pa_nil))))))))))))), ?_⟩
    refine ⟨_, rfl, a, _, d, _, _, fl, _, _, _, rfl, ea, ed, O.T, KK.sp, KK.tk, (fun _ r => r), kit_own KK hi (j := 0) (c' := ("NoRow", ["row"], true)) rfl, ?_⟩
    refine ⟨_, rfl, a, _, d, _, _, fl, _, _, _, rfl, ea, ed, O.T, KK.sp, KK.tk, (fun _ r => r), kit_own KK hi (j := 1) (c' := ("NoPlace", ["lst", "place"], true)) rfl, ?_⟩
    refine ⟨_, rfl, a, _, d, _, _, fl, _, _, _, rfl, ea, ed, O.T, KK.sp, KK.tk, (fun _ r => r), kit_own KK hi (j := 2) (c' := ("NoHandler", ["name"], true)) rfl, ?_⟩
    refine ⟨_, rfl, a, _, d, _, _, fl, _, _, _, rfl, ea, ed, O.T, KK.sp, KK.tk, (fun _ r => r), kit_own KK hi (j := 3) (c' := ("BadName", ["name"], false)) rfl, ?_⟩
    refine ⟨Nat.le_of_ble_eq_true rfl, fun p1 np1 => ?_⟩
    have s1 : Same H (upd H p1 (.lst [V.bl (decide (0 = i)), V.bl (decide (1 = i)), V.bl (decide (2 = i)), V.bl (decide (3 = i))])) := sameP np1
    have f1 : upd H p1 (.lst [V.bl (decide (0 = i)), V.bl (decide (1 = i)), V.bl (decide (2 = i)), V.bl (decide (3 = i))]) p1 = some (.lst [V.bl (decide (0 = i)), V.bl (decide (1 = i)), V.bl (decide (2 = i)), V.bl (decide (3 = i))]) := upd_same
    generalize upd H p1 (.lst [V.bl (decide (0 = i)), V.bl (decide (1 = i)), V.bl (decide (2 = i)), V.bl (decide (3 = i))]) = J1 at s1 f1
    refine ⟨_, rfl, ?_⟩
    refine ⟨_, rfl, a, _, d, _, _, fl, _, _, _, rfl, s1 _ _ ea, s1 _ _ ed, O.T, KK.sp, KK.tk, (fun _ r => r), kit_own KK hi (j := 4) (c' := ("BadPlace", ["place"], false)) rfl, ?_⟩
    refine ⟨_, rfl, a, _, d, _, _, fl, _, _, _, rfl, s1 _ _ ea, s1 _ _ ed, O.T, KK.sp, KK.tk, (fun _ r => r), kit_own KK hi (j := 5) (c' := ("BadSlide", ["index"], false)) rfl, ?_⟩
    refine ⟨_, rfl, a, _, d, _, _, fl, _, _, _, rfl, s1 _ _ ea, s1 _ _ ed, O.T, KK.sp, KK.tk, (fun _ r => r), kit_own KK hi (j := 6) (c' := ("NoInverse", ["slide"], false)) rfl, ?_⟩
    refine ⟨_, rfl, a, _, d, _, _, fl, _, _, _, rfl, s1 _ _ ea, s1 _ _ ed, O.T, KK.sp, KK.tk, (fun _ r => r), kit_own KK hi (j := 7) (c' := ("Twice", ["row"], false)) rfl, ?_⟩
    refine ⟨Nat.le_of_ble_eq_true rfl, fun q2 nq2 => ?_⟩
    have fb := sameP (o := .lst [V.bl (decide (4 = i)), V.bl (decide (5 = i)), V.bl (decide (6 = i)), V.bl (decide (7 = i))]) nq2 _ _ f1
    have sb := s1.trans (sameP (o := .lst [V.bl (decide (4 = i)), V.bl (decide (5 = i)), V.bl (decide (6 = i)), V.bl (decide (7 = i))]) nq2)
    have fq : upd J1 q2 (.lst [V.bl (decide (4 = i)), V.bl (decide (5 = i)), V.bl (decide (6 = i)), V.bl (decide (7 = i))]) q2 = some (.lst [V.bl (decide (4 = i)), V.bl (decide (5 = i)), V.bl (decide (6 = i)), V.bl (decide (7 = i))]) := upd_same
    generalize upd J1 q2 (.lst [V.bl (decide (4 = i)), V.bl (decide (5 = i)), V.bl (decide (6 = i)), V.bl (decide (7 = i))]) = B2 at fb fq sb
    refine ⟨_, _, _, _, rfl, rfl, fb, fq, Nat.le_of_ble_eq_true rfl, fun p2 np2 => ?_⟩
    have s2 := sb.trans (sameP (o := .lst ([V.bl (decide (0 = i)), V.bl (decide (1 = i)), V.bl (decide (2 = i)), V.bl (decide (3 = i))] ++ [V.bl (decide (4 = i)), V.bl (decide (5 = i)), V.bl (decide (6 = i)), V.bl (decide (7 = i))])) np2)
    have f2 : upd B2 p2 (.lst ([V.bl (decide (0 = i)), V.bl (decide (1 = i)), V.bl (decide (2 = i)), V.bl (decide (3 = i))] ++ [V.bl (decide (4 = i)), V.bl (decide (5 = i)), V.bl (decide (6 = i)), V.bl (decide (7 = i))])) p2 = some (.lst ([V.bl (decide (0 = i)), V.bl (decide (1 = i)), V.bl (decide (2 = i)), V.bl (decide (3 = i))] ++ [V.bl (decide (4 = i)), V.bl (decide (5 = i)), V.bl (decide (6 = i)), V.bl (decide (7 = i))])) := upd_same
    generalize upd B2 p2 (.lst ([V.bl (decide (0 = i)), V.bl (decide (1 = i)), V.bl (decide (2 = i)), V.bl (decide (3 = i))] ++ [V.bl (decide (4 = i)), V.bl (decide (5 = i)), V.bl (decide (6 = i)), V.bl (decide (7 = i))])) = J2 at f2 s2
    clear fb fq sb
    refine ⟨_, rfl, ?_⟩
    refine ⟨_, rfl, a, _, d, _, _, fl, _, _, _, rfl, s2 _ _ ea, s2 _ _ ed, O.T, KK.sp, KK.tk, (fun _ r => r), kit_own KK hi (j := 8) (c' := ("BadOperation", ["op"], false)) rfl, ?_⟩
    refine ⟨_, rfl, a, _, d, _, _, fl, _, _, _, rfl, s2 _ _ ea, s2 _ _ ed, O.T, KK.sp, KK.tk, (fun _ r => r), kit_own KK hi (j := 9) (c' := ("BadCall", ["argument"], false)) rfl, ?_⟩
    refine ⟨_, rfl, a, _, d, _, _, fl, _, _, _, rfl, s2 _ _ ea, s2 _ _ ed, O.T, KK.sp, KK.tk, (fun _ r => r), kit_own KK hi (j := 10) (c' := ("BadVisit", ["visit"], false)) rfl, ?_⟩
    refine ⟨Nat.le_of_ble_eq_true rfl, fun q3 nq3 => ?_⟩
    have fb := sameP (o := .lst [V.bl (decide (8 = i)), V.bl (decide (9 = i)), V.bl (decide (10 = i))]) nq3 _ _ f2
    have sb := s2.trans (sameP (o := .lst [V.bl (decide (8 = i)), V.bl (decide (9 = i)), V.bl (decide (10 = i))]) nq3)
    have fq : upd J2 q3 (.lst [V.bl (decide (8 = i)), V.bl (decide (9 = i)), V.bl (decide (10 = i))]) q3 = some (.lst [V.bl (decide (8 = i)), V.bl (decide (9 = i)), V.bl (decide (10 = i))]) := upd_same
    generalize upd J2 q3 (.lst [V.bl (decide (8 = i)), V.bl (decide (9 = i)), V.bl (decide (10 = i))]) = B3 at fb fq sb
    refine ⟨_, _, _, _, rfl, rfl, fb, fq, Nat.le_of_ble_eq_true rfl, fun p3 np3 => ?_⟩
    have s3 := sb.trans (sameP (o := .lst ([V.bl (decide (0 = i)), V.bl (decide (1 = i)), V.bl (decide (2 = i)), V.bl (decide (3 = i))] ++ [V.bl (decide (4 = i)), V.bl (decide (5 = i)), V.bl (decide (6 = i)), V.bl (decide (7 = i))] ++ [V.bl (decide (8 = i)), V.bl (decide (9 = i)), V.bl (decide (10 = i))])) np3)
    have f3 : upd B3 p3 (.lst ([V.bl (decide (0 = i)), V.bl (decide (1 = i)), V.bl (decide (2 = i)), V.bl (decide (3 = i))] ++ [V.bl (decide (4 = i)), V.bl (decide (5 = i)), V.bl (decide (6 = i)), V.bl (decide (7 = i))] ++ [V.bl (decide (8 = i)), V.bl (decide (9 = i)), V.bl (decide (10 = i))])) p3 = some (.lst ([V.bl (decide (0 = i)), V.bl (decide (1 = i)), V.bl (decide (2 = i)), V.bl (decide (3 = i))] ++ [V.bl (decide (4 = i)), V.bl (decide (5 = i)), V.bl (decide (6 = i)), V.bl (decide (7 = i))] ++ [V.bl (decide (8 = i)), V.bl (decide (9 = i)), V.bl (decide (10 = i))])) := upd_same
    generalize upd B3 p3 (.lst ([V.bl (decide (0 = i)), V.bl (decide (1 = i)), V.bl (decide (2 = i)), V.bl (decide (3 = i))] ++ [V.bl (decide (4 = i)), V.bl (decide (5 = i)), V.bl (decide (6 = i)), V.bl (decide (7 = i))] ++ [V.bl (decide (8 = i)), V.bl (decide (9 = i)), V.bl (decide (10 = i))])) = J3 at f3 s3
    clear fb fq sb
    refine ⟨_, rfl, ?_⟩
    refine ⟨_, rfl, a, _, d, _, _, fl, _, _, _, rfl, s3 _ _ ea, s3 _ _ ed, O.T, KK.sp, KK.tk, (fun _ r => r), kit_own KK hi (j := 11) (c' := ("BadLine", ["line"], false)) rfl, ?_⟩
    refine ⟨_, rfl, a, _, d, _, _, fl, _, _, _, rfl, s3 _ _ ea, s3 _ _ ed, O.T, KK.sp, KK.tk, (fun _ r => r), kit_own KK hi (j := 12) (c' := ("BadStep", ["index"], false)) rfl, ?_⟩
    refine ⟨_, rfl, a, _, d, _, _, fl, _, _, _, rfl, s3 _ _ ea, s3 _ _ ed, O.T, KK.sp, KK.tk, (fun _ r => r), kit_own KK hi (j := 13) (c' := ("BadText", ["index"], false)) rfl, ?_⟩
    refine ⟨_, rfl, a, _, d, _, _, fl, _, _, _, rfl, s3 _ _ ea, s3 _ _ ed, O.T, KK.sp, KK.tk, (fun _ r => r), kit_own KK hi (j := 14) (c' := ("BadWorld", ["world"], false)) rfl, ?_⟩
    refine ⟨Nat.le_of_ble_eq_true rfl, fun q4 nq4 => ?_⟩
    have fb := sameP (o := .lst [V.bl (decide (11 = i)), V.bl (decide (12 = i)), V.bl (decide (13 = i)), V.bl (decide (14 = i))]) nq4 _ _ f3
    have sb := s3.trans (sameP (o := .lst [V.bl (decide (11 = i)), V.bl (decide (12 = i)), V.bl (decide (13 = i)), V.bl (decide (14 = i))]) nq4)
    have fq : upd J3 q4 (.lst [V.bl (decide (11 = i)), V.bl (decide (12 = i)), V.bl (decide (13 = i)), V.bl (decide (14 = i))]) q4 = some (.lst [V.bl (decide (11 = i)), V.bl (decide (12 = i)), V.bl (decide (13 = i)), V.bl (decide (14 = i))]) := upd_same
    generalize upd J3 q4 (.lst [V.bl (decide (11 = i)), V.bl (decide (12 = i)), V.bl (decide (13 = i)), V.bl (decide (14 = i))]) = B4 at fb fq sb
    refine ⟨_, _, _, _, rfl, rfl, fb, fq, Nat.le_of_ble_eq_true rfl, fun p4 np4 => ?_⟩
    have s4 := sb.trans (sameP (o := .lst ([V.bl (decide (0 = i)), V.bl (decide (1 = i)), V.bl (decide (2 = i)), V.bl (decide (3 = i))] ++ [V.bl (decide (4 = i)), V.bl (decide (5 = i)), V.bl (decide (6 = i)), V.bl (decide (7 = i))] ++ [V.bl (decide (8 = i)), V.bl (decide (9 = i)), V.bl (decide (10 = i))] ++ [V.bl (decide (11 = i)), V.bl (decide (12 = i)), V.bl (decide (13 = i)), V.bl (decide (14 = i))])) np4)
    have f4 : upd B4 p4 (.lst ([V.bl (decide (0 = i)), V.bl (decide (1 = i)), V.bl (decide (2 = i)), V.bl (decide (3 = i))] ++ [V.bl (decide (4 = i)), V.bl (decide (5 = i)), V.bl (decide (6 = i)), V.bl (decide (7 = i))] ++ [V.bl (decide (8 = i)), V.bl (decide (9 = i)), V.bl (decide (10 = i))] ++ [V.bl (decide (11 = i)), V.bl (decide (12 = i)), V.bl (decide (13 = i)), V.bl (decide (14 = i))])) p4 = some (.lst ([V.bl (decide (0 = i)), V.bl (decide (1 = i)), V.bl (decide (2 = i)), V.bl (decide (3 = i))] ++ [V.bl (decide (4 = i)), V.bl (decide (5 = i)), V.bl (decide (6 = i)), V.bl (decide (7 = i))] ++ [V.bl (decide (8 = i)), V.bl (decide (9 = i)), V.bl (decide (10 = i))] ++ [V.bl (decide (11 = i)), V.bl (decide (12 = i)), V.bl (decide (13 = i)), V.bl (decide (14 = i))])) := upd_same
    generalize upd B4 p4 (.lst ([V.bl (decide (0 = i)), V.bl (decide (1 = i)), V.bl (decide (2 = i)), V.bl (decide (3 = i))] ++ [V.bl (decide (4 = i)), V.bl (decide (5 = i)), V.bl (decide (6 = i)), V.bl (decide (7 = i))] ++ [V.bl (decide (8 = i)), V.bl (decide (9 = i)), V.bl (decide (10 = i))] ++ [V.bl (decide (11 = i)), V.bl (decide (12 = i)), V.bl (decide (13 = i)), V.bl (decide (14 = i))])) = J4 at f4 s4
    clear fb fq sb
    refine ⟨_, rfl, ?_⟩
    refine ⟨_, rfl, a, _, d, _, _, fl, _, _, _, rfl, s4 _ _ ea, s4 _ _ ed, O.T, KK.sp, KK.tk, (fun _ r => r), kit_own KK hi (j := 15) (c' := ("BadNumber", ["name"], false)) rfl, ?_⟩
    refine ⟨_, rfl, a, _, d, _, _, fl, _, _, _, rfl, s4 _ _ ea, s4 _ _ ed, O.T, KK.sp, KK.tk, (fun _ r => r), kit_own KK hi (j := 16) (c' := ("BadSpot", ["spot"], false)) rfl, ?_⟩
    refine ⟨_, rfl, a, _, d, _, _, fl, _, _, _, rfl, s4 _ _ ea, s4 _ _ ed, O.T, KK.sp, KK.tk, (fun _ r => r), kit_own KK hi (j := 17) (c' := ("BadBound", ["index"], false)) rfl, ?_⟩
    refine ⟨Nat.le_of_ble_eq_true rfl, fun q5 nq5 => ?_⟩
    have fb := sameP (o := .lst [V.bl (decide (15 = i)), V.bl (decide (16 = i)), V.bl (decide (17 = i))]) nq5 _ _ f4
    have sb := s4.trans (sameP (o := .lst [V.bl (decide (15 = i)), V.bl (decide (16 = i)), V.bl (decide (17 = i))]) nq5)
    have fq : upd J4 q5 (.lst [V.bl (decide (15 = i)), V.bl (decide (16 = i)), V.bl (decide (17 = i))]) q5 = some (.lst [V.bl (decide (15 = i)), V.bl (decide (16 = i)), V.bl (decide (17 = i))]) := upd_same
    generalize upd J4 q5 (.lst [V.bl (decide (15 = i)), V.bl (decide (16 = i)), V.bl (decide (17 = i))]) = B5 at fb fq sb
    refine ⟨_, _, _, _, rfl, rfl, fb, fq, Nat.le_of_ble_eq_true rfl, fun p5 np5 => ?_⟩
    have s5 := sb.trans (sameP (o := .lst ([V.bl (decide (0 = i)), V.bl (decide (1 = i)), V.bl (decide (2 = i)), V.bl (decide (3 = i))] ++ [V.bl (decide (4 = i)), V.bl (decide (5 = i)), V.bl (decide (6 = i)), V.bl (decide (7 = i))] ++ [V.bl (decide (8 = i)), V.bl (decide (9 = i)), V.bl (decide (10 = i))] ++ [V.bl (decide (11 = i)), V.bl (decide (12 = i)), V.bl (decide (13 = i)), V.bl (decide (14 = i))] ++ [V.bl (decide (15 = i)), V.bl (decide (16 = i)), V.bl (decide (17 = i))])) np5)
    have f5 : upd B5 p5 (.lst ([V.bl (decide (0 = i)), V.bl (decide (1 = i)), V.bl (decide (2 = i)), V.bl (decide (3 = i))] ++ [V.bl (decide (4 = i)), V.bl (decide (5 = i)), V.bl (decide (6 = i)), V.bl (decide (7 = i))] ++ [V.bl (decide (8 = i)), V.bl (decide (9 = i)), V.bl (decide (10 = i))] ++ [V.bl (decide (11 = i)), V.bl (decide (12 = i)), V.bl (decide (13 = i)), V.bl (decide (14 = i))] ++ [V.bl (decide (15 = i)), V.bl (decide (16 = i)), V.bl (decide (17 = i))])) p5 = some (.lst ([V.bl (decide (0 = i)), V.bl (decide (1 = i)), V.bl (decide (2 = i)), V.bl (decide (3 = i))] ++ [V.bl (decide (4 = i)), V.bl (decide (5 = i)), V.bl (decide (6 = i)), V.bl (decide (7 = i))] ++ [V.bl (decide (8 = i)), V.bl (decide (9 = i)), V.bl (decide (10 = i))] ++ [V.bl (decide (11 = i)), V.bl (decide (12 = i)), V.bl (decide (13 = i)), V.bl (decide (14 = i))] ++ [V.bl (decide (15 = i)), V.bl (decide (16 = i)), V.bl (decide (17 = i))])) := upd_same
    generalize upd B5 p5 (.lst ([V.bl (decide (0 = i)), V.bl (decide (1 = i)), V.bl (decide (2 = i)), V.bl (decide (3 = i))] ++ [V.bl (decide (4 = i)), V.bl (decide (5 = i)), V.bl (decide (6 = i)), V.bl (decide (7 = i))] ++ [V.bl (decide (8 = i)), V.bl (decide (9 = i)), V.bl (decide (10 = i))] ++ [V.bl (decide (11 = i)), V.bl (decide (12 = i)), V.bl (decide (13 = i)), V.bl (decide (14 = i))] ++ [V.bl (decide (15 = i)), V.bl (decide (16 = i)), V.bl (decide (17 = i))])) = J5 at f5 s5
    clear fb fq sb
    refine ⟨_, rfl, ?_⟩
    refine ⟨_, rfl, a, _, d, _, _, fl, _, _, _, rfl, s5 _ _ ea, s5 _ _ ed, O.T, KK.sp, KK.tk, (fun _ r => r), kit_own KK hi (j := 18) (c' := ("BadKind", ["kind"], false)) rfl, ?_⟩
    refine ⟨_, rfl, a, _, d, _, _, fl, _, _, _, rfl, s5 _ _ ea, s5 _ _ ed, O.T, KK.sp, KK.tk, (fun _ r => r), kit_own KK hi (j := 19) (c' := ("OtherOperation", ["op"], false)) rfl, ?_⟩
    refine ⟨_, rfl, a, _, d, _, _, fl, _, _, _, rfl, s5 _ _ ea, s5 _ _ ed, O.T, KK.sp, KK.tk, (fun _ r => r), kit_own KK hi (j := 20) (c' := ("BadOrder", ["order"], false)) rfl, ?_⟩
    refine ⟨Nat.le_of_ble_eq_true rfl, fun q6 nq6 => ?_⟩
    have fb := sameP (o := .lst [V.bl (decide (18 = i)), V.bl (decide (19 = i)), V.bl (decide (20 = i))]) nq6 _ _ f5
    have sb := s5.trans (sameP (o := .lst [V.bl (decide (18 = i)), V.bl (decide (19 = i)), V.bl (decide (20 = i))]) nq6)
    have fq : upd J5 q6 (.lst [V.bl (decide (18 = i)), V.bl (decide (19 = i)), V.bl (decide (20 = i))]) q6 = some (.lst [V.bl (decide (18 = i)), V.bl (decide (19 = i)), V.bl (decide (20 = i))]) := upd_same
    generalize upd J5 q6 (.lst [V.bl (decide (18 = i)), V.bl (decide (19 = i)), V.bl (decide (20 = i))]) = B6 at fb fq sb
    refine ⟨_, _, _, _, rfl, rfl, fb, fq, Nat.le_of_ble_eq_true rfl, fun p6 np6 => ?_⟩
    have s6 := sb.trans (sameP (o := .lst ([V.bl (decide (0 = i)), V.bl (decide (1 = i)), V.bl (decide (2 = i)), V.bl (decide (3 = i))] ++ [V.bl (decide (4 = i)), V.bl (decide (5 = i)), V.bl (decide (6 = i)), V.bl (decide (7 = i))] ++ [V.bl (decide (8 = i)), V.bl (decide (9 = i)), V.bl (decide (10 = i))] ++ [V.bl (decide (11 = i)), V.bl (decide (12 = i)), V.bl (decide (13 = i)), V.bl (decide (14 = i))] ++ [V.bl (decide (15 = i)), V.bl (decide (16 = i)), V.bl (decide (17 = i))] ++ [V.bl (decide (18 = i)), V.bl (decide (19 = i)), V.bl (decide (20 = i))])) np6)
    have f6 : upd B6 p6 (.lst ([V.bl (decide (0 = i)), V.bl (decide (1 = i)), V.bl (decide (2 = i)), V.bl (decide (3 = i))] ++ [V.bl (decide (4 = i)), V.bl (decide (5 = i)), V.bl (decide (6 = i)), V.bl (decide (7 = i))] ++ [V.bl (decide (8 = i)), V.bl (decide (9 = i)), V.bl (decide (10 = i))] ++ [V.bl (decide (11 = i)), V.bl (decide (12 = i)), V.bl (decide (13 = i)), V.bl (decide (14 = i))] ++ [V.bl (decide (15 = i)), V.bl (decide (16 = i)), V.bl (decide (17 = i))] ++ [V.bl (decide (18 = i)), V.bl (decide (19 = i)), V.bl (decide (20 = i))])) p6 = some (.lst ([V.bl (decide (0 = i)), V.bl (decide (1 = i)), V.bl (decide (2 = i)), V.bl (decide (3 = i))] ++ [V.bl (decide (4 = i)), V.bl (decide (5 = i)), V.bl (decide (6 = i)), V.bl (decide (7 = i))] ++ [V.bl (decide (8 = i)), V.bl (decide (9 = i)), V.bl (decide (10 = i))] ++ [V.bl (decide (11 = i)), V.bl (decide (12 = i)), V.bl (decide (13 = i)), V.bl (decide (14 = i))] ++ [V.bl (decide (15 = i)), V.bl (decide (16 = i)), V.bl (decide (17 = i))] ++ [V.bl (decide (18 = i)), V.bl (decide (19 = i)), V.bl (decide (20 = i))])) := upd_same
    generalize upd B6 p6 (.lst ([V.bl (decide (0 = i)), V.bl (decide (1 = i)), V.bl (decide (2 = i)), V.bl (decide (3 = i))] ++ [V.bl (decide (4 = i)), V.bl (decide (5 = i)), V.bl (decide (6 = i)), V.bl (decide (7 = i))] ++ [V.bl (decide (8 = i)), V.bl (decide (9 = i)), V.bl (decide (10 = i))] ++ [V.bl (decide (11 = i)), V.bl (decide (12 = i)), V.bl (decide (13 = i)), V.bl (decide (14 = i))] ++ [V.bl (decide (15 = i)), V.bl (decide (16 = i)), V.bl (decide (17 = i))] ++ [V.bl (decide (18 = i)), V.bl (decide (19 = i)), V.bl (decide (20 = i))])) = J6 at f6 s6
    clear fb fq sb
    refine ⟨_, rfl, ?_⟩
    refine ⟨_, rfl, a, _, d, _, _, fl, _, _, _, rfl, s6 _ _ ea, s6 _ _ ed, O.T, KK.sp, KK.tk, (fun _ r => r), kit_own KK hi (j := 21) (c' := ("BadPair", ["first", "second"], false)) rfl, ?_⟩
    refine ⟨_, rfl, a, _, d, _, _, fl, _, _, _, rfl, s6 _ _ ea, s6 _ _ ed, O.T, KK.sp, KK.tk, (fun _ r => r), kit_own KK hi (j := 22) (c' := ("BadRule", ["rule"], false)) rfl, ?_⟩
    refine ⟨_, rfl, a, _, d, _, _, fl, _, _, _, rfl, s6 _ _ ea, s6 _ _ ed, O.T, KK.sp, KK.tk, (fun _ r => r), kit_own KK hi (j := 23) (c' := ("BadMend", ["mend"], false)) rfl, ?_⟩
    refine ⟨_, rfl, a, _, d, _, _, fl, _, _, _, rfl, s6 _ _ ea, s6 _ _ ed, O.T, KK.sp, KK.tk, (fun _ r => r), kit_own KK hi (j := 24) (c' := ("TooMany", ["limit"], false)) rfl, ?_⟩
    refine ⟨Nat.le_of_ble_eq_true rfl, fun q7 nq7 => ?_⟩
    have fb := sameP (o := .lst [V.bl (decide (21 = i)), V.bl (decide (22 = i)), V.bl (decide (23 = i)), V.bl (decide (24 = i))]) nq7 _ _ f6
    have sb := s6.trans (sameP (o := .lst [V.bl (decide (21 = i)), V.bl (decide (22 = i)), V.bl (decide (23 = i)), V.bl (decide (24 = i))]) nq7)
    have fq : upd J6 q7 (.lst [V.bl (decide (21 = i)), V.bl (decide (22 = i)), V.bl (decide (23 = i)), V.bl (decide (24 = i))]) q7 = some (.lst [V.bl (decide (21 = i)), V.bl (decide (22 = i)), V.bl (decide (23 = i)), V.bl (decide (24 = i))]) := upd_same
    generalize upd J6 q7 (.lst [V.bl (decide (21 = i)), V.bl (decide (22 = i)), V.bl (decide (23 = i)), V.bl (decide (24 = i))]) = B7 at fb fq sb
    refine ⟨_, _, _, _, rfl, rfl, fb, fq, Nat.le_of_ble_eq_true rfl, fun p7 np7 => ?_⟩
    have s7 := sb.trans (sameP (o := .lst ([V.bl (decide (0 = i)), V.bl (decide (1 = i)), V.bl (decide (2 = i)), V.bl (decide (3 = i))] ++ [V.bl (decide (4 = i)), V.bl (decide (5 = i)), V.bl (decide (6 = i)), V.bl (decide (7 = i))] ++ [V.bl (decide (8 = i)), V.bl (decide (9 = i)), V.bl (decide (10 = i))] ++ [V.bl (decide (11 = i)), V.bl (decide (12 = i)), V.bl (decide (13 = i)), V.bl (decide (14 = i))] ++ [V.bl (decide (15 = i)), V.bl (decide (16 = i)), V.bl (decide (17 = i))] ++ [V.bl (decide (18 = i)), V.bl (decide (19 = i)), V.bl (decide (20 = i))] ++ [V.bl (decide (21 = i)), V.bl (decide (22 = i)), V.bl (decide (23 = i)), V.bl (decide (24 = i))])) np7)
    have f7 : upd B7 p7 (.lst ([V.bl (decide (0 = i)), V.bl (decide (1 = i)), V.bl (decide (2 = i)), V.bl (decide (3 = i))] ++ [V.bl (decide (4 = i)), V.bl (decide (5 = i)), V.bl (decide (6 = i)), V.bl (decide (7 = i))] ++ [V.bl (decide (8 = i)), V.bl (decide (9 = i)), V.bl (decide (10 = i))] ++ [V.bl (decide (11 = i)), V.bl (decide (12 = i)), V.bl (decide (13 = i)), V.bl (decide (14 = i))] ++ [V.bl (decide (15 = i)), V.bl (decide (16 = i)), V.bl (decide (17 = i))] ++ [V.bl (decide (18 = i)), V.bl (decide (19 = i)), V.bl (decide (20 = i))] ++ [V.bl (decide (21 = i)), V.bl (decide (22 = i)), V.bl (decide (23 = i)), V.bl (decide (24 = i))])) p7 = some (.lst ([V.bl (decide (0 = i)), V.bl (decide (1 = i)), V.bl (decide (2 = i)), V.bl (decide (3 = i))] ++ [V.bl (decide (4 = i)), V.bl (decide (5 = i)), V.bl (decide (6 = i)), V.bl (decide (7 = i))] ++ [V.bl (decide (8 = i)), V.bl (decide (9 = i)), V.bl (decide (10 = i))] ++ [V.bl (decide (11 = i)), V.bl (decide (12 = i)), V.bl (decide (13 = i)), V.bl (decide (14 = i))] ++ [V.bl (decide (15 = i)), V.bl (decide (16 = i)), V.bl (decide (17 = i))] ++ [V.bl (decide (18 = i)), V.bl (decide (19 = i)), V.bl (decide (20 = i))] ++ [V.bl (decide (21 = i)), V.bl (decide (22 = i)), V.bl (decide (23 = i)), V.bl (decide (24 = i))])) := upd_same
    generalize upd B7 p7 (.lst ([V.bl (decide (0 = i)), V.bl (decide (1 = i)), V.bl (decide (2 = i)), V.bl (decide (3 = i))] ++ [V.bl (decide (4 = i)), V.bl (decide (5 = i)), V.bl (decide (6 = i)), V.bl (decide (7 = i))] ++ [V.bl (decide (8 = i)), V.bl (decide (9 = i)), V.bl (decide (10 = i))] ++ [V.bl (decide (11 = i)), V.bl (decide (12 = i)), V.bl (decide (13 = i)), V.bl (decide (14 = i))] ++ [V.bl (decide (15 = i)), V.bl (decide (16 = i)), V.bl (decide (17 = i))] ++ [V.bl (decide (18 = i)), V.bl (decide (19 = i)), V.bl (decide (20 = i))] ++ [V.bl (decide (21 = i)), V.bl (decide (22 = i)), V.bl (decide (23 = i)), V.bl (decide (24 = i))])) = J7 at f7 s7
    clear fb fq sb
    refine ⟨_, rfl, ?_⟩
    refine ⟨_, rfl, a, _, d, _, _, fl, _, _, _, rfl, s7 _ _ ea, s7 _ _ ed, O.T, KK.sp, KK.tk, (fun _ r => r), kit_own KK hi (j := 25) (c' := ("Clash", ["step", "row", "other"], false)) rfl, ?_⟩
    refine ⟨_, rfl, a, _, d, _, _, fl, _, _, _, rfl, s7 _ _ ea, s7 _ _ ed, O.T, KK.sp, KK.tk, (fun _ r => r), kit_own KK hi (j := 26) (c' := ("CallFailed", ["index", "reason"], false)) rfl, ?_⟩
    refine ⟨Nat.le_of_ble_eq_true rfl, fun q8 nq8 => ?_⟩
    have fb := sameP (o := .lst [V.bl (decide (25 = i)), V.bl (decide (26 = i))]) nq8 _ _ f7
    have sb := s7.trans (sameP (o := .lst [V.bl (decide (25 = i)), V.bl (decide (26 = i))]) nq8)
    have fq : upd J7 q8 (.lst [V.bl (decide (25 = i)), V.bl (decide (26 = i))]) q8 = some (.lst [V.bl (decide (25 = i)), V.bl (decide (26 = i))]) := upd_same
    generalize upd J7 q8 (.lst [V.bl (decide (25 = i)), V.bl (decide (26 = i))]) = B8 at fb fq sb
    refine ⟨_, _, _, _, rfl, rfl, fb, fq, Nat.le_of_ble_eq_true rfl, fun p8 np8 => ?_⟩
    exact k p8 _ (sb.free np8) (sb.trans (sameP np8)) upd_same
end
end K90

set_option Elab.async false
set_option linter.all false
set_option maxRecDepth 100000
set_option maxHeartbeats 2000000
namespace K90
open PySem PySem.Spec PyProof.Rows L2 He KX
/-- the heap with the list that is being made left out -/
def hide (D : Addr) (H : Hp) : Hp := fun x => if x = D then none else H x
theorem hide_same {D : Addr} {H : Hp} : Same (hide D H) H := fun x o e => by
  unfold hide at e
  by_cases h : x = D
  · rw [if_pos h] at e
    cases e
  · rw [if_neg h] at e
    exact e
theorem hide_put {D p : Addr} {H : Hp} {o o' : HO} (hp : H p = none) : Same (hide D H) (hide D (upd (upd H p o) D o')) := fun x u e => by
  have h := hide_same x u e
  unfold hide at e ⊢
  by_cases hx : x = D
  · rw [if_pos hx] at e
    cases e
  · rw [if_neg hx, upd_ne hx, upd_ne (ne_of_none h hp)]
    exact h
theorem hide_new {D p : Addr} {H : Hp} {o o' : HO} (hp : p ≠ D) : hide D (upd (upd H p o) D o') p = some o := by
  unfold hide
  rw [if_neg hp, upd_ne hp, upd_same]
theorem dps_append {K : PySem.W.Frag} {H : Hp} : ∀ {vs ws : List V} {ds es : List PyData}, DpAll K H vs ds → DpAll K H ws es → DpAll K H (vs ++ ws) (ds ++ es)
  | _, _, _, _, .nil, k => k
  | _, _, _, _, .cons h hs, k => .cons h (dps_append hs k)
theorem dps_take {K : PySem.W.Frag} {H : Hp} : ∀ {vs : List V} {ds : List PyData} (n : Nat), DpAll K H vs ds → DpAll K H (vs.take n) (ds.take n)
  | _, _, 0, _ => .nil
  | _, _, _ + 1, .nil => .nil
  | _, _, n + 1, .cons h hs => .cons h (dps_take n hs)
theorem lsts_dp {K : PySem.W.Frag} {H : Hp} {vals : List V} {ds : List PyData} (hd : DpAll K H vals ds) {xs : List V} {ls : List (List V)} (h : Lsts H xs ls) :
    ∀ ns : List Nat, ls = ns.map (fun n => vals.take n) → DpAll K H xs (ns.map fun n => PyData.list (ds.take n)) := by
  induction h with
  | nil =>
    intro ns e
    cases ns with
    | nil => exact .nil
    | cons n r => cases e
  | @snoc xs ls a l h0 ha ih =>
    intro ns e
    obtain ⟨n1, n2, rfl, e1, e2⟩ := List.map_eq_append_iff.mp e.symm
    cases n2 with
    | nil => cases e2
    | cons n r =>
      cases r with
      | nil =>
        obtain rfl := (List.cons.inj e2).1
        rw [List.map_append]
        exact dps_append (ih n1 e1.symm) (.cons (.lst (SqL.of ha) (dps_take n hd)) .nil)
      | cons _ _ =>
        have z := congrArg List.length e2
        simp at z
/-- the data of what is told -/
def dOf (ns : List Nat) (d0 d1 d2 : PyData) : PyData := .list (ns.map fun n => PyData.list ([d0, d1, d2].take n))
theorem small_dOf {ns : List Nat} {d0 d1 d2 : PyData} (hn : ns.length ≤ 27) (h0 : Small d0 2 100) (h1 : Small d1 2 100) (h2 : Small d2 2 100) : Small (dOf ns d0 d1 d2) 4 10000 := by
  refine small_list (k := 3) (n := 308) (fun d hd => ?_) (by rw [List.length_map]; omega)
  obtain ⟨n, _, rfl⟩ := List.mem_map.mp hd
  refine small_list (k := 2) (n := 100) (fun e he => ?_) ?_
  · have q := List.mem_of_mem_take he
    simp only [List.mem_cons, List.not_mem_nil, or_false] at q
    rcases q with rfl | rfl | rfl
    · exact h0
    · exact h1
    · exact h2
  · have q : ([d0, d1, d2].take n).length ≤ 3 := by rw [List.length_take]; exact Nat.min_le_right _ _
    omega
end K90
namespace K90
open PySem PySem.Spec PyProof.Rows L2 He KX
theorem dps_bools {K : PySem.W.Frag} {H : Hp} : ∀ bs : List Bool, DpAll K H (bs.map V.bl) (bs.map PyData.bool)
  | [] => .nil
  | b :: r => .cons (.bl b) (dps_bools r)
theorem bools_lay : ∀ bs : List Bool, PyData.canLayAll0 (bs.map PyData.bool) = true ∧ PyData.depthAll (bs.map PyData.bool) = 0
  | [] => ⟨rfl, rfl⟩
  | b :: r => by
    obtain ⟨h1, h2⟩ := bools_lay r
    refine ⟨?_, ?_⟩
    · show (true && PyData.canLayAll0 (r.map PyData.bool)) = true
      rw [h1]
      rfl
    · show max 0 (PyData.depthAll (r.map PyData.bool)) = 0
      rw [h2]
      rfl
theorem bools_shaped (bs : List Bool) : SeqAt.shaped (.list (bs.map PyData.bool)) = true := by
  obtain ⟨h1, h2⟩ := bools_lay bs
  unfold SeqAt.shaped
  refine Bool.and_eq_true_iff.mpr ⟨h1, decide_eq_true ?_⟩
  show PyData.depthAll (bs.map PyData.bool) + 1 ≤ 64
  rw [h2]
  decide
theorem bools_eqv (bs : List Bool) : PyData.eqv (.list (bs.map PyData.bool)) (.list (bs.map PyData.bool)) = true := SeqAt.eqv_refl _ (bools_lay bs).1
theorem want_cx (x y z : V) : (want x y z).map (·.1) = cx := rfl
theorem want_at {x y z : V} {i : Nat} (h : i < 27) : ∃ c fl, (want x y z)[i]? = some (c, fl) ∧ cx[i]? = some c := by
  have hl : (want x y z).length = 27 := rfl
  obtain ⟨p, hp⟩ : ∃ p, (want x y z)[i]? = some p := ⟨_, List.getElem?_eq_getElem (by omega)⟩
  refine ⟨p.1, p.2, hp, ?_⟩
  rw [← want_cx x y z, List.getElem?_map, hp]
  rfl
end K90

set_option Elab.async false
set_option linter.all false
set_option maxRecDepth 100000
set_option maxHeartbeats 8000000
namespace K90
open PySem PySem.Spec PyProof.Rows L2 He KX
abbrev NL : List Str := ["script", "odd", "at", "bag", "some", "made", "others", "many", "side", "errors", "wanted", "k", "e", "bases", "turn", "count", "j"]
theorem scLaw : FnScope NL ["script"] (defScope sLaw) := ⟨rfl, rfl, rfl, by decide +kernel, rfl, by decide +kernel, by decide +kernel⟩
def spLaw (K : PySem.W.Frag) : Sp := fun vs H Q _ => ∃ (a : Addr) (ns : List Int), vs = [.ref a] ∧ SqL K H a (ns.map V.int) ∧ ns.length ≤ 63 ∧ ∀ H', Q (.bl true) H'
section
variable {P : Program} {w : World} {K : PySem.W.Frag} {mg : Str → Option Value} {base : Heap}
def cnts : List Nat := [1, 2, 1, 1, 1, 1, 1, 1, 1, 1, 1, 1, 1, 1, 1, 1, 1, 1, 1, 1, 1, 2, 1, 1, 1, 3, 2]
theorem told_cnts (x y z : V) : toldOf x y z = cnts.map fun n => [x, y, z].take n := rfl
/-- the module's names as the law meets them -/
structure Nm (mg : Str → Option Value) : Prop where
  len : mg "len" = none
  range : mg "range" = none
  isi : mg "isinstance" = none
  enum : mg "enumerate" = none
  repr : mg "repr" = none
  max : mg "max" = none
  min : mg "min" = none
  abs : mg "abs" = none
  int : mg "int" = none
  lk : mg "LookupError" = none
  ve : mg "ValueError" = none
theorem ok_law {f fB fD fO fM fT fC : Addr} {fd fdB fdD fdO fdM fdT fdC : FuncData} (F : FnP K "law" sLaw f fd) (n : Nm mg) (KK : KF K) (GM : ∀ c ∈ cx, mg c.1 = some (.ref (ga K c.1))) (gP : mg "PlaceError" = some (.ref (ga K "PlaceError"))) (gMi : mg "MissingError" = some (.ref (ga K "MissingError")))
    (MM : ∀ c ∈ cx, MkC P w K mg base c) (FB : FnP K "_law_bag" sBag fB fdB) (FD : FnP K "_law_draw" sDraw fD fdD) (FO : FnP K "_law_of" sOf fO fdO) (FM : FnP K "_law_made" sMade fM fdM) (FT : FnP K "_law_told" sTold fT fdT) (FC : FnP K "_law_classes" sClasses fC fdC)
    (gB : mg "_law_bag" = some (.ref fB)) (gD : mg "_law_draw" = some (.ref fD)) (gO : mg "_law_of" = some (.ref fO)) (gM : mg "_law_made" = some (.ref fM)) (gT : mg "_law_told" = some (.ref fT)) (gC : mg "_law_classes" = some (.ref fC)) :
    FnG P w K mg base CX0 4 f fd ["script"] (spLaw K) := by
  have GB : FnOk P w K mg base CX0 1 fB fdB ["script", "at"] (spBag K) := ok_bag FB n.len n.abs n.int
  have GD : FnOk P w K mg base CX0 1 fD fdD ["bag", "many"] spDraw := ok_draw FD n.int
  have GO : FnOk P w K mg base CX0 2 fO fdO ["bag", "some"] (spOf K) := ok_of FO FD gD n.len n.int
  have GMa : FnOk P w K mg base CX0 3 fM fdM ["a", "b", "c"] (spMade K) := ok_made FM MM
  have GTo : FnOk P w K mg base CX0 1 fT fdT ["made"] (spTold K) := ok_told FT KK.one
  have GCl : FnOk P w K mg base CX0 1 fC fdC ["e"] (spClasses K) := ok_classes FC KK GM n.isi
  have bB : Binds K fdB ["script", "at"] [] := FB.bindsN fun _ _ _ _ _ _ us hl => match us, hl with | [_, _], _ => rfl
  have bD : Binds K fdD ["bag", "many"] [] := FD.bindsN fun _ _ _ _ _ _ us hl => match us, hl with | [_, _], _ => rfl
  have bO : Binds K fdO ["bag", "some"] [] := FO.bindsN fun _ _ _ _ _ _ us hl => match us, hl with | [_, _], _ => rfl
  have bM : Binds K fdM ["a", "b", "c"] [] := FM.bindsN fun _ _ _ _ _ _ us hl => match us, hl with | [_, _, _], _ => rfl
  have bT : Binds K fdT ["made"] [] := FT.bindsN fun _ _ _ _ _ _ us hl => match us, hl with | [_], _ => rfl
  have bC : Binds K fdC ["e"] [] := FC.bindsN fun _ _ _ _ _ _ us hl => match us, hl with | [_], _ => rfl
  refine fnG_ok F scLaw (fun vs H Q E h => ?_) (fun cdv A outer s H vs Q E gg hr h => ?_)
  · obtain ⟨a, ns, rfl, _⟩ := h
    rfl
  · obtain ⟨a, ns, rfl, hS, hl, k⟩ := h
    have hr1 := hr.mono (j := 1) (by decide)
    have hr2 := hr.mono (j := 2) (by decide)
    have hu := hr.units
    have nd := scLaw.nd
    refine ⟨_, PSs.nox (pss_cons (ps_set (i := 1) nd rfl (Or.inr rfl) (pe_lst (pa_cons pe_str (pa_cons pe_str (pa_cons pe_str (pa_cons pe_non (pa_cons pe_bl (pa_cons pe_bl (pa_cons pe_int (pa_cons pe_int (pa_cons (pe_un un_neg pe_int)
        (pa_cons (pe_lst (pa_cons pe_str pa_nil)) (pa_cons (pe_tup (pa_cons pe_str (pa_cons pe_int pa_nil))) (pa_cons (pe_tup pa_nil) (pa_cons (pe_lst pa_nil) (pa_cons (pe_lst (pa_cons (pe_lst (pa_cons pe_int pa_nil)) (pa_cons (pe_tup (pa_cons pe_str pa_nil)) pa_nil)))
        (pa_cons (pe_op op_pow pe_int pe_int) pa_nil)))))))))))))))))
      (pss_cons (ps_for PassesOwn.never rfl (pi_range1 (by rfl) n.range (pa_cons (pe_callB (call_max2 rfl) (by rfl) n.max (by decide +kernel) (pa_cons pe_int (pa_cons (pe_callB (call_min2 rfl) (by rfl) n.min (by decide +kernel)
          (pa_cons pe_int (pa_cons (pe_callB call_len_seq (by rfl) n.len PySem.boot_len (pa_cons (pv 0) pa_nil)) pa_nil))) pa_nil))) pa_nil)) (pg_name (i := 2) nd rfl (Or.inl rfl))
        (pss_cons (ps_set (i := 3) nd rfl (Or.inr rfl) (pe_call GB hr1 (by rfl) gB FB.kp bB .nil pass0 (pa_cons (pv 0) (pa_cons (pv 2) pa_nil))))
        (pss_cons (ps_set (i := 4) nd rfl (Or.inr rfl) (pe_lc (own := [("turn", 14)]) (g := gName 14) (tt := tYes) rfl nd (pi_range1 (by rfl) n.range (pa_cons pe_int pa_nil)) (blkOk_by (own := [("turn", 14)]) (N := NL) (sc := defScope sLaw) (by decide +kernel))
          (fun _ _ _ _ _ => pg_name (i := 14) nd rfl (Or.inl rfl)) (fun _ _ _ _ _ => pts_nil)
          (fun _ _ _ _ _ => pe_call GO hr2 (by rfl) gO FO.kp bO .nil pass0 (pa_cons (pv 3) (pa_cons (pe_op op_cat (pv 1) (pe_lst (pa_cons (pe_call GD hr1 (by rfl) gD FD.kp bD .nil pass0 (pa_cons (pv 3) (pa_cons (pe_op op_pow pe_int pe_int) pa_nil))) pa_nil))) pa_nil)))))
        (pss_cons (ps_par (i := 5) (j := 6) (by rfl) nd rfl rfl (by decide) rfl rfl (pa_cons (pe_call GMa hr (by rfl) gM FM.kp bM .nil pass0 (pa_cons (pe_ix ix_list (pv 4) pe_int (fun _ _ => rfl)) (pa_cons (pe_ix ix_list (pv 4) pe_int (fun _ _ => rfl)) (pa_cons (pe_ix ix_list (pv 4) pe_int (fun _ _ => rfl)) pa_nil))))
            (pa_cons (pe_call GMa hr (by rfl) gM FM.kp bM .nil pass0 (pa_cons (pe_ix ix_list (pv 4) pe_int (fun _ _ => rfl)) (pa_cons (pe_ix ix_list (pv 4) pe_int (fun _ _ => rfl)) (pa_cons (pe_ix ix_list (pv 4) pe_int (fun _ _ => rfl)) pa_nil)))) pa_nil)) (by rfl))
        (pss_cons (ps_set (i := 7) nd rfl (Or.inl rfl) (pe_op op_rep (pe_lst (pa_cons pe_int pa_nil)) pe_int))
        (pss_cons (ps_asg (pe_tup (pa_cons pe_int (pa_cons pe_int (pa_cons pe_int (pa_cons pe_int pa_nil))))) (pg_tup (by rfl) (pgs_cons (pg_sub (pv 7) pe_int set_list) (pgs_cons (pg_sub (pv 7) pe_int set_list) (pgs_cons (pg_sub (pv 7) pe_int set_list) (pgs_cons (pg_sub (pv 7) pe_int set_list) pgs_nil))))))
        (pss_cons (ps_for PassesOwn.never rfl (pi_tup (pe_tup (pa_cons (pe_tup (pa_cons pe_int (pa_cons (pv 5) pa_nil))) (pa_cons (pe_tup (pa_cons pe_int (pa_cons (pv 6) pa_nil))) pa_nil)))) (pg_tup (by rfl) (pgs_cons (pg_name (i := 8) nd rfl (Or.inr rfl)) (pgs_cons (pg_name (i := 9) nd rfl (Or.inl rfl)) pgs_nil)))
          (pss_cons (ps_setLc (i := 10) (own := [("count", 15)]) (g := gName 15) (tt := tYes) rfl nd rfl rfl (sw_true rfl rfl rfl (by decide +kernel)) (pi_list (pv 7)) (blkOk_by (own := [("count", 15)]) (N := NL) (sc := defScope sLaw) (by decide +kernel))
            (fun _ _ _ _ _ => pg_name (i := 15) nd rfl (Or.inl rfl)) (fun _ _ _ _ _ => pts_nil) (fun _ _ _ _ _ => pe_slice (show SlR _ (rSlL K) from sl_list) (pv 4) (po_some (pv 8)) (po_some (pe_op op_add (pv 8) (pv 15)))))
          (pss_one (ps_if (pt_cmpR op_ne (pe_callB (call_repr gg (Nat.lt_of_le_of_lt (Nat.add_le_add_left (by decide) _) hu)) (by rfl) n.repr (by decide +kernel) (pa_cons (pe_call GTo hr1 (by rfl) gT FT.kp bT .nil pass0 (pa_cons (pv 9) pa_nil)) pa_nil))
              (pe_callB (call_repr gg (Nat.lt_of_le_of_lt (Nat.add_le_add_left (by decide) _) hu)) (by rfl) n.repr (by decide +kernel) (pa_cons (pv 10) pa_nil)) (nomark _)) (pss_one (ps_ret pe_bl)) pss_nil))))
        (pss_one (ps_for PassesOwn.never rfl (pi_enum (by rfl) n.enum (pa_cons (pv 5) pa_nil)) (pg_tup (by rfl) (pgs_cons (pg_name (i := 11) nd rfl (Or.inr rfl)) (pgs_cons (pg_name (i := 12) nd rfl (Or.inl rfl)) pgs_nil)))
          (pss_cons (ps_if (pt_cmpR (op_neD hu) (pe_call GCl hr1 (by rfl) gC FC.kp bC .nil pass0 (pa_cons (pv 12) pa_nil)) (pe_lc (own := [("j", 16)]) (g := gName 16) (tt := tYes) rfl nd (pi_range1 (by rfl) n.range (pa_cons pe_int pa_nil)) (blkOk_by (own := [("j", 16)]) (N := NL) (sc := defScope sLaw) (by decide +kernel))
              (fun _ _ _ _ _ => pg_name (i := 16) nd rfl (Or.inl rfl)) (fun _ _ _ _ _ => pts_nil) (fun _ _ _ _ _ => pe_cmpR op_eq (pv 16) (pv 11) (nomark _))) (nomark _)) (pss_one (ps_ret pe_bl)) pss_nil)
          (pss_cons (ps_set (i := 13) nd rfl (Or.inl rfl) (pe_lst (pa_cons (pe_callB call_isX (by rfl) n.isi (by decide +kernel) (pa_cons (pv 12) (pa_cons (pe_glob (v := .ref (ga K "MissingError")) rfl gMi rfl) pa_nil)))
            (pa_cons (pe_callB call_isX (by rfl) n.isi (by decide +kernel) (pa_cons (pv 12) (pa_cons (pe_bltn (v := .ty "LookupError") (by rfl) n.lk (by decide +kernel) rfl) pa_nil))) pa_nil))))
          (pss_one (ps_if (PW.pt (pw_or (pt_cmpR (op_neD hu) (pv 13) (pe_lst (pa_cons (pe_cmp (pc_lt (pv 11) pe_int) rfl) (pa_cons (pe_cmp (pc_lt (pv 11) pe_int) rfl) pa_nil))) (nomark _))
              (pw_or (pt_cmpR op_ne (pe_callB call_isX (by rfl) n.isi (by decide +kernel) (pa_cons (pv 12) (pa_cons (pe_glob (v := .ref (ga K "PlaceError")) rfl gP rfl) pa_nil))) (pe_cmp (pc_gt (pv 11) pe_int) rfl) (nomark _))
              (pw_or1 (pt_cmpR op_ne (pe_callB call_isX (by rfl) n.isi (by decide +kernel) (pa_cons (pv 12) (pa_cons (pe_bltn (v := .ty "ValueError") (by rfl) n.ve (by decide +kernel) rfl) pa_nil))) (pe_cmp (pc_gt (pv 11) pe_int) rfl) (nomark _)))))) (pss_one (ps_ret pe_bl)) pss_nil)))))))))))))
      (pss_one (ps_ret pe_bl)))), ?_⟩
    refine ⟨_, rfl, Nat.le_of_ble_eq_true rfl, fun l1 n1 => ?_⟩
    have f1 : upd H l1 (.lst [.str "a"]) l1 = some (.lst [.str "a"]) := upd_same
    have s1 := same_put (o := .lst [.str "a"]) n1
    generalize upd H l1 (.lst [.str "a"]) = H1 at f1 s1
    refine ⟨Nat.le_of_ble_eq_true rfl, fun t1 m1 => ?_⟩
    have f2 : upd H1 t1 (.tup [.str "b", .int 1]) t1 = some (.tup [.str "b", .int 1]) := upd_same
    have s2 := same_put (o := .tup [.str "b", .int 1]) m1
    generalize upd H1 t1 (.tup [.str "b", .int 1]) = H2 at f2 s2
    refine ⟨Nat.le_of_ble_eq_true rfl, fun t2 m2 => ?_⟩
    have f3 : upd H2 t2 (.tup []) t2 = some (.tup []) := upd_same
    have s3 := same_put (o := .tup []) m2
    generalize upd H2 t2 (.tup []) = H3 at f3 s3
    refine ⟨Nat.le_of_ble_eq_true rfl, fun l2 n2 => ?_⟩
    have f4 : upd H3 l2 (.lst []) l2 = some (.lst []) := upd_same
    have s4 := same_put (o := .lst []) n2
    generalize upd H3 l2 (.lst []) = H4 at f4 s4
    refine ⟨Nat.le_of_ble_eq_true rfl, fun l3 n3 => ?_⟩
    have f5 : upd H4 l3 (.lst [.int 1]) l3 = some (.lst [.int 1]) := upd_same
    have s5 := same_put (o := .lst [.int 1]) n3
    generalize upd H4 l3 (.lst [.int 1]) = H5 at f5 s5
    refine ⟨Nat.le_of_ble_eq_true rfl, fun t3 m3 => ?_⟩
    have f6 : upd H5 t3 (.tup [.str "c"]) t3 = some (.tup [.str "c"]) := upd_same
    have s6 := same_put (o := .tup [.str "c"]) m3
    generalize upd H5 t3 (.tup [.str "c"]) = H6 at f6 s6
    refine ⟨Nat.le_of_ble_eq_true rfl, fun l4 n4 => ?_⟩
    have f7 : upd H6 l4 (.lst [.ref l3, .ref t3]) l4 = some (.lst [.ref l3, .ref t3]) := upd_same
    have s7 := same_put (o := .lst [.ref l3, .ref t3]) n4
    generalize upd H6 l4 (.lst [.ref l3, .ref t3]) = H7 at f7 s7
    refine ⟨_, _, rfl, rfl, ⟨by decide, by decide, by decide⟩, Nat.le_of_ble_eq_true rfl, fun p0 np0 => ?_⟩
    have odds : ∃ xs : List V, xs = [.str "", .str "x", .str "a b", .non, .bl true, .bl false, .int 0, .int 7, .int (-3), .ref l1, .ref t1, .ref t2, .ref l2, .ref l4, .int (10 ^ Int.toNat 29)] := ⟨_, rfl⟩
    obtain ⟨xs, exs⟩ := odds
    have hx15 : xs.length = 15 := by rw [exs]; rfl
    have gd : ∀ v ∈ xs, Good K H7 v := by
      rw [exs]
      have g1 : Good K H7 (.ref l1) := ⟨.list [.str "a"], .lst (SqL.of (s7 _ _ (s6 _ _ (s5 _ _ (s4 _ _ (s3 _ _ (s2 _ _ f1))))))) (.cons (.str _) .nil), ⟨rfl, rfl, Nat.le_of_ble_eq_true rfl, by decide +kernel⟩⟩
      have g2 : Good K H7 (.ref t1) := ⟨.tuple [.str "b", .int 1], .tup (SqT.of (s7 _ _ (s6 _ _ (s5 _ _ (s4 _ _ (s3 _ _ f2)))))) (.cons (.str _) (.cons (.int _) .nil)), ⟨rfl, rfl, Nat.le_of_ble_eq_true rfl, by decide +kernel⟩⟩
      have g3 : Good K H7 (.ref t2) := ⟨.tuple [], .tup (SqT.of (s7 _ _ (s6 _ _ (s5 _ _ (s4 _ _ f3))))) .nil, ⟨rfl, rfl, Nat.le_of_ble_eq_true rfl, by decide +kernel⟩⟩
      have g4 : Good K H7 (.ref l2) := ⟨.list [], .lst (SqL.of (s7 _ _ (s6 _ _ (s5 _ _ f4)))) .nil, ⟨rfl, rfl, Nat.le_of_ble_eq_true rfl, by decide +kernel⟩⟩
      have g5 : Good K H7 (.ref l4) := ⟨.list [.list [.int 1], .tuple [.str "c"]], .lst (SqL.of f7) (.cons (.lst (SqL.of (s7 _ _ (s6 _ _ f5))) (.cons (.int _) .nil)) (.cons (.tup (SqT.of (s7 _ _ f6)) (.cons (.str _) .nil)) .nil)), ⟨rfl, rfl, Nat.le_of_ble_eq_true rfl, by decide +kernel⟩⟩
      have gs : ∀ z : Str, (reprText z).length ≤ 100 → Good K H7 (.str z) := fun z hz => ⟨.str z, .str z, ⟨rfl, rfl, Nat.zero_le _, hz⟩⟩
      have gb : ∀ z : Bool, Good K H7 (.bl z) := fun z => ⟨.bool z, .bl z, ⟨rfl, rfl, Nat.zero_le _, by cases z <;> decide +kernel⟩⟩
      have gn : Good K H7 .non := ⟨.none, .non, ⟨rfl, rfl, Nat.zero_le _, by decide +kernel⟩⟩
      intro v hv
      simp only [List.mem_cons, List.not_mem_nil, or_false] at hv
      rcases hv with rfl | rfl | rfl | rfl | rfl | rfl | rfl | rfl | rfl | rfl | rfl | rfl | rfl | rfl | rfl
      · exact gs _ (by decide +kernel)
      · exact gs _ (by decide +kernel)
      · exact gs _ (by decide +kernel)
      · exact gn
      · exact gb _
      · exact gb _
      · exact good_int (by decide)
      · exact good_int (by decide)
      · exact good_int (by decide)
      · exact g1
      · exact g2
      · exact g3
      · exact g4
      · exact g5
      · exact good_int (by decide)
    rw [← exs]
    have sJ : Same H (upd H7 p0 (.lst xs)) := s1.trans (s2.trans (s3.trans (s4.trans (s5.trans (s6.trans (s7.trans (same_put np0)))))))
    have fJ : upd H7 p0 (.lst xs) p0 = some (.lst xs) := upd_same
    have gJ : ∀ v ∈ xs, Good K (upd H7 p0 (.lst xs)) v := fun v hv => (gd v hv).same (same_put np0)
    generalize upd H7 p0 (.lst xs) = J at sJ fJ gJ
    clear s1 s2 s3 s4 s5 s6 s7 f1 f2 f3 f4 f5 f6 f7 gd
    have hSJ := sJ.seq hS
    refine ⟨_, rfl, a, _, rfl, .inl hSJ, _, _, rfl, _, _, rfl, _, rfl, ?_, ?_, ?_⟩
    · rw [List.length_map]; split <;> (try split) <;> omega
    · rw [List.length_map]; split <;> (try split) <;> omega
    rw [List.length_map]
    have hn3 : (if (if (ns.length : Int) < 3 then (ns.length : Int) else 3) > 1 then (if (ns.length : Int) < 3 then (ns.length : Int) else 3) else 1).toNat ≤ 3 := by
      split <;> (try split) <;> omega
    generalize (if (if (ns.length : Int) < 3 then (ns.length : Int) else 3) > 1 then (if (ns.length : Int) < 3 then (ns.length : Int) else 3) else 1).toNat = nn at hn3
    refine for_range (lo := 0) (n := nn) (fun _ σ G => ∃ v2 v3 v4 v5 v6 v7 v8 v9 v10 v11 v12 v13 v14 v15 v16, σ = [some (.ref a), some (.ref p0), v2, v3, v4, v5, v6, v7, v8, v9, v10, v11, v12, v13, v14, v15, v16] ∧ Same J G)
      ⟨none, none, none, none, none, none, none, none, none, none, none, none, none, none, none, rfl, Same.refl J⟩ ?_ (fun σ G _ => k _)
    rintro i σ G hi ⟨v2, v3, v4, v5, v6, v7, v8, v9, v10, v11, v12, v13, v14, v15, v16, rfl, sG⟩
    refine ⟨_, rfl, _, rfl, a, ns, i, ?_, sG.seq hSJ, hl, by omega, fun b G1 nb kb eb hB => ?_⟩
    · rw [Int.zero_add]
      rfl
    have sG1 : Same J G1 := fun x o e => (eb x (ne_of_none (sG _ _ e) nb)).trans (sG _ _ e)
    have jb : J b = none := sG.free nb
    refine ⟨6, rfl, by decide, by decide, fun D nD => ?_⟩
    have jD : J D = none := sG1.free nD
    have nDb : D ≠ b := hB.ne nD
    refine lc_range (lo := 0) (n := 6) (fun i G => ∃ vs : List V, G D = some (.lst vs) ∧ vs.length = i ∧ (∀ v ∈ vs, Good K J v) ∧ Same J G ∧ Bag G b (2 * (i : Int)))
      ⟨[], upd_same, rfl, (fun _ h => nomatch h), sG1.trans (same_put nD), (hB.put nDb).mono (by decide)⟩ ?_ ?_
    · rintro j G2 hj ⟨vs, hD, hvl, hvg, s2, hB2⟩
      refine ⟨rfl, ?_⟩
      dsimp only [tYes]
      rw [if_pos rfl]
      refine ⟨_, rfl, _, rfl, _, rfl, _, _, rfl, rfl, ⟨by decide, by decide, by decide⟩, b, 2 * (j : Int), _, rfl, hB2, by omega, by decide, by decide, fun r G3 r0 r1 but3 hB3 => ?_⟩
      refine ⟨Nat.le_of_ble_eq_true rfl, fun q nq => ?_⟩
      have s3 : Same J G3 := fun x o e => (but3 x (ne_of_none e jb)).trans (s2 _ _ e)
      have nqb : q ≠ b := hB3.ne nq
      refine ⟨p0, q, xs, [.int r], rfl, rfl, (same_put nq) _ _ (s3 _ _ fJ), upd_same, by rw [hx15]; exact Nat.le_of_ble_eq_true rfl, fun c nc => ?_⟩
      have hBq := hB3.put (o := .lst [.int r]) nqb
      have ncb : c ≠ b := hBq.ne nc
      refine ⟨b, c, 2 * (j : Int) + 1, xs ++ [.int r], rfl, hBq.put ncb, by omega, ncb, SqL.of upd_same, by rw [List.length_append, hx15]; exact Nat.le_of_ble_eq_true rfl, by rw [List.length_append, hx15]; exact Nat.le_of_ble_eq_true rfl, fun m v G4 hv but4 hB4 => ?_⟩
      have s4 : Same J G4 := fun x o e => (but4 x (ne_of_none e jb)).trans ((same_put nc) _ _ ((same_put nq) _ _ (s3 _ _ e)))
      have hD4 : G4 D = some (.lst vs) := (but4 D nDb).trans ((same_put nc) _ _ ((same_put nq) _ _ ((but3 D nDb).trans hD)))
      have gv : Good K J v := by
        rcases List.mem_append.mp (List.mem_of_getElem? hv) with z | z
        · exact gJ v z
        · obtain rfl := List.mem_singleton.mp z
          refine good_int ?_
          have : (10 : Int) ^ Int.toNat 29 = 10 ^ 29 := rfl
          rw [this] at r1
          omega
      refine ⟨vs, hD4, by rw [hvl]; exact Nat.lt_of_lt_of_le hj (by decide), vs ++ [v], upd_same, by rw [List.length_append, hvl]; rfl, fun u hu => ?_, fun x o e => (upd_ne (ne_of_none e jD)).trans (s4 _ _ e), (hB4.put nDb).mono (by omega)⟩
      rcases List.mem_append.mp hu with z | z
      · exact hvg u z
      · obtain rfl := List.mem_singleton.mp z
        exact gv
    · rintro G2 ⟨vs, hD, hvl, hvg, s2, hB2⟩
      obtain ⟨v0, v1, w2, w3, w4, w5, rfl⟩ : ∃ v0 v1 w2 w3 w4 w5, vs = [v0, v1, w2, w3, w4, w5] := by
        match vs, hvl with
        | [v0, v1, w2, w3, w4, w5], _ => exact ⟨v0, v1, w2, w3, w4, w5, rfl⟩
      refine ⟨_, rfl, _, _, _, _, rfl, rfl, SqL.of hD, rfl, _, rfl, _, _, _, _, rfl, rfl, SqL.of hD, rfl, _, rfl, _, _, _, _, rfl, rfl, SqL.of hD, rfl, v0, v1, w2, rfl, fun p1 xs1 G3 np1 s3 e1 E1 => ?_⟩
      have hD3 := s3 _ _ hD
      refine ⟨_, rfl, _, _, _, _, rfl, rfl, SqL.of hD3, rfl, _, rfl, _, _, _, _, rfl, rfl, SqL.of hD3, rfl, _, rfl, _, _, _, _, rfl, rfl, SqL.of hD3, rfl, w3, w4, w5, rfl, fun p2 xs2 G4 np2 s4 e2 E2 => ?_⟩
      refine ⟨_, _, rfl, ?_⟩
      have hD4 := s4 _ _ hD3
      have e14 := s4 _ _ e1
      have E14 := E1.same s4
      have sJ4 : Same J G4 := s2.trans (s3.trans s4)
      clear E1 e1 hD3 hD s3 s4 s2 hB2 hB np1 np2
      refine ⟨Nat.le_of_ble_eq_true rfl, fun m0 nm0 => ?_⟩
      refine ⟨m0, 27, [.int 1], rfl, rfl, upd_same, by decide, by decide, Nat.le_of_ble_eq_true rfl, fun m nm => ?_⟩
      have nmm : m0 ≠ m := ne_of_none upd_same nm
      have fm : upd (upd G4 m0 (.lst [.int 1])) m (.lst (List.replicate (Int.toNat 27) [V.int 1]).flatten) m = some (.lst (List.replicate (Int.toNat 27) [V.int 1]).flatten) := upd_same
      have s5 : Same G4 (upd (upd G4 m0 (.lst [.int 1])) m (.lst (List.replicate (Int.toNat 27) [V.int 1]).flatten)) := (same_put nm0).trans (same_put nm)
      have um : G4 m = none := (same_put (o := .lst [.int 1]) nm0).free nm
      have j4m : ∀ x o, G4 x = some o → x ≠ m := fun x o e => ne_of_none e um
      generalize upd (upd G4 m0 (.lst [.int 1])) m (.lst (List.replicate (Int.toNat 27) [V.int 1]).flatten) = G5 at fm s5 nm
      refine ⟨Nat.le_of_ble_eq_true rfl, fun t nt => ?_⟩
      have ntm : t ≠ m := (ne_of_none fm nt).symm
      have ft : upd G5 t (.tup [.int 2, .int 2, .int 3, .int 2]) t = some (.tup [.int 2, .int 2, .int 3, .int 2]) := upd_same
      have fm6 : upd G5 t (.tup [.int 2, .int 2, .int 3, .int 2]) m = _ := (upd_ne ntm.symm).trans fm
      have s6 : Same G4 (upd G5 t (.tup [.int 2, .int 2, .int 3, .int 2])) := s5.trans (same_put nt)
      generalize upd G5 t (.tup [.int 2, .int 2, .int 3, .int 2]) = G6 at ft fm6 s6
      refine ⟨t, _, rfl, SqT.of ft, rfl, ?_⟩
      refine ⟨_, _, rfl, _, rfl, m, _, _, 1, rfl, rfl, fm6, rfl, ?_⟩
      refine ⟨_, _, rfl, _, rfl, m, _, _, 21, rfl, rfl, upd_same, rfl, ?_⟩
      refine ⟨_, _, rfl, _, rfl, m, _, _, 25, rfl, rfl, upd_same, rfl, ?_⟩
      refine ⟨_, _, rfl, _, rfl, m, _, _, 26, rfl, rfl, upd_same, rfl, ?_⟩
      refine ⟨rfl, ?_⟩
      have hm7 : (((((List.replicate (Int.toNat 27) [V.int 1]).flatten.set 1 (.int 2)).set 21 (.int 2)).set 25 (.int 3)).set 26 (.int 2)) = cnts.map (fun n => V.int ((n : Nat) : Int)) := by decide +kernel
      rw [hm7]
      generalize hG7 : upd (upd (upd (upd G6 m _) m _) m _) m (.lst (cnts.map (fun n => V.int ((n : Nat) : Int)))) = G7
      have fm7 : G7 m = some (.lst (cnts.map (fun n => V.int ((n : Nat) : Int)))) := by rw [← hG7]; exact upd_same
      have s7 : Same G4 G7 := fun x o e => by
        have q := j4m x o e
        rw [← hG7, upd_ne q, upd_ne q, upd_ne q, upd_ne q]
        exact s6 _ _ e
      clear hG7 fm6 ft s6 s5 fm ntm nt nm nmm j4m um hm7
      have sJ7 := sJ4.trans s7
      have hD7 := s7 _ _ hD4
      have h17 := s7 _ _ e14
      have h27 := s7 _ _ e2
      have E17 := E14.same s7
      have E27 := E2.same s7
      clear hD4 e14 e2 E14 E2 sJ4 s7 nm0
      refine ⟨_, rfl, Nat.le_of_ble_eq_true rfl, fun u1 nu1 => ?_⟩
      refine ⟨_, rfl, Nat.le_of_ble_eq_true rfl, fun u2 nu2 => ?_⟩
      refine ⟨Nat.le_of_ble_eq_true rfl, fun u3 nu3 => ?_⟩
      have fu1 := same_put (o := .tup [.ref u1, .ref u2]) nu3 _ _ (same_put (o := .tup [.int 3, .ref p2]) nu2 _ _ (upd_same (H := G7) (a := u1) (o := .tup [.int 0, .ref p1])))
      have fu2 := same_put (o := .tup [.ref u1, .ref u2]) nu3 _ _ (upd_same (H := upd G7 u1 (.tup [.int 0, .ref p1])) (a := u2) (o := .tup [.int 3, .ref p2]))
      have fu3 := upd_same (H := upd (upd G7 u1 (.tup [.int 0, .ref p1])) u2 (.tup [.int 3, .ref p2])) (a := u3) (o := .tup [.ref u1, .ref u2])
      have s8 : Same G7 (upd (upd (upd G7 u1 (.tup [.int 0, .ref p1])) u2 (.tup [.int 3, .ref p2])) u3 (.tup [.ref u1, .ref u2])) := (same_put nu1).trans ((same_put nu2).trans (same_put nu3))
      generalize upd (upd (upd G7 u1 (.tup [.int 0, .ref p1])) u2 (.tup [.int 3, .ref p2])) u3 (.tup [.ref u1, .ref u2]) = B at fu1 fu2 fu3 s8
      have sJB := sJ7.trans s8
      have hDB := s8 _ _ hD7
      have h1B := s8 _ _ h17
      have h2B := s8 _ _ h27
      have E1B := E17.same s8
      have E2B := E27.same s8
      have hmB := s8 _ _ fm7
      clear hD7 h17 h27 E17 E27 sJ7 s8 fm7 nu1 nu2 nu3
      refine ⟨u3, rfl, ⟨_, SqT.of fu3⟩, for_tup (K := K) (a := u3) (xs := [.ref u1, .ref u2]) (fun _ σ G => ∃ y2 y8 y9 y10 y11 y12 y13 y14 y15 y16, σ = [some (.ref a), some (.ref p0), y2, some (.ref b), some (.ref D), some (.ref p1), some (.ref p2), some (.ref m), y8, y9, y10, y11, y12, y13, y14, y15, y16] ∧ Same B G)
        ⟨_, _, _, _, _, _, _, _, _, _, rfl, Same.refl B⟩ (fun i σ G _ h => ?_) ?_ ?_⟩
      · obtain ⟨_, _, _, _, _, _, _, _, _, _, _, sb⟩ := h
        exact SqT.of (sb _ _ fu3)
      · rintro i2 x σ G hx ⟨y2, y8, y9, y10, y11, y12, y13, y14, y15, y16, rfl, sb⟩
        obtain ⟨ut, sd, pp, xx, x0, x1, x2, rfl, hut, hpp, Ex, hcut, g0, g1, g2⟩ : ∃ (ut : Addr) (sd : Nat) (pp : Addr) (xx : List V) (x0 x1 x2 : V), x = .ref ut ∧ B ut = some (.tup [.int ((sd : Nat) : Int), .ref pp]) ∧ B pp = some (.lst xx) ∧ Excs K B xx (want x0 x1 x2) ∧
            (∀ n : Nat, (n = 1 ∨ n = 2 ∨ n = 3) → cutV [v0, v1, w2, w3, w4, w5] (some ((sd : Nat) : Int)) (some (((sd : Nat) : Int) + ((n : Nat) : Int))) = [x0, x1, x2].take n) ∧ Good K J x0 ∧ Good K J x1 ∧ Good K J x2 := by
          match i2, hx with
          | 0, hx => exact ⟨u1, 0, p1, xs1, v0, v1, w2, (Option.some.inj hx).symm, fu1, h1B, E1B, (fun n h => by rcases h with rfl | rfl | rfl <;> rfl), hvg _ (by simp), hvg _ (by simp), hvg _ (by simp)⟩
          | 1, hx => exact ⟨u2, 3, p2, xs2, w3, w4, w5, (Option.some.inj hx).symm, fu2, h2B, E2B, (fun n h => by rcases h with rfl | rfl | rfl <;> rfl), hvg _ (by simp), hvg _ (by simp), hvg _ (by simp)⟩
          | n + 2, hx => cases hx
        refine ⟨ut, _, rfl, SqT.of (sb _ _ hut), rfl, ⟨_, _, rfl, ⟨_, _, rfl, ⟨rfl, ?_⟩⟩⟩⟩
        refine ⟨_, rfl, m, rfl, ⟨_, SqL.of (sb _ _ hmB)⟩, fun D2 nD2 => ?_⟩
        refine lc_list (K := K) (a := m) (xs := cnts.map (fun n => V.int ((n : Nat) : Int))) (fun j G2 => ∃ ws, G2 D2 = some (.lst ws) ∧ ws.length = j ∧ Lsts (hide D2 G2) ws ((cnts.take j).map fun n => [x0, x1, x2].take n) ∧ Same G G2)
          ⟨[], upd_same, rfl, .nil, same_put nD2⟩ (fun j G2 _ h => ?_) ?_ ?_
        · obtain ⟨_, _, _, _, s2⟩ := h
          exact SqL.of (s2 _ _ (sb _ _ hmB))
        · rintro j y G2 hy ⟨ws, hw, hwl, L, s2⟩
          obtain ⟨cn, hcn, rfl⟩ : ∃ cn : Nat, cnts[j]? = some cn ∧ y = V.int ((cn : Nat) : Int) := by
            rw [List.getElem?_map] at hy
            cases e : cnts[j]? with
            | none => rw [e] at hy; cases hy
            | some z => rw [e] at hy; exact ⟨z, rfl, (Option.some.inj hy).symm⟩
          have hc3 : cn = 1 ∨ cn = 2 ∨ cn = 3 := (by decide : ∀ z ∈ cnts, z = 1 ∨ z = 2 ∨ z = 3) cn (List.mem_of_getElem? hcn)
          have hjl : j < 27 := (List.getElem?_eq_some_iff.mp hcn).1
          refine ⟨rfl, ?_⟩
          dsimp only [tYes]
          rw [if_pos rfl]
          refine ⟨_, rfl, _, rfl, _, rfl, _, rfl, _, rfl, _, _, rfl, rfl, _, rfl, D, _, rfl, SqL.of (s2 _ _ (sb _ _ hDB)), fun p np => ?_⟩
          rw [hcut cn hc3]
          have npD : p ≠ D2 := (ne_of_none hw np).symm
          refine ⟨ws, (same_put np) _ _ hw, by rw [hwl]; exact Nat.lt_trans hjl (by decide), ws ++ [.ref p], upd_same, by rw [List.length_append, hwl]; rfl, ?_, fun x o e => ?_⟩
          · rw [List.take_succ, hcn]
            show Lsts _ _ (List.map _ (cnts.take j ++ [cn]))
            rw [List.map_append]
            exact .snoc (L.same (hide_put np)) (hide_new npD)
          · rw [upd_ne (ne_of_none e nD2)]
            exact (same_put np) _ _ (s2 _ _ e)
        · rintro G2 ⟨ws, hw, hwl, L, s2⟩
          have L2' : Lsts G2 ws (cnts.map fun n => [x0, x1, x2].take n) := by
            have q := L.same hide_same
            rw [List.take_of_length_le (by rw [List.length_map]; exact Nat.le_refl _)] at q
            exact q
          have sB2 : Same B G2 := sb.trans s2
          obtain ⟨d0, D0, S0⟩ := g0
          obtain ⟨d1, D1, S1⟩ := g1
          obtain ⟨d2, Dd2, S2⟩ := g2
          have dp3 : DpAll K J [x0, x1, x2] [d0, d1, d2] := .cons D0 (.cons D1 (.cons Dd2 .nil))
          have SS := small_dOf (ns := cnts) (by decide) S0 S1 S2
          refine ⟨_, rfl, pp, xx, x0, x1, x2, rfl, sB2 _ _ hpp, Ex.same sB2, fun q rs G3 nq s3 e3 L3 => ?_⟩
          have dp4 := dps_same ((sJB.trans sB2).trans s3) _ _ dp3
          refine ⟨q, dOf cnts d0 d1 d2, rfl, .lst (SqL.of e3) (lsts_dp dp4 L3 cnts (told_cnts _ _ _)), SS.sh, SS.nd, Nat.le_trans SS.dp (by decide), Nat.le_trans SS.ln (by decide), ?_⟩
          refine ⟨_, rfl, D2, dOf cnts d0 d1 d2, rfl, .lst (SqL.of (s3 _ _ hw)) (lsts_dp dp4 (L2'.same s3) cnts rfl), SS.sh, SS.nd, Nat.le_trans SS.dp (by decide), Nat.le_trans SS.ln (by decide), ?_⟩
          refine ⟨rfl, _, rfl, ?_⟩
          refine iteNS rfl ?_
          exact ⟨_, _, _, _, _, _, _, _, _, _, rfl, sB2.trans s3⟩
      · rintro σ G ⟨y2, y8, y9, y10, y11, y12, y13, y14, y15, y16, rfl, sb⟩
        refine ⟨_, rfl, p1, xs1, rfl, SqL.of (sb _ _ h1B), for_it (walk_enum (K := K) (a := p1) (xs := xs1)) (fun _ σ G => ∃ y2 y8 y9 y10 y11 y12 y13 y14 y15 y16, σ = [some (.ref a), some (.ref p0), y2, some (.ref b), some (.ref D), some (.ref p1), some (.ref p2), some (.ref m), y8, y9, y10, y11, y12, y13, y14, y15, y16] ∧ Same B G)
          ⟨_, _, _, _, _, _, _, _, _, _, rfl, sb⟩ (fun i σ G _ h => ?_) ?_ ?_⟩
        · obtain ⟨_, _, _, _, _, _, _, _, _, _, _, sb⟩ := h
          exact SqL.of (sb _ _ h1B)
        · rintro i2 x σ G5 G6 hi2 ⟨z2, z8, z9, z10, z11, z12, z13, z14, z15, z16, rfl, sb5⟩ hY
          obtain ⟨T, ki, ev, rfl, nT, rfl, hk1, hk2⟩ := hY
          obtain rfl : V.int ((i2 : Nat) : Int) = ki := Option.some.inj hk1
          have hx27 : xs1.length = 27 := E1B.len
          obtain ⟨c, fl, hw, hcx⟩ := want_at (x := v0) (y := v1) (z := w2) (i := i2) (by omega)
          obtain ⟨_, hv, ae, de, rfl, eae, ede⟩ := E1B.get hw
          obtain rfl : V.ref ae = ev := Option.some.inj (hv.symm.trans hk2)
          have hO := KK.one c (List.mem_of_getElem? hcx)
          have s6 := sb5.trans (same_put (o := .tup [.int ((i2 : Nat) : Int), .ref ae]) nT)
          have fT : upd G5 T (.tup [.int ((i2 : Nat) : Int), .ref ae]) T = some (.tup [.int ((i2 : Nat) : Int), .ref ae]) := upd_same
          generalize upd G5 T (.tup [.int ((i2 : Nat) : Int), .ref ae]) = G6 at s6 fT
          refine ⟨T, _, rfl, SqT.of fT, rfl, ⟨_, _, rfl, ⟨_, _, rfl, ⟨rfl, ?_⟩⟩⟩⟩
          refine ⟨_, rfl, ae, de, i2, c, fl, rfl, hcx, s6 _ _ eae, s6 _ _ ede, fun q G7' nq s7 eq => ?_⟩
          have sB7 := s6.trans s7
          refine ⟨27, rfl, by decide, by decide, fun D3 nD3 => ?_⟩
          refine lc_range (lo := 0) (n := 27) (fun j G => G D3 = some (.lst ((List.range j).map fun j => V.bl (decide (j = i2)))) ∧ Same G7' G) ⟨upd_same, same_put nD3⟩ ?_ ?_
          · rintro j G8 hj ⟨hD3, s8⟩
            refine ⟨rfl, ?_⟩
            dsimp only [tYes]
            rw [if_pos rfl]
            refine ⟨_, rfl, _, rfl, rfl, ?_⟩
            have hdj : decide (V.int (0 + ((j : Nat) : Int)) = V.int ((i2 : Nat) : Int)) = decide (j = i2) := by
              rw [dec_int, Bool.eq_iff_iff, beq_iff_eq, decide_eq_true_iff]
              omega
            refine ⟨_, hD3, by rw [List.length_map, List.length_range]; exact Nat.lt_trans hj (by decide), ?_, fun x o e => ?_⟩
            · rw [upd_same, hdj, List.range_succ, List.map_append]
              rfl
            · rw [upd_ne (ne_of_none e nD3)]
              exact s8 _ _ e
          · rintro G8 ⟨hD3, s8⟩
            have hmm : (List.range 27).map (fun j => V.bl (decide (j = i2))) = ((List.range 27).map fun j => decide (j = i2)).map V.bl := by rw [List.map_map]; rfl
            have eq8 := s8 _ _ eq
            rw [hmm] at hD3 eq8
            have sB8 := sB7.trans s8
            refine ⟨_, _, .lst (SqL.of eq8) (dps_bools _), .lst (SqL.of hD3) (dps_bools _), bools_shaped _, bools_shaped _, ?_⟩
            rw [bools_eqv]
            refine ⟨_, rfl, iteF ?_⟩
            have hk := lookup_kind hcx
            have kM : PySem.W.kitOne K (.ref (ga K c.1)) (.ref (ga K "MissingError")) = some (decide (i2 < 3)) := by
              have q := kit_base KK hcx true
              rw [hk] at q
              cases h : decide (i2 < 3) <;> rw [h] at q <;> exact q
            have kP : PySem.W.kitOne K (.ref (ga K c.1)) (.ref (ga K "PlaceError")) = some (!decide (i2 < 3)) := by
              have q := kit_base KK hcx false
              rw [hk] at q
              cases h : decide (i2 < 3) <;> rw [h] at q <;> exact q
            have kL : PySem.W.kitOne K (.ref (ga K c.1)) (.type "LookupError") = some (decide (i2 < 3)) := by
              have q := kit_blt KK hcx true
              rw [hk] at q
              cases h : decide (i2 < 3) <;> rw [h] at q <;> exact q
            have kV : PySem.W.kitOne K (.ref (ga K c.1)) (.type "ValueError") = some (!decide (i2 < 3)) := by
              have q := kit_blt KK hcx false
              rw [hk] at q
              cases h : decide (i2 < 3) <;> rw [h] at q <;> exact q
            refine ⟨_, rfl, ae, _, de, _, _, fl, _, _, _, rfl, sB8 _ _ eae, sB8 _ _ ede, hO.T, KK.sp, KK.tk, (fun _ r => r), kM, ?_⟩
            refine ⟨_, rfl, ae, _, de, _, _, fl, _, _, _, rfl, sB8 _ _ eae, sB8 _ _ ede, hO.T, KK.sp, KK.tk, (fun _ r => r), kL, ?_⟩
            refine ⟨Nat.le_of_ble_eq_true rfl, fun b1 nb1 => ?_⟩
            have fb1 : upd G8 b1 (.lst ([decide (i2 < 3), decide (i2 < 3)].map V.bl)) b1 = some (.lst ([decide (i2 < 3), decide (i2 < 3)].map V.bl)) := upd_same
            have s9 := sB8.trans (same_put (o := .lst ([decide (i2 < 3), decide (i2 < 3)].map V.bl)) nb1)
            have s9' := same_put (o := .lst ([decide (i2 < 3), decide (i2 < 3)].map V.bl)) nb1
            refine ⟨_, rfl, _, rfl, _, _, rfl, rfl, _, rfl, _, _, rfl, rfl, Nat.le_of_ble_eq_true rfl, fun b2 nb2 => ?_⟩
            have hlt : decide (((i2 : Nat) : Int) < 3) = decide (i2 < 3) := by
              rw [Bool.eq_iff_iff, decide_eq_true_iff, decide_eq_true_iff]
              omega
            have hgt : decide ((2 : Int) < ((i2 : Nat) : Int)) = !decide (i2 < 3) := by
              rw [Bool.eq_iff_iff, decide_eq_true_iff, Bool.not_eq_true', decide_eq_false_iff_not]
              omega
            have fb2 : upd (upd G8 b1 (.lst ([decide (i2 < 3), decide (i2 < 3)].map V.bl))) b2 (.lst ([decide (((i2 : Nat) : Int) < 3), decide (((i2 : Nat) : Int) < 3)].map V.bl)) b2 = some (.lst ([decide (((i2 : Nat) : Int) < 3), decide (((i2 : Nat) : Int) < 3)].map V.bl)) := upd_same
            have sA := s9.trans (same_put (o := .lst ([decide (((i2 : Nat) : Int) < 3), decide (((i2 : Nat) : Int) < 3)].map V.bl)) nb2)
            have fb1' := same_put (o := .lst ([decide (((i2 : Nat) : Int) < 3), decide (((i2 : Nat) : Int) < 3)].map V.bl)) nb2 _ _ fb1
            have ev2 : PyData.eqv (.list ([decide (i2 < 3), decide (i2 < 3)].map PyData.bool)) (.list ([decide (((i2 : Nat) : Int) < 3), decide (((i2 : Nat) : Int) < 3)].map PyData.bool)) = true := by
              rw [hlt]
              exact bools_eqv _
            refine ⟨.list ([decide (i2 < 3), decide (i2 < 3)].map PyData.bool), .list ([decide (((i2 : Nat) : Int) < 3), decide (((i2 : Nat) : Int) < 3)].map PyData.bool), .lst (SqL.of fb1') (dps_bools [decide (i2 < 3), decide (i2 < 3)]), .lst (SqL.of fb2) (dps_bools [decide (((i2 : Nat) : Int) < 3), decide (((i2 : Nat) : Int) < 3)]), bools_shaped _, bools_shaped _, ?_⟩
            rw [ev2]
            refine ⟨_, rfl, iteF ?_⟩
            refine ⟨_, rfl, ae, _, de, _, _, fl, _, _, _, rfl, sA _ _ eae, sA _ _ ede, hO.T, KK.sp, KK.tk, (fun _ r => r), kP, ?_⟩
            refine ⟨_, rfl, _, _, rfl, rfl, rfl, _, rfl, iteNS (congrArg V.bl hgt.symm) ?_⟩
            refine ⟨_, rfl, ae, _, de, _, _, fl, _, _, _, rfl, sA _ _ eae, sA _ _ ede, hO.T, KK.sp, KK.tk, (fun _ r => r), kV, ?_⟩
            refine ⟨_, rfl, _, _, rfl, rfl, rfl, _, rfl, iteNS (congrArg V.bl hgt.symm) ?_⟩
            exact ⟨_, _, _, _, _, _, _, _, _, _, rfl, sA⟩
        · rintro σ G5 ⟨z2, z8, z9, z10, z11, z12, z13, z14, z15, z16, rfl, sb5⟩
          exact ⟨_, _, _, _, _, _, _, _, _, _, _, _, _, _, _, rfl, sJB.trans sb5⟩
end
end K90

set_option Elab.async false
set_option linter.all false
set_option maxRecDepth 100000
set_option maxHeartbeats 0
namespace K90
open PySem PySem.Spec PyProof.Rows L2 He KX
structure Fs (K : PySem.W.Frag) : Prop where
  cls : ∀ c ∈ cx, oneB K c = true
  fre : ∀ x ∈ frees, (Fa.free x).ok K = true
  glo : ∀ x ∈ (["_law_bag", "_law_draw", "_law_of", "_law_made", "_law_told", "_law_classes", "law", "PlaceError", "MissingError"] : List Str), (Fa.glo x).ok K = true
  kf : KF K
theorem facts_of {K : PySem.W.Frag} (h : chk K = true) : Fs K := by
  unfold chk at h
  obtain ⟨h1, h⟩ := Bool.and_eq_true_iff.mp h
  obtain ⟨h2, h⟩ := Bool.and_eq_true_iff.mp h
  obtain ⟨h3, h⟩ := Bool.and_eq_true_iff.mp h
  obtain ⟨h4, h6⟩ := Bool.and_eq_true_iff.mp h
  obtain ⟨h4, h5⟩ := Bool.and_eq_true_iff.mp h4
  obtain ⟨h6, h7⟩ := Bool.and_eq_true_iff.mp h6
  have o : ∀ c ∈ cx, oneB K c = true := List.all_eq_true.mp h1
  have b5 := List.all_eq_true.mp h5
  have bp := Bool.and_eq_true_iff.mp (b5 "PlaceError" (List.mem_of_getElem? (i := 0) rfl))
  have bm := Bool.and_eq_true_iff.mp (b5 "MissingError" (List.mem_of_getElem? (i := 1) rfl))
  exact ⟨o, List.all_eq_true.mp h2, List.all_eq_true.mp h3, ⟨fun c hc => (one_of (o c hc)).2, of_decide_eq_true h4, ⟨bp.1, of_decide_eq_true bp.2⟩, ⟨bm.1, of_decide_eq_true bm.2⟩, eqO_ok h6, of_decide_eq_true h7⟩⟩
theorem all_ok {P : Program} {w : World} {K : PySem.W.Frag} {h : Heap} {mg : Str → Option Value} {f : Addr} (X : K.In h) (G : h.Ns mainGlobals mg) (hfa : mg ("law" : Str) = some (.ref f)) (c : SaysX chk fn K) :
    ∃ fd : FuncData, (∀ (s : Shared) (u : Value), BindsTo s fd ⟨[u], []⟩ [("script", u)]) ∧ ∀ base : Heap, K.In base → base.Ns mainGlobals mg → FnG P w K mg base CX0 4 f fd ["script"] (spLaw K) := by
  have S := facts_of c.1
  have g : ∀ x ∈ (["_law_bag", "_law_draw", "_law_of", "_law_made", "_law_told", "_law_classes", "law", "PlaceError", "MissingError"] : List Str), mg x = some (.ref (ga K x)) := fun x hx => glo_ok X G (S.glo x hx)
  have fr : ∀ x ∈ frees, mg x = none := fun x hx => free_ok X G (S.fre x hx)
  have gc : ∀ c ∈ cx, mg c.1 = some (.ref (ga K c.1)) := fun c hc => glo_ok X G (one_of (S.cls c hc)).1
  obtain ⟨fdB, FB⟩ := c.fd 0
  obtain ⟨fdD, FD⟩ := c.fd 1
  obtain ⟨fdO, FO⟩ := c.fd 2
  obtain ⟨fdM, FM⟩ := c.fd 3
  obtain ⟨fdT, FT⟩ := c.fd 4
  obtain ⟨fdC, FC⟩ := c.fd 5
  obtain ⟨fd, F⟩ := c.fd 6
  obtain ⟨fd0, F0⟩ := c.fd 7
  replace F0 : FunD K "__init__" (("NoRow" : Str) ++ ".__init__") (defArgs sI0) (defBody sI0) (defScope sI0) [] [] (ma K (ga K "NoRow") "__init__") fd0 := F0
  rw [(by decide +kernel : (("NoRow" : Str) ++ ".__init__" : Str) = "NoRow.__init__")] at F0
  obtain ⟨fd1, F1⟩ := c.fd 8
  replace F1 : FunD K "__init__" (("NoPlace" : Str) ++ ".__init__") (defArgs sI1) (defBody sI1) (defScope sI1) [] [] (ma K (ga K "NoPlace") "__init__") fd1 := F1
  rw [(by decide +kernel : (("NoPlace" : Str) ++ ".__init__" : Str) = "NoPlace.__init__")] at F1
  obtain ⟨fd2, F2⟩ := c.fd 9
  replace F2 : FunD K "__init__" (("NoHandler" : Str) ++ ".__init__") (defArgs sI2) (defBody sI2) (defScope sI2) [] [] (ma K (ga K "NoHandler") "__init__") fd2 := F2
  rw [(by decide +kernel : (("NoHandler" : Str) ++ ".__init__" : Str) = "NoHandler.__init__")] at F2
  obtain ⟨fd3, F3⟩ := c.fd 10
  replace F3 : FunD K "__init__" (("BadName" : Str) ++ ".__init__") (defArgs sI3) (defBody sI3) (defScope sI3) [] [] (ma K (ga K "BadName") "__init__") fd3 := F3
  rw [(by decide +kernel : (("BadName" : Str) ++ ".__init__" : Str) = "BadName.__init__")] at F3
  obtain ⟨fd4, F4⟩ := c.fd 11
  replace F4 : FunD K "__init__" (("BadPlace" : Str) ++ ".__init__") (defArgs sI4) (defBody sI4) (defScope sI4) [] [] (ma K (ga K "BadPlace") "__init__") fd4 := F4
  rw [(by decide +kernel : (("BadPlace" : Str) ++ ".__init__" : Str) = "BadPlace.__init__")] at F4
  obtain ⟨fd5, F5⟩ := c.fd 12
  replace F5 : FunD K "__init__" (("BadSlide" : Str) ++ ".__init__") (defArgs sI5) (defBody sI5) (defScope sI5) [] [] (ma K (ga K "BadSlide") "__init__") fd5 := F5
  rw [(by decide +kernel : (("BadSlide" : Str) ++ ".__init__" : Str) = "BadSlide.__init__")] at F5
  obtain ⟨fd6, F6⟩ := c.fd 13
  replace F6 : FunD K "__init__" (("NoInverse" : Str) ++ ".__init__") (defArgs sI6) (defBody sI6) (defScope sI6) [] [] (ma K (ga K "NoInverse") "__init__") fd6 := F6
  rw [(by decide +kernel : (("NoInverse" : Str) ++ ".__init__" : Str) = "NoInverse.__init__")] at F6
  obtain ⟨fd7, F7⟩ := c.fd 14
  replace F7 : FunD K "__init__" (("Twice" : Str) ++ ".__init__") (defArgs sI7) (defBody sI7) (defScope sI7) [] [] (ma K (ga K "Twice") "__init__") fd7 := F7
  rw [(by decide +kernel : (("Twice" : Str) ++ ".__init__" : Str) = "Twice.__init__")] at F7
  obtain ⟨fd8, F8⟩ := c.fd 15
  replace F8 : FunD K "__init__" (("BadOperation" : Str) ++ ".__init__") (defArgs sI8) (defBody sI8) (defScope sI8) [] [] (ma K (ga K "BadOperation") "__init__") fd8 := F8
  rw [(by decide +kernel : (("BadOperation" : Str) ++ ".__init__" : Str) = "BadOperation.__init__")] at F8
  obtain ⟨fd9, F9⟩ := c.fd 16
  replace F9 : FunD K "__init__" (("BadCall" : Str) ++ ".__init__") (defArgs sI9) (defBody sI9) (defScope sI9) [] [] (ma K (ga K "BadCall") "__init__") fd9 := F9
  rw [(by decide +kernel : (("BadCall" : Str) ++ ".__init__" : Str) = "BadCall.__init__")] at F9
  obtain ⟨fd10, F10⟩ := c.fd 17
  replace F10 : FunD K "__init__" (("BadVisit" : Str) ++ ".__init__") (defArgs sI10) (defBody sI10) (defScope sI10) [] [] (ma K (ga K "BadVisit") "__init__") fd10 := F10
  rw [(by decide +kernel : (("BadVisit" : Str) ++ ".__init__" : Str) = "BadVisit.__init__")] at F10
  obtain ⟨fd11, F11⟩ := c.fd 18
  replace F11 : FunD K "__init__" (("BadLine" : Str) ++ ".__init__") (defArgs sI11) (defBody sI11) (defScope sI11) [] [] (ma K (ga K "BadLine") "__init__") fd11 := F11
  rw [(by decide +kernel : (("BadLine" : Str) ++ ".__init__" : Str) = "BadLine.__init__")] at F11
  obtain ⟨fd12, F12⟩ := c.fd 19
  replace F12 : FunD K "__init__" (("BadStep" : Str) ++ ".__init__") (defArgs sI12) (defBody sI12) (defScope sI12) [] [] (ma K (ga K "BadStep") "__init__") fd12 := F12
  rw [(by decide +kernel : (("BadStep" : Str) ++ ".__init__" : Str) = "BadStep.__init__")] at F12
  obtain ⟨fd13, F13⟩ := c.fd 20
  replace F13 : FunD K "__init__" (("BadText" : Str) ++ ".__init__") (defArgs sI13) (defBody sI13) (defScope sI13) [] [] (ma K (ga K "BadText") "__init__") fd13 := F13
  rw [(by decide +kernel : (("BadText" : Str) ++ ".__init__" : Str) = "BadText.__init__")] at F13
  obtain ⟨fd14, F14⟩ := c.fd 21
  replace F14 : FunD K "__init__" (("BadWorld" : Str) ++ ".__init__") (defArgs sI14) (defBody sI14) (defScope sI14) [] [] (ma K (ga K "BadWorld") "__init__") fd14 := F14
  rw [(by decide +kernel : (("BadWorld" : Str) ++ ".__init__" : Str) = "BadWorld.__init__")] at F14
  obtain ⟨fd15, F15⟩ := c.fd 22
  replace F15 : FunD K "__init__" (("BadNumber" : Str) ++ ".__init__") (defArgs sI15) (defBody sI15) (defScope sI15) [] [] (ma K (ga K "BadNumber") "__init__") fd15 := F15
  rw [(by decide +kernel : (("BadNumber" : Str) ++ ".__init__" : Str) = "BadNumber.__init__")] at F15
  obtain ⟨fd16, F16⟩ := c.fd 23
  replace F16 : FunD K "__init__" (("BadSpot" : Str) ++ ".__init__") (defArgs sI16) (defBody sI16) (defScope sI16) [] [] (ma K (ga K "BadSpot") "__init__") fd16 := F16
  rw [(by decide +kernel : (("BadSpot" : Str) ++ ".__init__" : Str) = "BadSpot.__init__")] at F16
  obtain ⟨fd17, F17⟩ := c.fd 24
  replace F17 : FunD K "__init__" (("BadBound" : Str) ++ ".__init__") (defArgs sI17) (defBody sI17) (defScope sI17) [] [] (ma K (ga K "BadBound") "__init__") fd17 := F17
  rw [(by decide +kernel : (("BadBound" : Str) ++ ".__init__" : Str) = "BadBound.__init__")] at F17
  obtain ⟨fd18, F18⟩ := c.fd 25
  replace F18 : FunD K "__init__" (("BadKind" : Str) ++ ".__init__") (defArgs sI18) (defBody sI18) (defScope sI18) [] [] (ma K (ga K "BadKind") "__init__") fd18 := F18
  rw [(by decide +kernel : (("BadKind" : Str) ++ ".__init__" : Str) = "BadKind.__init__")] at F18
  obtain ⟨fd19, F19⟩ := c.fd 26
  replace F19 : FunD K "__init__" (("OtherOperation" : Str) ++ ".__init__") (defArgs sI19) (defBody sI19) (defScope sI19) [] [] (ma K (ga K "OtherOperation") "__init__") fd19 := F19
  rw [(by decide +kernel : (("OtherOperation" : Str) ++ ".__init__" : Str) = "OtherOperation.__init__")] at F19
  obtain ⟨fd20, F20⟩ := c.fd 27
  replace F20 : FunD K "__init__" (("BadOrder" : Str) ++ ".__init__") (defArgs sI20) (defBody sI20) (defScope sI20) [] [] (ma K (ga K "BadOrder") "__init__") fd20 := F20
  rw [(by decide +kernel : (("BadOrder" : Str) ++ ".__init__" : Str) = "BadOrder.__init__")] at F20
  obtain ⟨fd21, F21⟩ := c.fd 28
  replace F21 : FunD K "__init__" (("BadPair" : Str) ++ ".__init__") (defArgs sI21) (defBody sI21) (defScope sI21) [] [] (ma K (ga K "BadPair") "__init__") fd21 := F21
  rw [(by decide +kernel : (("BadPair" : Str) ++ ".__init__" : Str) = "BadPair.__init__")] at F21
  obtain ⟨fd22, F22⟩ := c.fd 29
  replace F22 : FunD K "__init__" (("BadRule" : Str) ++ ".__init__") (defArgs sI22) (defBody sI22) (defScope sI22) [] [] (ma K (ga K "BadRule") "__init__") fd22 := F22
  rw [(by decide +kernel : (("BadRule" : Str) ++ ".__init__" : Str) = "BadRule.__init__")] at F22
  obtain ⟨fd23, F23⟩ := c.fd 30
  replace F23 : FunD K "__init__" (("BadMend" : Str) ++ ".__init__") (defArgs sI23) (defBody sI23) (defScope sI23) [] [] (ma K (ga K "BadMend") "__init__") fd23 := F23
  rw [(by decide +kernel : (("BadMend" : Str) ++ ".__init__" : Str) = "BadMend.__init__")] at F23
  obtain ⟨fd24, F24⟩ := c.fd 31
  replace F24 : FunD K "__init__" (("TooMany" : Str) ++ ".__init__") (defArgs sI24) (defBody sI24) (defScope sI24) [] [] (ma K (ga K "TooMany") "__init__") fd24 := F24
  rw [(by decide +kernel : (("TooMany" : Str) ++ ".__init__" : Str) = "TooMany.__init__")] at F24
  obtain ⟨fd25, F25⟩ := c.fd 32
  replace F25 : FunD K "__init__" (("Clash" : Str) ++ ".__init__") (defArgs sI25) (defBody sI25) (defScope sI25) [] [] (ma K (ga K "Clash") "__init__") fd25 := F25
  rw [(by decide +kernel : (("Clash" : Str) ++ ".__init__" : Str) = "Clash.__init__")] at F25
  obtain ⟨fd26, F26⟩ := c.fd 33
  replace F26 : FunD K "__init__" (("CallFailed" : Str) ++ ".__init__") (defArgs sI26) (defBody sI26) (defScope sI26) [] [] (ma K (ga K "CallFailed") "__init__") fd26 := F26
  rw [(by decide +kernel : (("CallFailed" : Str) ++ ".__init__" : Str) = "CallFailed.__init__")] at F26
  have e := hfa.symm.trans (g "law" (List.mem_of_getElem? (i := 6) rfl))
  cases e
  refine ⟨fd, fun s u => FunD.bindsA (ps := ["script"]) F (fun _ _ _ _ _ _ us hl => match us, hl with | [_], _ => rfl) s [u] rfl, fun base _ _ => ?_⟩
  have MM : ∀ c ∈ cx, MkC P w K mg base c := (List.forall_mem_cons.mpr ⟨⟨S.kf.one _ (List.mem_of_getElem? (i := 0) rfl), gc _ (List.mem_of_getElem? (i := 0) rfl), ⟨fd0, ok_I0 F0 (S.kf.one _ (List.mem_of_getElem? (i := 0) rfl))⟩⟩,
    (List.forall_mem_cons.mpr ⟨⟨S.kf.one _ (List.mem_of_getElem? (i := 1) rfl), gc _ (List.mem_of_getElem? (i := 1) rfl), ⟨fd1, ok_I1 F1 (S.kf.one _ (List.mem_of_getElem? (i := 1) rfl))⟩⟩,
    (List.forall_mem_cons.mpr ⟨⟨S.kf.one _ (List.mem_of_getElem? (i := 2) rfl), gc _ (List.mem_of_getElem? (i := 2) rfl), ⟨fd2, ok_I2 F2 (S.kf.one _ (List.mem_of_getElem? (i := 2) rfl))⟩⟩,
    (List.forall_mem_cons.mpr ⟨⟨S.kf.one _ (List.mem_of_getElem? (i := 3) rfl), gc _ (List.mem_of_getElem? (i := 3) rfl), ⟨fd3, ok_I3 F3 (S.kf.one _ (List.mem_of_getElem? (i := 3) rfl))⟩⟩,
    (List.forall_mem_cons.mpr ⟨⟨S.kf.one _ (List.mem_of_getElem? (i := 4) rfl), gc _ (List.mem_of_getElem? (i := 4) rfl), ⟨fd4, ok_I4 F4 (S.kf.one _ (List.mem_of_getElem? (i := 4) rfl))⟩⟩,
    (List.forall_mem_cons.mpr ⟨⟨S.kf.one _ (List.mem_of_getElem? (i := 5) rfl), gc _ (List.mem_of_getElem? (i := 5) rfl), ⟨fd5, ok_I5 F5 (S.kf.one _ (List.mem_of_getElem? (i := 5) rfl))⟩⟩,
    (List.forall_mem_cons.mpr ⟨⟨S.kf.one _ (List.mem_of_getElem? (i := 6) rfl), gc _ (List.mem_of_getElem? (i := 6) rfl), ⟨fd6, ok_I6 F6 (S.kf.one _ (List.mem_of_getElem? (i := 6) rfl))⟩⟩,
    (List.forall_mem_cons.mpr ⟨⟨S.kf.one _ (List.mem_of_getElem? (i := 7) rfl), gc _ (List.mem_of_getElem? (i := 7) rfl), ⟨fd7, ok_I7 F7 (S.kf.one _ (List.mem_of_getElem? (i := 7) rfl))⟩⟩,
    (List.forall_mem_cons.mpr ⟨⟨S.kf.one _ (List.mem_of_getElem? (i := 8) rfl), gc _ (List.mem_of_getElem? (i := 8) rfl), ⟨fd8, ok_I8 F8 (S.kf.one _ (List.mem_of_getElem? (i := 8) rfl))⟩⟩,
    (List.forall_mem_cons.mpr ⟨⟨S.kf.one _ (List.mem_of_getElem? (i := 9) rfl), gc _ (List.mem_of_getElem? (i := 9) rfl), ⟨fd9, ok_I9 F9 (S.kf.one _ (List.mem_of_getElem? (i := 9) rfl))⟩⟩,
    (List.forall_mem_cons.mpr ⟨⟨S.kf.one _ (List.mem_of_getElem? (i := 10) rfl), gc _ (List.mem_of_getElem? (i := 10) rfl), ⟨fd10, ok_I10 F10 (S.kf.one _ (List.mem_of_getElem? (i := 10) rfl))⟩⟩,
    (List.forall_mem_cons.mpr ⟨⟨S.kf.one _ (List.mem_of_getElem? (i := 11) rfl), gc _ (List.mem_of_getElem? (i := 11) rfl), ⟨fd11, ok_I11 F11 (S.kf.one _ (List.mem_of_getElem? (i := 11) rfl))⟩⟩,
    (List.forall_mem_cons.mpr ⟨⟨S.kf.one _ (List.mem_of_getElem? (i := 12) rfl), gc _ (List.mem_of_getElem? (i := 12) rfl), ⟨fd12, ok_I12 F12 (S.kf.one _ (List.mem_of_getElem? (i := 12) rfl))⟩⟩,
    (List.forall_mem_cons.mpr ⟨⟨S.kf.one _ (List.mem_of_getElem? (i := 13) rfl), gc _ (List.mem_of_getElem? (i := 13) rfl), ⟨fd13, ok_I13 F13 (S.kf.one _ (List.mem_of_getElem? (i := 13) rfl))⟩⟩,
    (List.forall_mem_cons.mpr ⟨⟨S.kf.one _ (List.mem_of_getElem? (i := 14) rfl), gc _ (List.mem_of_getElem? (i := 14) rfl), ⟨fd14, ok_I14 F14 (S.kf.one _ (List.mem_of_getElem? (i := 14) rfl))⟩⟩,
    (List.forall_mem_cons.mpr ⟨⟨S.kf.one _ (List.mem_of_getElem? (i := 15) rfl), gc _ (List.mem_of_getElem? (i := 15) rfl), ⟨fd15, ok_I15 F15 (S.kf.one _ (List.mem_of_getElem? (i := 15) rfl))⟩⟩,
    (List.forall_mem_cons.mpr ⟨⟨S.kf.one _ (List.mem_of_getElem? (i := 16) rfl), gc _ (List.mem_of_getElem? (i := 16) rfl), ⟨fd16, ok_I16 F16 (S.kf.one _ (List.mem_of_getElem? (i := 16) rfl))⟩⟩,
    (List.forall_mem_cons.mpr ⟨⟨S.kf.one _ (List.mem_of_getElem? (i := 17) rfl), gc _ (List.mem_of_getElem? (i := 17) rfl), ⟨fd17, ok_I17 F17 (S.kf.one _ (List.mem_of_getElem? (i := 17) rfl))⟩⟩,
    (List.forall_mem_cons.mpr ⟨⟨S.kf.one _ (List.mem_of_getElem? (i := 18) rfl), gc _ (List.mem_of_getElem? (i := 18) rfl), ⟨fd18, ok_I18 F18 (S.kf.one _ (List.mem_of_getElem? (i := 18) rfl))⟩⟩,
    (List.forall_mem_cons.mpr ⟨⟨S.kf.one _ (List.mem_of_getElem? (i := 19) rfl), gc _ (List.mem_of_getElem? (i := 19) rfl), ⟨fd19, ok_I19 F19 (S.kf.one _ (List.mem_of_getElem? (i := 19) rfl))⟩⟩,
    (List.forall_mem_cons.mpr ⟨⟨S.kf.one _ (List.mem_of_getElem? (i := 20) rfl), gc _ (List.mem_of_getElem? (i := 20) rfl), ⟨fd20, ok_I20 F20 (S.kf.one _ (List.mem_of_getElem? (i := 20) rfl))⟩⟩,
    (List.forall_mem_cons.mpr ⟨⟨S.kf.one _ (List.mem_of_getElem? (i := 21) rfl), gc _ (List.mem_of_getElem? (i := 21) rfl), ⟨fd21, ok_I21 F21 (S.kf.one _ (List.mem_of_getElem? (i := 21) rfl))⟩⟩,
    (List.forall_mem_cons.mpr ⟨⟨S.kf.one _ (List.mem_of_getElem? (i := 22) rfl), gc _ (List.mem_of_getElem? (i := 22) rfl), ⟨fd22, ok_I22 F22 (S.kf.one _ (List.mem_of_getElem? (i := 22) rfl))⟩⟩,
    (List.forall_mem_cons.mpr ⟨⟨S.kf.one _ (List.mem_of_getElem? (i := 23) rfl), gc _ (List.mem_of_getElem? (i := 23) rfl), ⟨fd23, ok_I23 F23 (S.kf.one _ (List.mem_of_getElem? (i := 23) rfl))⟩⟩,
    (List.forall_mem_cons.mpr ⟨⟨S.kf.one _ (List.mem_of_getElem? (i := 24) rfl), gc _ (List.mem_of_getElem? (i := 24) rfl), ⟨fd24, ok_I24 F24 (S.kf.one _ (List.mem_of_getElem? (i := 24) rfl))⟩⟩,
    (List.forall_mem_cons.mpr ⟨⟨S.kf.one _ (List.mem_of_getElem? (i := 25) rfl), gc _ (List.mem_of_getElem? (i := 25) rfl), ⟨fd25, ok_I25 F25 (S.kf.one _ (List.mem_of_getElem? (i := 25) rfl))⟩⟩,
    (List.forall_mem_cons.mpr ⟨⟨S.kf.one _ (List.mem_of_getElem? (i := 26) rfl), gc _ (List.mem_of_getElem? (i := 26) rfl), ⟨fd26, ok_I26 F26 (S.kf.one _ (List.mem_of_getElem? (i := 26) rfl))⟩⟩,
    (fun _ hz => nomatch hz)⟩)⟩)⟩)⟩)⟩)⟩)⟩)⟩)⟩)⟩)⟩)⟩)⟩)⟩)⟩)⟩)⟩)⟩)⟩)⟩)⟩)⟩)⟩)⟩)⟩)⟩)⟩)
  have n : Nm mg := ⟨fr "len" (List.mem_of_getElem? (i := 0) rfl), fr "range" (List.mem_of_getElem? (i := 1) rfl), fr "isinstance" (List.mem_of_getElem? (i := 2) rfl), fr "enumerate" (List.mem_of_getElem? (i := 3) rfl), fr "repr" (List.mem_of_getElem? (i := 4) rfl), fr "max" (List.mem_of_getElem? (i := 5) rfl),
    fr "min" (List.mem_of_getElem? (i := 6) rfl), fr "abs" (List.mem_of_getElem? (i := 7) rfl), fr "int" (List.mem_of_getElem? (i := 8) rfl), fr "LookupError" (List.mem_of_getElem? (i := 9) rfl), fr "ValueError" (List.mem_of_getElem? (i := 10) rfl)⟩
  exact ok_law F n S.kf gc (g "PlaceError" (List.mem_of_getElem? (i := 7) rfl)) (g "MissingError" (List.mem_of_getElem? (i := 8) rfl)) MM FB FD FO FM FT FC (g "_law_bag" (List.mem_of_getElem? (i := 0) rfl)) (g "_law_draw" (List.mem_of_getElem? (i := 1) rfl)) (g "_law_of" (List.mem_of_getElem? (i := 2) rfl))
    (g "_law_made" (List.mem_of_getElem? (i := 3) rfl)) (g "_law_told" (List.mem_of_getElem? (i := 4) rfl)) (g "_law_classes" (List.mem_of_getElem? (i := 5) rfl))
end K90
open PySem PySem.W PySem.Calls PyProof.Rows
set_option maxRecDepth 100000 in
set_option maxHeartbeats 0 in
theorem PySem.Challenge.cw_rowsinplace_k90_errors_made_holds : PySem.Challenge.rw_rowsinplace_k90_errors_made.Holds := by
  w_on; o_law
  refine HandSHeadRun.head_any (r := OpenLaw.row PySem.Challenge.rw_rowsinplace_k90_errors_made) (q := view (OpenLaw.row PySem.Challenge.rw_rowsinplace_k90_errors_made).prog [37]) (H := K90.hk) (ob := K90.ob) (M := 20000) (loose := K90.loose) (d := HandSHeadRun.topDef (OpenLaw.row PySem.Challenge.rw_rowsinplace_k90_errors_made).prog 37) (kwd := []) K90.ob_eq
    (by kernel_rfl) (fun s => by kernel_rfl) K90.run (by kernel_rfl) (by kernel_rfl) (by kernel_rfl) (by rfl) (by first | assumption | decide +kernel) (by decide +kernel) ⟨rfl, rfl, rfl, rfl, rfl, by decide +kernel⟩ ?hw ?hc
  case hw => w_witness2
  case hc =>
    refine KX.walk_atG (l := PySem.Challenge.rw_rowsinplace_k90_errors_made) (n := 63) (k := 4) (x := "script") rfl (by decide) (by kernel_rfl) ⟨rfl, by decide, by decide⟩ ?F
    intro w mg fa h Y G hmg0
    obtain ⟨K, KI, c⟩ := Y
    have hmg : mg ("law" : PySem.Str) = some (.ref fa) := by
      have e : (HandSHeadRun.topDef (OpenLaw.row PySem.Challenge.rw_rowsinplace_k90_errors_made).prog 37).name = ("law" : PySem.Str) := by kernel_rfl
      rw [← e]
      exact hmg0
    obtain ⟨fd, hb, hF⟩ := K90.all_ok (P := (PySem.Challenge.rw_rowsinplace_k90_errors_made).prog) (w := w) KI G hmg c
    exact ⟨K, fd, K90.spLaw K, KI, hb, fun H a ns hl _ hS => ⟨a, ns, rfl, hS, hl, fun _ => rfl⟩, hF⟩

