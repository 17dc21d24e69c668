import PyProof.Rows.All
import Wide.All
import OpenK.AllK
import Wide.FinOn
import HandS.ForMost
import HandS.ExcInit
import HandS.Defaults
import HandS.WordsExc
import HandS.Wide
import HandS.EndBits
import HandS.Head0
import HandS.Head1
import HandS.Head2
import HandS.HeadEnd
import HandS.HeadHook1
import HandS.HeadHook2
import KE.KExcInit
import KE.KExcIs
import PyProof.ExcBaseAll.ValueError
import PyProof.ExcBaseAll.LookupError
import PyProof.ReprRoads
import HandS.ExcIs
import HandS.ExcField
import HandS.ExcCtx
import HandS.ExcInitHot
import HandS.HotCalls
import HandS.Star
import KE.GoesMore
import HandS.Walk
import PyProof.FitsInt
import HandS.IsInst
import HandS.Text
import HandS.SetKeys
import HandS.TupAny
import HandS.More
import HandS.TupLe
import PySem.Challenge.RW_rowsinplace_k30_rings
set_option Elab.async false
set_option maxRecDepth 100000
set_option maxHeartbeats 2000000
/-! A hook of our own: one Bool over the written part, and the defs by their places. -/
namespace KX
open PySem PySem.Spec PyProof.Rows L2 He
def lookX (n : Nat) (chk : PySem.W.Frag → Bool) (fn : List DefD) (g : Addr → Option Obj) : Bool × List FnW :=
  let K := frG g (asD g n)
  (chk K && fn.all fun d => d.ok K, fn.map fun d => fnW K d.at_)
def SaysX (chk : PySem.W.Frag → Bool) (fn : List DefD) (K : PySem.W.Frag) : Prop := chk K = true ∧ (fn.all fun d => d.ok K) = true ∧ fn.map (fun d => fnW K d.at_) = fn.map DefD.val
def hookX (n : Nat) (chk : PySem.W.Frag → Bool) (fn : List DefD) : PySem.W.Hook where
  α := Bool × List FnW
  obs := fun s => lookX n chk fn s.heap.get?
  val := fun _ => (true, fn.map DefD.val)
  says := fun _ h => ∃ K : PySem.W.Frag, K.In h ∧ SaysX chk fn K
  of := fun _ s e => by
    refine ⟨frG s.heap.get? (asD s.heap.get? n), frG_in, ?_⟩
    have e1 := congrArg Prod.fst e
    have e2 := congrArg Prod.snd e
    obtain ⟨a, b⟩ := Bool.and_eq_true_iff.mp e1
    exact ⟨a, b, e2⟩
  keeps := fun _ _ _ h k => by
    obtain ⟨K, hK, c⟩ := h
    exact ⟨K, PySem.W.Frag.In.keeps hK k, c⟩
theorem lookX_eq {n : Nat} {chk : PySem.W.Frag → Bool} {fn : List DefD} {g : Addr → Option Obj} {s : Shared} (h : ∀ a, g a = s.heap.get? a) : lookX n chk fn g = (hookX n chk fn).obs s := by
  obtain rfl : g = s.heap.get? := funext h
  rfl
theorem SaysX.fd {chk : PySem.W.Frag → Bool} {fn : List DefD} {K : PySem.W.Frag} (c : SaysX chk fn K) (i : Nat) {d : DefD} (h : fn[i]? = some d := by rfl) :
    ∃ fd, FunD K d.name d.qual d.params d.body d.scope (d.dvs K) (d.kws K) (fAd K d.at_) fd := by
  obtain ⟨_, c2, c3⟩ := c
  have q : (fn.map fun d => fnW K d.at_)[i]? = (fn.map DefD.val)[i]? := congrArg (·[i]?) c3
  rw [List.getElem?_map, List.getElem?_map, h] at q
  exact DefD.funD (Option.some.inj q) (List.all_eq_true.mp c2 d (List.mem_of_getElem? h))
end KX

set_option Elab.async false
set_option maxRecDepth 100000
set_option maxHeartbeats 2000000
/-! What the written part says of an own exception class with an __init__ of its own, as one Bool. -/
namespace KX
open PySem PySem.Spec PyProof.Rows L2 He
structure ExK (K : PySem.W.Frag) (C : Addr) (bmB : List Value) (newId : String) : Prop where
  init : PySem.W.excInitIn K C bmB newId = true
  over : PySem.W.excOver K C bmB = true
  hd : PySem.W.hasDictIn K C = true
  sa : PySem.W.findIn K (.ref C) "__setattr__" = some (some (.builtin "object.__setattr__"))
  ga : PySem.W.findIn K (.ref C) "__getattribute__" = some (some (.builtin "BaseException.__getattribute__"))
  gg : PySem.W.findIn K (.ref C) "__getattr__" = some none
  exC : PySem.W.subIn K (.ref C) (.type "BaseException") = some true
  kC : PySem.W.keepIn K (.ref C) = true
  ha : PySem.W.findIn K (.ref C) "__class__" = some (some (.builtin "object.__class__"))
  hm : PySem.W.mroIn K C (.type "object") = some true
def exkB (K : PySem.W.Frag) (C : Addr) (bmB : List Value) (newId : String) : Bool :=
  PySem.W.excInitIn K C bmB newId && (PySem.W.excOver K C bmB && (PySem.W.hasDictIn K C && (eqO (PySem.W.findIn K (.ref C) "__setattr__") (some (some (.builtin "object.__setattr__")))
  && (eqO (PySem.W.findIn K (.ref C) "__getattribute__") (some (some (.builtin "BaseException.__getattribute__"))) && (eqO (PySem.W.findIn K (.ref C) "__getattr__") (some none)
  && (decide (PySem.W.subIn K (.ref C) (.type "BaseException") = some true) && (PySem.W.keepIn K (.ref C) && (eqO (PySem.W.findIn K (.ref C) "__class__") (some (some (.builtin "object.__class__"))) && decide (PySem.W.mroIn K C (.type "object") = some true)))))))))
theorem exkB_ok {K : PySem.W.Frag} {C : Addr} {bmB : List Value} {newId : String} (h : exkB K C bmB newId = true) : ExK K C bmB newId := by
  obtain ⟨h1, h⟩ := Bool.and_eq_true_iff.mp h
  obtain ⟨h2, h⟩ := Bool.and_eq_true_iff.mp h
  obtain ⟨h3, h⟩ := Bool.and_eq_true_iff.mp h
  obtain ⟨h4, h⟩ := Bool.and_eq_true_iff.mp h
  obtain ⟨h5, h⟩ := Bool.and_eq_true_iff.mp h
  obtain ⟨h6, h⟩ := Bool.and_eq_true_iff.mp h
  obtain ⟨h7, h⟩ := Bool.and_eq_true_iff.mp h
  obtain ⟨h8, h⟩ := Bool.and_eq_true_iff.mp h
  obtain ⟨h9, hA⟩ := Bool.and_eq_true_iff.mp h
  exact ⟨h1, h2, h3, eqO_ok h4, eqO_ok h5, eqO_ok h6, of_decide_eq_true h7, h8, eqO_ok h9, of_decide_eq_true hA⟩
end KX

set_option Elab.async false
set_option maxRecDepth 100000
set_option maxHeartbeats 2000000
/-! Own exception classes over any built-in base, with an __init__ that stores: made as values, read, asked by isinstance. -/
namespace KX
open PySem PySem.Spec PyProof.Rows L2
/-- what is known of the built-in base -/
def Bs (bmB : List Value) (newId : String) : Prop := ∃ B initId, ExcBaseFacts B newId initId bmB ∧ StoreFacts B bmB "object.__setattr__" "object"
theorem bsV : Bs [.type "ValueError", .type "Exception", .type "BaseException", .type "object"] "ValueError.__new__" := ⟨_, _, PySem.F.excBase_ValueError, PySem.F.store_ValueError⟩
theorem bsL : Bs [.type "LookupError", .type "Exception", .type "BaseException", .type "object"] "LookupError.__new__" := ⟨_, _, PySem.F.excBase_LookupError, PySem.F.store_LookupError⟩
section
open Builtin Builtin.ObjectAttr
variable {prog : Program} {w : World} {A : Around} {R : Result → Shared → Prop} {hp : Heap} {g : Array GenState} {dw : Drawn} {tt : Nat} {os : OsState} {K : PySem.W.Frag} {C x t1 : Addr} {bmB : List Value} {newId : String} {f : Str} {tk : Tok} {v : Value}
/-- the first store lays the dict -/
theorem put_first (T : ExK K C bmB newId) (bs : Bs bmB newId) (X : K.In hp) (hx : hp.get? x = some ({ cls := .ref C, dict := none, data := .fields #[.ref t1, .none, .none, .none, .bool false, .none] } : Obj)) (hno : PySem.W.findIn K (.ref C) f = some none)
    (hq : ∀ h' tk' dx, (∀ b o, b ≠ x → hp.get? b = some o → h'.get? b = some o) → hp.objs.size ≤ dx → dx ≠ x → h'.get? x = some ({ cls := .ref C, dict := some dx, data := .fields #[.ref t1, .none, .none, .none, .bool false, .none] } : Obj) →
      h'.Ns1 dx (fun y => if y = f then some v else none) → R (.ok (.ret .none)) ⟨h', g, dw, tk', os⟩) :
    codeAny (model prog w) A (.call (.builtin "object.__setattr__") ⟨[.ref x, .str f tk, v], []⟩) R ⟨hp, g, dw, tt, os⟩ := by
  obtain ⟨B, iid, _, SF⟩ := bs
  have hxs : x ≠ hp.objs.size := Nat.ne_of_lt (Heap.lt_size hx)
  refine PySem.W.osa_openX (s := ⟨hp, g, dw, tt, os⟩) (od := none) (r := none) SF X ⟨hx, rfl, rfl, trivial⟩ T.over (by unfold PySem.W.takerIn; rw [hno] <;> rfl) fun b => ?_
  obtain ⟨cd, hc, hd⟩ := PySem.W.any_some T.hd
  have hcls : PySem.W.Looks (model prog w) hp (classData C) cd := PySem.W.looks_clsIn X hc
  refine wpAny_bind (wpAny_pure (wpAny_bind (PySem.W.instanceDict_exc (s := ⟨hp, g, dw, tt, os⟩) hx hcls hd ?_)))
  refine HandSPX.store_in_new ?_ ?_
  · exact ⟨_, #[], _, (Heap.get?_update_ne _ _ _ _ hxs.symm).trans (Heap.get?_push_at rfl rfl), rfl, fun e he => absurd he (by simp), fun _ => rfl⟩
  · intro h' tk' hn' hs
    have hx1 : (hp.push { cls := .type "dict", data := .dict #[] }).get? x = _ := Heap.get?_push_of_some _ hx
    refine hq h' tk' hp.objs.size (fun b o hb ho => ?_) (Nat.le_refl _) hxs.symm ?_ hn'
    · have z := hs.2 b (Nat.ne_of_lt (Heap.lt_size ho))
      exact z.trans ((Heap.get?_update_ne _ _ _ _ hb).trans (Heap.get?_push_of_some _ ho))
    · exact (hs.2 x hxs).trans (Heap.get?_update_self _ hx1 rfl)
/-- a later one -/
theorem put_more {dx : Addr} {m0 : Str → Option Value} {nl : List Str} (T : ExK K C bmB newId) (bs : Bs bmB newId) (X : K.In hp) (hx : hp.get? x = some ({ cls := .ref C, dict := some dx, data := .fields #[.ref t1, .none, .none, .none, .bool false, .none] } : Obj))
    (hns : hp.Ns1 dx m0) (hw : Within m0 nl) (hz : nl.length ≤ 1000) (hno : PySem.W.findIn K (.ref C) f = some none)
    (hq : ∀ h' tk', (∀ b o, b ≠ dx → hp.get? b = some o → h'.get? b = some o) → h'.Ns1 dx (fun y => if y = f then some v else m0 y) → R (.ok (.ret .none)) ⟨h', g, dw, tk', os⟩) :
    codeAny (model prog w) A (.call (.builtin "object.__setattr__") ⟨[.ref x, .str f tk, v], []⟩) R ⟨hp, g, dw, tt, os⟩ := by
  obtain ⟨B, iid, _, SF⟩ := bs
  obtain ⟨oD, esD, epD, hoD, hdD, _⟩ := hns.count hw
  refine PySem.W.osa_openX (s := ⟨hp, g, dw, tt, os⟩) (od := some oD) (r := none) SF X ⟨hx, rfl, rfl, hoD⟩ T.over (by unfold PySem.W.takerIn; rw [hno] <;> rfl) fun b => ?_
  obtain ⟨cd, hc, hd⟩ := PySem.W.any_some T.hd
  have hcls : PySem.W.Looks (model prog w) hp (classData C) cd := PySem.W.looks_clsIn X hc
  obtain ⟨c1, c2, c3, c4, c5, c6, c7, c8, c9, cA, cB⟩ := cd
  dsimp only at hd
  subst hd
  show wpAny _ _ (storeInOwnDict _ _ _ _ _ _) _ _ _
  unfold storeInOwnDict ownDictForStores
  repeat (first | with_reducible refine PySem.OEX.store_in_old hns hw hz ?_ | with_reducible refine wpAny_loadPart_at hx ?_ | with_reducible refine hcls.at ?_ | wp_step)
  intro h' tk' hn' hs
  exact hq h' tk' (fun b o hb ho => (hs.2 b hb).trans ho) hn'
end
section
variable {X : Cx} {pins : List (Addr × Obj)} {σ : L2.St} {H : Hp} {s : Shared} {a C dx : Addr} {f : Str} {y : V} {u : Value} {fs : List (Str × V)} {Q : Unit → Shared → Prop} {E : Value → Shared → Prop} {A : Around} {bmB : List Value} {newId : String}
/-- an exception's object gets a dict that is new -/
theorem inv_dict {h' : Heap} {tk : Nat} {t1 : Addr} {od : HO} (I : Inv X pins σ H s) (e : H a = some (exo a C none)) (k : ∀ b o, b ≠ a → s.heap.get? b = some o → h'.get? b = some o) (dn : s.heap.objs.size ≤ dx) (dne : dx ≠ a)
    (hx : h'.get? a = some ({ cls := .ref C, dict := some dx, data := .fields #[.ref t1, .none, .none, .none, .bool false, .none] } : Obj)) (new : ∀ G : Hp, ObjOk X.prog X.w G h' dx od) :
    Inv X pins σ (upd (upd H dx od) a (exo a C (some dx))) { s with heap := h', toks := tk } := by
  have hnd : H dx = none := I.hok.fresh dn
  have hH : ∀ b, b ≠ a → b ≠ dx → upd (upd H dx od) a (exo a C (some dx)) b = H b := fun b n1 n2 => (upd_ne n1).trans (upd_ne n2)
  have na : ∀ b, H b = none → b ≠ a := fun b n z => by
    subst z
    exact nomatch n.symm.trans e
  have nd : ∀ b o, s.heap.get? b = some o → b ≠ dx := fun b o q => Nat.ne_of_lt (Nat.lt_of_lt_of_le (Heap.lt_size q) dn)
  have nk : ∀ b o, H b = some o → o ≠ exo a C none → upd (upd H dx od) a (exo a C (some dx)) b = some o := fun b o q n => by
    rw [hH b (ne_of q e n) (ne_of_none q hnd)]
    exact q
  refine I.un ⟨fun b o q n _ _ => k b o (na b n) q, fun b o q n _ _ => ⟨o.slots, k b o (na b n) q⟩, fun b o q n _ => ?_, fun b o q _ => ?_, fun b xs q => nk b _ q (Ne.symm exo_tup), fun b o v q => nk b _ q (Ne.symm exo_frz), fun b ps q => ⟨#[], ?_⟩⟩ fun b o q => ?_
  · rw [hH b (na b n) (nd b o q)]
    exact n
  · by_cases hb : b = a
    · subst hb
      exact ⟨_, hx⟩
    · exact ⟨o, k b o hb q⟩
  · rw [nk b _ q (Ne.symm exo_tbl)]
    simp
  · by_cases hb : b = a
    · subst hb
      obtain rfl := Option.some.inj (upd_same.symm.trans q)
      exact exo_ok hx
    · rw [upd_ne hb] at q
      by_cases hd : b = dx
      · subst hd
        obtain rfl := Option.some.inj (upd_same.symm.trans q)
        exact new _
      · rw [upd_ne hd] at q
        refine (I.hok b o q).stay (fun c v hc z => k c v ?_ z) (fun c hc => nk c _ hc (Ne.symm exo_own)) fun c xs hc => nk c _ hc (Ne.symm exo_tup)
        rcases hc with rfl | hc
        · exact hb
        · exact ne_of hc e (Ne.symm exo_own)
/-- self.f = y, the first one -/
theorem st_first (T : ExK X.K C bmB newId) (bs : Bs bmB newId) (I : Inv X pins σ H s) (e : H a = some (exo a C none)) (hno : PySem.W.findIn X.K (.ref C) f = some none) (ry : RelV y u)
    (h : ∀ d s', H d = none → d ≠ a → Inv X pins σ (upd (upd H d (exd d [(f, y)])) a (exo a C (some d))) s' → Q () s') : wpAny (model X.prog X.w) A (setAttr (.ref a) f u) Q E s := by
  obtain ⟨t1, ho⟩ := exo_at I.hok e
  obtain ⟨hp, g, d, t, os⟩ := s
  refine PySem.W.set_plain (od := none) I.kIn ⟨ho, rfl, rfl, trivial⟩ T.sa ?_
  refine put_first T bs I.kIn ho hno fun h' tk' dx k dn dne hx hn => ?_
  exact h dx _ (I.hok.fresh dn) dne (inv_dict I e k dn dne hx fun G => exd_ok hn (relO_put (fs := []) ry fun _ => True.intro))
/-- self.f = y, a further one -/
theorem st_more (T : ExK X.K C bmB newId) (bs : Bs bmB newId) (I : Inv X pins σ H s) (e : H a = some (exo a C (some dx))) (ed : H dx = some (exd dx fs)) (hl : fs.length ≤ 900) (hno : PySem.W.findIn X.K (.ref C) f = some none) (ry : RelV y u)
    (h : ∀ s', Inv X pins σ (upd H dx (exd dx ((f, y) :: fs))) s' → Q () s') : wpAny (model X.prog X.w) A (setAttr (.ref a) f u) Q E s := by
  obtain ⟨t1, ho⟩ := exo_at I.hok e
  obtain ⟨mA, hns, rel⟩ := exd_at I.hok ed
  have hw := within_of rel
  obtain ⟨hp, g, d, t, os⟩ := s
  obtain ⟨oD, _, _, hoD, _⟩ := hns.count hw
  refine PySem.W.set_plain (od := some oD) I.kIn ⟨ho, rfl, rfl, hoD⟩ T.sa ?_
  refine put_more T bs I.kIn ho hns hw (by rw [List.length_map]; omega) hno fun h' tk' k hn => ?_
  have hd : ∃ o, h'.get? dx = some o := let ⟨o, _, _, z, _⟩ := hn; ⟨o, z⟩
  exact h _ (I.write (t' := tk') (e := dx) (by rw [ed]; exact True.intro) (.inl rfl) k hd (exd_ok hn (relO_put ry rel)))
end
/-- self.f = e -/
def tSt (K : PySem.W.Frag) (f : Str) (to te : TE) : TS := fun D σ H => te σ H fun y H1 => to σ H1 fun x H2 => ∃ (a C : Addr) (bmB : List Value) (newId : String), x = .ref a ∧ ExK K C bmB newId ∧ Bs bmB newId ∧ PySem.W.findIn K (.ref C) f = some none ∧
  ((H2 a = some (exo a C none) ∧ ∀ d, H2 d = none → d ≠ a → D.nx σ (upd (upd H2 d (exd d [(f, y)])) a (exo a C (some d)))) ∨
    ∃ (d : Addr) (fs : List (Str × V)), H2 a = some (exo a C (some d)) ∧ H2 d = some (exd d fs) ∧ fs.length ≤ 900 ∧ D.nx σ (upd H2 d (exd d ((f, y) :: fs))))
/-- C(e, ..) as a value -/
def tMkV (C : Addr) (sp : Sp) (ta : TA) : TE := fun σ H Q => ta σ H fun vs H1 => vs.length ≤ 1000 ∧ ∀ a, H1 a = none → sp (.ref a :: vs) (upd H1 a (exo a C none)) (fun v H2 => v = .non ∧ Q (.ref a) H2) (fun _ _ _ => False)
/-- e.f of an own exception -/
def tXv (K : PySem.W.Frag) (f : Str) (te : TE) : TE := fun σ H Q => te σ H fun x H1 => ∃ (a C d : Addr) (bmB : List Value) (newId : String) (fs : List (Str × V)) (v : V), x = .ref a ∧ H1 a = some (exo a C (some d)) ∧ H1 d = some (exd d fs) ∧ ExK K C bmB newId ∧ PySem.W.findIn K (.ref C) f = some none ∧ fs.lookup f = some v ∧ Q v H1
section
variable {X : Cx} {o e : Expr} {es : List Expr} {to te : TE} {ta : TA} {f : Str} {p p' p1 p2 pos : Pos}
theorem ps_st (ho : PE X o to) (he : PE X e te) (hs : swapsWith e (some (.Attribute o f p')) pos.line X.env = pure false := by rfl) : PS X (.Assign [.Attribute o f p'] e pos) (tSt X.K f to te) := by
  refine ⟨fun pins s σ H D I h => plainObj_wpAny_Assign_Attribute (thn (he.run pins s σ H _ I h) fun v s1 ⟨y, H1, I1, r1, q1⟩ => thn (ho.run pins s1 σ H1 _ I1 q1) fun u s2 hh => ?_) hs⟩
  obtain ⟨x, H2, I2, r2, a, C, bmB, nid, rfl, T, bs, hno, q⟩ := hh
  obtain rfl : u = Value.ref a := r2
  rcases q with ⟨ea, q⟩ | ⟨d, fs, ea, ed, hl, q⟩
  · exact st_first T bs I2 ea hno r1 fun d s' n ne J => ⟨σ, _, J, q d n ne⟩
  · exact st_more T bs I2 ea ed hl hno r1 fun s' J => ⟨σ, _, J, q⟩
theorem pe_mkv {CX : CXT} {x : Str} {C fI : Addr} {k : Nat} {fd : FuncData} {ps : List Str} {sp : Sp} {bmB : List Value} {newId : String} (T : ExK X.K C bmB newId) (bs : Bs bmB newId) (iC : PySem.W.findIn X.K (.ref C) "__init__" = some (some (.ref fI))) (tI : PySem.W.isFn X.K (.ref fI) = true)
    (G : FnOk X.prog X.w X.K X.mg X.base CX k fI fd ps sp) (hr : Room (k + 1) X.A) (hb : Binds X.K fd ps []) (hx : Passes CX X (fun _ _ _ => False)) (hg : Gl X x) (hm : X.mg x = some (.ref C)) (ha : PA X (e :: es) ta)
    (hdb : (x == ("__debug__" : Str)) = false := by decide) (he : starEach (e :: es) X.env = (false, eval e X.env) :: starEach es X.env := by rfl) (hpl : (backTo pos (starEach es X.env)).any (·.1) = false := by rfl) :
    PE X (.Call (.Name x p) (e :: es) [] pos) (tMkV C sp ta) := by
  refine ⟨fun pins s σ H Q I h => ?_⟩
  refine wpAny_Call_Name_kw (ld_glob I hg hm ?_ hdb)
  refine PySem.W.callWith_K (h₀ := X.base) I.ok.mod.kin T.kC (thn (ha.run pos pins s σ H _ I h) fun us s1 hh => ?_) he hpl
  obtain ⟨vs, H1, I1, r1, hz, q1⟩ := hh
  refine ⟨I1.kIn, ?_⟩
  obtain ⟨B, iid, FB, SF⟩ := bs
  obtain ⟨nm, N', qn, bs', bm, hdct, sn, sub, ab, col, dd, k0, k1, k2, k3, k5, hC, hT⟩ := PySem.W.excInit_of I1.kIn T.init
  obtain ⟨oI, hoI, hcI⟩ : ∃ oI, s1.heap.get? fI = some oI ∧ oI.cls = .type "function" := by
    obtain ⟨oo, h1, h2⟩ := Option.map_eq_some_iff.mp (show (X.K.lookup fI).map (·.cls) = some (.type "function") from beq_iff_eq.mp tI)
    exact ⟨oo, I1.kIn _ _ h1, h2⟩
  obtain ⟨hp, g, dr, tk, os⟩ := s1
  have kk : ∀ b u, hp.get? b = some u → ((hp.push (PySem.W.kdv_tup us)).push (PySem.HandSPX.excO C hp.objs.size)).get? b = some u := fun b u z => Heap.get?_push_of_some _ (Heap.get?_push_of_some _ z)
  have hget : ((hp.push (PySem.W.kdv_tup us)).push (PySem.HandSPX.excO C hp.objs.size)).get? (hp.objs.size + 1) = some (PySem.HandSPX.excO C hp.objs.size) := by heap_get
  have I2 : Inv X pins σ (upd H1 (hp.objs.size + 1) (exo (hp.objs.size + 1) C none)) ⟨(hp.push (PySem.W.kdv_tup us)).push (PySem.HandSPX.excO C hp.objs.size), g, dr, tk, os⟩ := I1.laid (t' := tk) kk (Nat.le_succ _) (exo_ok hget)
  have hq := q1 (hp.objs.size + 1) (I1.hok.fresh (Nat.le_succ _))
  have r2 : Vals (V.ref (hp.objs.size + 1) :: vs) (Value.ref (hp.objs.size + 1) :: us) := .cons rfl r1
  have hl : (Value.ref (hp.objs.size + 1) :: us ++ []).length = ps.length := by
    rw [List.append_nil, ← r2.length]
    exact G.len _ _ _ _ hq
  have hus : us.length ≤ sizeLine := by
    rw [← Paired.length r1, sizeLine_eq]
    omega
  have hbi := hb _ (Value.ref (hp.objs.size + 1) :: us) I2.kIn hl
  rw [List.append_nil] at hbi
  refine wpAny_call (PySem.HandSPX.call_own FB hT hC (PySem.W.looks_findIn I1.kIn iC) (fun self => PySem.W.exc_bind hoI hcI self) hus (codeAny_mono (G.run _ X.stack _ _ _ _ _ _ (fun _ _ _ => False) (hr.make C us []) (I2.env0.make C us []) hbi r2 hq) fun r s' hq' => ?_))
  cases r with
  | error er => exact hx pins σ _ _ er s' I2 hq'
  | ok fl =>
    cases fl with
    | ret u =>
      obtain ⟨v, H2, os2, bare2, un2, hok2, rv, rfl, q2⟩ := hq'
      exact ⟨rv, .ref (hp.objs.size + 1), H2, I2.call' (ch := []) os2 un2 hok2 bare2 (fun b z => absurd z (by simp)), rfl, q2⟩
    | next => exact False.elim hq'
    | brk => exact False.elim hq'
    | cont => exact False.elim hq'
theorem pe_xv (he : PE X e te) (hb : attributeBase e f X.env (eval e X.env) = eval e X.env := by rfl) : PE X (.Attribute e f pos) (tXv X.K f te) := by
  refine ⟨fun pins s σ H Q I h => attr_of hb (thn (he.run pins s σ H _ I h) fun u s1 hh => ?_)⟩
  obtain ⟨x, H1, I1, rx, a, C, d, bmB, nid, fs, v, rfl, ea, ed, T, hno, l, q⟩ := hh
  obtain rfl : u = Value.ref a := rx
  obtain ⟨t1, ho⟩ := exo_at I1.hok ea
  obtain ⟨mA, hns, rel⟩ := exd_at I1.hok ed
  obtain ⟨od, h1, h2⟩ := lookIn_ns hns
  obtain ⟨u, hu, ru⟩ := RelO.some_of (v := v) (o := mA f) (by rw [← l]; exact rel f)
  exact HandSPX.exc_get I1.kIn ⟨ho, rfl, rfl, h1⟩ T.ga T.gg T.exC (PySem.W.findObj_own T.hd hno rfl (by rw [h2, hu])) (handed_of ru) ⟨v, H1, I1.tok _, ru, q⟩
end
end KX

set_option Elab.async false
set_option maxRecDepth 100000
set_option maxHeartbeats 2000000
/-! repr of nested data where no repr is running yet; isinstance of an own exception; defs that want to know that no repr is running. -/
namespace KX
open PySem PySem.Spec PyProof.Rows L2
/-- repr(data) -/
def rRepr (K : PySem.W.Frag) : List V → Hp → VK → Prop := fun xs H Q => ∃ (a : Addr) (d : PyData), xs = [.ref a] ∧ Dp K H (.ref a) d ∧ d.showable = true ∧ d.hasDict = false ∧ d.depth ≤ 8 ∧ d.shown.length ≤ sizeLine ∧ Q (.str d.shown) H
theorem call_repr {X : Cx} (hg : X.A.guards = some []) (hu : X.A.units + 10 < cLine) : CallR X (.builtin "repr") (rRepr X.K) := by
  intro pins s σ H xs us Q I r h
  obtain ⟨a, d, rfl, hd, h1, h2, h3, h4, q⟩ := h
  obtain ⟨u, rfl, ru⟩ := vals1 r
  obtain rfl : u = Value.ref a := ru
  obtain ⟨as, rd⟩ := Dp.reads I d _ _ hd rfl
  exact repr_of_reads' rd h1 (PyData.noDict_hsm h2) hg (by omega) (fun _ _ e => e) (fun h' u tk hk => ⟨.str d.shown, H, I.kept (t' := tk) hk, ⟨_, rfl⟩, q⟩) h4
/-- isinstance(e, c) of an own exception e -/
def rIsX (K : PySem.W.Frag) : List V → Hp → VK → Prop := fun xs H Q => ∃ (a C d : Addr) (bmB : List Value) (nid : String) (fs : List (Str × V)) (c : V) (cv : Value) (b : Bool), xs = [.ref a, c] ∧ H a = some (exo a C (some d)) ∧ H d = some (exd d fs) ∧ ExK K C bmB nid ∧
  PySem.W.specialIn K (.builtin "object.__class__") "__get__" = some (some (.builtin "getset_descriptor.__get__")) ∧ PySem.W.takesIn K (.builtin "object.__class__") = some true ∧ (∀ u, RelV c u → u = cv) ∧ PySem.W.kitOne K (.ref C) cv = some b ∧ Q (.bl b) H
theorem call_isX {X : Cx} : CallR X (.builtin "isinstance") (rIsX X.K) := by
  intro pins s σ H xs us Q I r h
  obtain ⟨a, C, d, bmB, nid, fs, c, cv, b, rfl, ea, ed, T, sp, tk, hcv, e, q⟩ := h
  cases r with
  | cons rx rr => cases rr with
    | cons rt rr =>
      cases rr
      cases rx
      obtain rfl := hcv _ rt
      obtain ⟨t1, ho⟩ := exo_at I.hok ea
      obtain ⟨mA, hns, rel⟩ := exd_at I.hok ed
      obtain ⟨od, h1, _⟩ := lookIn_ns hns
      obtain ⟨cd, hc, _⟩ := PySem.W.any_some T.hd
      exact PySem.W.kia_one (PySem.W.kitx_exc (od := some od) (by rw [hc] <;> rfl) T.ga T.gg T.exC T.ha sp tk T.hm) I.kIn ⟨ho, rfl, rfl, h1⟩ e (fun z => nomatch z) fun tk' => ⟨.bl b, H, I.kept (t' := tk') fun _ _ z => z, rfl, q⟩
end KX

set_option Elab.async false
set_option maxRecDepth 100000
set_option maxHeartbeats 2000000
namespace KX
open PySem PySem.Spec PyProof.Rows L2
/-- a def's promise where no repr is running -/
structure FnG (P : Program) (w : World) (K : PySem.W.Frag) (mg : Str → Option Value) (base : Heap) (CX : CXT) (k : Nat) (f : Addr) (fd : FuncData) (ps : List Str) (sp : Sp) : Prop where
  len : ∀ vs H Q E, sp vs H Q E → vs.length = ps.length
  run : ∀ (A : Around) (outer : List Env) (s : Shared) (H : Hp) (args : Args) (us : List Value) (vs : List V) (Q : VK) (E : XK), A.guards = some [] → Room k A →
    Env0 P w K mg base A outer s H → BindsTo s fd args (ps.zip us) → Vals vs us → sp vs H Q E → codeAny (model P w) A (.call (.ref f) args) (CR CX outer P w H s Q E) s
section
variable {P : Program} {w : World} {K : PySem.W.Frag} {mg : Str → Option Value} {base : Heap} {CX : CXT} {k : Nat} {f : Addr} {fd : FuncData} {ps : List Str} {sp : Sp}
theorem FnG.of (F : FnOk P w K mg base CX k f fd ps sp) : FnG P w K mg base CX k f fd ps sp :=
  ⟨F.len, fun A outer s H args us vs Q E _ => F.run A outer s H args us vs Q E⟩
/-- the rule for a def whose body may use that no repr is running -/
theorem fnG_ok {x qual : Str} {params : Arguments} {body : List Stmt} {scope : Scope} {dvs : List V} {kws : List (Str × V)} {N : List Str} (F : FunD K x qual params body scope dvs kws f fd) (S : FnScope N ps scope)
    (len : ∀ vs H Q E, sp vs H Q E → vs.length = ps.length)
    (hbody : ∀ (cdv : Value) (A : Around) (outer : List Env) (s : Shared) (H : Hp) (vs : List V) (Q : VK) (E : XK),
      A.guards = some [] → Room k (A.deeper (envOfC qual scope s.heap.objs.size f cdv)) → sp vs H Q E →
      ∃ t, PSs (cxOf CX P w K mg base N qual scope f cdv A outer s H E) body t ∧ t { nx := fun _ G => Q .non G, rt := Q } (start N vs) H) :
    FnG P w K mg base CX (k + 1) f fd ps sp := by
  obtain ⟨oc, od, dV, kV, doc, pm, an, cdv, ct, osl, rfl, lk, hcd, _, _⟩ := F.ex
  constructor
  · exact len
  intro A outer s H args us vs Q E hg hr e0 hb r hsp
  have hn := len _ _ _ _ hsp
  have keep : ∀ b o, base.get? b = some o → s.heap.get? b = some o := fun b o z => (e0.bs b o z).1
  have hK : K.In s.heap := e0.mod.kin.keeps keep
  have hL : s.heap.NoLimit := e0.mod.nolimit.keeps keep
  refine codeAny_call_function hr.depth (hK _ _ lk) rfl S.co S.gen rfl (PySem.W.codeRec_of hK hcd) (hb _ _ _ _ ?_)
  refine wpAny_newFunctionEnv_cells S.kind (fun y hy => ?_) fun env he s1 x => ?_
  · rcases S.par y.1 (List.of_mem_zip (show (y.1, y.2) ∈ ps.zip us from hy)).1 with z | z
    · exact Or.inl z
    · exact Or.inr ⟨z, PySem.W.cellsFrom_some _ _ _ (Or.inl z)⟩
  · subst he
    refine ⟨hL.keeps x.toInCall.keep, codeAny_func ?_⟩
    obtain ⟨t, ht, hq⟩ := hbody cdv A outer s H vs Q E hg (hr.deeper _) hsp
    have I0 := inv_start (CX := CX) (E := E) S hr.hd e0 hn r x
    refine wpAny_mono (ht.run [] s1 (start N vs) H _ I0 hq) (fun fl s' z => ?_) fun _ _ z => z
    match fl, z with
    | .ret u, ⟨v, σ', G, J, rv, qv⟩ => exact ⟨v, G, J.os, J.bare, J.base, J.hok, rv, qv⟩
    | .next, ⟨σ', G, J, qv⟩ => exact ⟨.non, G, J.os, J.bare, J.base, J.hok, rfl, qv⟩
    | .brk, ⟨_, _, _, qv⟩ => exact False.elim qv
    | .cont, ⟨_, _, _, qv⟩ => exact False.elim qv
end
section
variable {X : Cx} {CX : CXT} {k : Nat} {f : Addr} {fd : FuncData} {ps : List Str} {sp : Sp} {dvs : List V} {ds : List Value} {E : XK} {x : Str} {p pos : Pos} {e : Expr} {es : List Expr} {t : TA}
/-- f(e, ..) where no repr is running -/
theorem pe_callG (F : FnG X.prog X.w X.K X.mg X.base CX k f fd ps sp) (gg : X.A.guards = some []) (hr : Room k X.A) (hg : Gl X x) (hm : X.mg x = some (.ref f)) (hk : PySem.W.keepIn X.K (.ref f) = true) (hb : Binds X.K fd ps ds) (hd : Vals dvs ds)
    (hx : Passes CX X E) (ha : PA X (e :: es) t) (hdb : (x == ("__debug__" : Str)) = false := by decide) (he : starEach (e :: es) X.env = (false, eval e X.env) :: starEach es X.env := by rfl)
    (hpl : (backTo pos (starEach es X.env)).any (·.1) = false := by rfl) : PE X (.Call (.Name x p) (e :: es) [] pos) (tCall sp dvs E t) := by
  constructor
  intro pins s σ H Q I h
  refine wpAny_Call_Name_kw (ld_glob I hg hm ?_ hdb)
  refine PySem.W.callWith_K (h₀ := X.base) I.ok.mod.kin hk (thn (ha.run pos pins s σ H _ I h) fun us s1 hh => ?_) he hpl
  obtain ⟨vs, H1, I1, r, q⟩ := hh
  refine ⟨I1.kIn, ?_⟩
  have r2 : Vals (vs ++ dvs) (us ++ ds) := r.append hd
  have hl : (us ++ ds).length = ps.length := r2.length.symm.trans (F.len _ _ _ _ q)
  refine wpAny_call (codeAny_mono (F.run X.A X.stack s1 H1 ⟨us, []⟩ _ _ Q E gg hr I1.env0 (hb s1 us I1.kIn hl) r2 q) fun res s' z => ?_)
  match res, z with
  | .error er, z => exact hx pins σ H1 s1 er s' I1 z
  | .ok (.ret u), z => exact I1.after z
  | .ok .next, z => exact False.elim z
  | .ok .brk, z => exact False.elim z
  | .ok .cont, z => exact False.elim z
end
/-! ### the law's own call -/
theorem law_atG {P : Program} {w : World} {K : PySem.W.Frag} {mg mb : Str → Option Value} {k : Nat} {fa a : Addr} {fd : FuncData} {x : Str} {sp : Sp} {s1 : Shared} {vs : List Value} {ns : List Int}
    (KI : K.In s1.heap) (hns : s1.heap.Ns mainGlobals mg) (hb : s1.heap.Ns builtinsNs mb) (hbb : ∀ x : Str, x ≠ "__name__" → mb x = bootBuiltins x) (hlim : s1.heap.NoLimit) (hg : s1.gens = #[])
    (ha : s1.heap.get? a = some { cls := .type "list", data := .seq vs.toArray }) (hi : IntsAre vs ns) (hl : ns.length ≤ sizeLine) (hr : Room k callerA)
    (F : ∀ base : Heap, K.In base → base.Ns mainGlobals mg → FnG P w K mg base CX0 k fa fd [x] sp) (hbind : ∀ (s : Shared) (u : Value), BindsTo s fd ⟨[u], []⟩ [(x, u)])
    (hsp : ∀ H : Hp, SqL K H a (ns.map V.int) → sp [.ref a] H (fun v _ => v = .bl true) E0) :
    codeAny (model P w) callerA (.call (.ref fa) ⟨[.ref a], []⟩) (fun r s' => r = .ok (.ret (.bool true)) ∧ PySem.OldK s1.heap s'.heap ∧ s'.os = s1.os ∧ AllBare s'.gens) s1 := by
  have rv := vals_ints hi
  have frozen : ∀ H : Hp, (∀ b u, H b = some u → b = a ∧ u = .frz { cls := .type "list", data := .seq vs.toArray } (.lst (ns.map V.int)) ∧ K.lookup a = none) → SqL K H a (ns.map V.int) →
      codeAny (model P w) callerA (.call (.ref fa) ⟨[.ref a], []⟩) (fun r s' => r = .ok (.ret (.bool true)) ∧ PySem.OldK s1.heap s'.heap ∧ s'.os = s1.os ∧ AllBare s'.gens) s1 := by
    intro H hH hS
    have free : ∀ b o, s1.heap.get? b = some o → (b = a → K.lookup a ≠ none ∨ (∀ its n, o.data ≠ .seq its n)) → H b = none := by
      intro b o e n
      cases q : H b with
      | none => rfl
      | some u =>
        obtain ⟨rfl, _, z3⟩ := hH b u q
        rw [ha] at e
        obtain rfl := Option.some.inj e
        rcases n rfl with n | n
        · exact absurd z3 n
        · exact absurd rfl (n vs.toArray _)
    have inK : K.In (hidT s1.heap H) := fun b o e => hidT_get (KI b o e) (free b o (KI b o e) fun z => .inl (by rw [← z, e]; simp))
    have nsOk : ∀ {b : Addr} {m : Str → Option Value}, s1.heap.Ns b m → (hidT s1.heap H).Ns b m := by
      rintro b m ⟨o, es, ep, e, d, r⟩
      exact ⟨o, es, ep, hidT_get e (free b o e fun _ => .inr fun its n z => by rw [d] at z; cases z), d, r⟩
    have hok : HOk P w H s1.heap := by
      intro b u q
      obtain ⟨rfl, rfl, _⟩ := hH b u q
      exact ⟨ha, by rw [List.length_map]; exact hl, vs, _, rv, ha⟩
    have md : Mod K mg (hidT s1.heap H) := ⟨inK, nsOk hns, ⟨mb, nsOk hb, hbb⟩, by
      obtain ⟨mc, h1, h2⟩ := hlim
      exact ⟨mc, nsOk h1, h2⟩⟩
    have e0 : Env0 P w K mg (hidT s1.heap H) callerA [] s1 H :=
      ⟨rfl, md, fun b o e => of_hidT e, Nat.le_of_eq (hidT_size _ _), trivial, fun b z => absurd (show b ∈ ([] : List Addr) from z) (by simp), hok, .of_eq hg⟩
    have go := (F _ inK (nsOk hns)).run callerA [] s1 H ⟨[.ref a], []⟩ [.ref a] [.ref a] _ _ rfl hr e0 (hbind s1 (.ref a)) (.cons rfl .nil) (hsp H hS)
    refine codeAny_mono go fun r s' z => ?_
    match r, z with
    | .error _, z => exact False.elim z
    | .ok .next, z => exact False.elim z
    | .ok .brk, z => exact False.elim z
    | .ok .cont, z => exact False.elim z
    | .ok (.ret u), ⟨v, G, os, bare, un, hok', rr, qv⟩ =>
      obtain rfl : v = .bl true := qv
      obtain rfl : u = Value.bool true := rr
      refine ⟨rfl, PySem.OldK.of_keep fun b o e => ?_, os, bare⟩
      cases q : H b with
      | none => exact un.keep b o e q (fun z => absurd (show b ∈ ([] : List Addr) from z) (by simp)) (by simp)
      | some t =>
        obtain ⟨rfl, rfl, _⟩ := hH b t q
        obtain ⟨e2, _⟩ := hok' _ _ (un.frzs _ _ _ q)
        exact e2.trans (ha.symm.trans e)
  cases hk : K.lookup a with
  | none =>
    refine frozen (fun b => if b = a then some (.frz { cls := .type "list", data := .seq vs.toArray } (.lst (ns.map V.int))) else none) (fun b u z => ?_) (.inl (.inr ⟨_, if_pos rfl⟩))
    by_cases hba : b = a
    · exact ⟨hba, (Option.some.inj ((if_pos hba).symm.trans z)).symm, hk⟩
    · exact nomatch (if_neg hba).symm.trans z
  | some o =>
    have e := KI a o hk
    rw [ha] at e
    obtain rfl := Option.some.inj e
    exact frozen (fun _ => none) (fun b u z => nomatch (show (none : Option HO) = some u from z))
      (.inr ⟨_, vs.toArray, _, hk, rfl, rfl, rfl, by rw [List.size_toArray, hi.length]; exact hl, by simpa using rv⟩)
/-- the goal that a head leaves, by the law's promise -/
theorem walk_atG {l : PySem.W.OpenLaw} {n k : Nat} {q : Program} {loose : List Str} {XP : (Str → Option Value) → Heap → Prop} {YP : World → Heap → Prop} {d : DefRec} {x : Str}
    (hn : l.most = some n) (hn2 : n ≤ sizeLine) (hdf : d.params.defaults = []) (hr : Room k callerA)
    (F : ∀ (w : World) (mg : Str → Option Value) (fa : Addr) (h : Heap), YP w h → h.Ns mainGlobals mg → mg d.name = some (.ref fa) →
      ∃ (K : PySem.W.Frag) (fd : FuncData) (sp : Sp), K.In h ∧ (∀ (s : Shared) (u : Value), BindsTo s fd ⟨[u], []⟩ [(x, u)]) ∧
        (∀ (H : Hp) (a : Addr) (ns : List Int), ns.length ≤ n → (∀ z ∈ ns, Builtin.Int.intBits z ≤ 1048576) → SqL K H a (ns.map V.int) → sp [.ref a] H (fun v _ => v = .bl true) E0) ∧
        ∀ base : Heap, K.In base → base.Ns mainGlobals mg → FnG l.prog w K mg base CX0 k fa fd [x] sp) :
    PySem.W.WalkO q loose XP YP l.row.toRowW d [] (fun f vs => PySem.call f vs) := by
  refine Att.attach_callB hn hdf fun w s₀ s₁ mg mb fa o pm cd doc a vs ns G Y ho hd hcd hmg hobj hints hlen hbits hg => ?_
  obtain ⟨K, fd, sp, KI, hb, hsp, hF⟩ := F w mg fa _ Y G.T.g hmg
  exact law_atG KI G.T.g G.T.b G.T.builtins G.T.nolimit hg hobj hints (Nat.le_trans hlen hn2) hr hF hb fun H hS => hsp H a ns hlen hbits hS
end KX

set_option Elab.async false
set_option maxRecDepth 100000
set_option maxHeartbeats 2000000
/-! The bag that a law draws from: what stands in it, what is promised of a draw. -/
namespace KX
open PySem PySem.Spec PyProof.Rows L2
/-- the bag at b: digits, a seed, a count of at most n -/
def Bag (H : Hp) (b : Addr) (n : Int) : Prop := ∃ d m c : Int, H b = some (.lst [.int d, .int m, .int c]) ∧ 0 ≤ d ∧ 0 ≤ m ∧ m < 2 ^ 61 ∧ 0 ≤ c ∧ c ≤ n
/-- all but b is as it was -/
def But (b : Addr) (H H' : Hp) : Prop := ∀ x, x ≠ b → H' x = H x
/-- what was tracked is as it was, but b -/
def Kept (b : Addr) (H H' : Hp) : Prop := ∀ x o, x ≠ b → H x = some o → H' x = some o
theorem But.kept {b : Addr} {H H' : Hp} (h : But b H H') : Kept b H H' := fun x o n e => (h x n).trans e
theorem Kept.refl (b : Addr) (H : Hp) : Kept b H H := fun _ _ _ e => e
theorem Kept.trans {b : Addr} {H H1 H2 : Hp} (h : Kept b H H1) (k : Kept b H1 H2) : Kept b H H2 := fun x o n e => k x o n (h x o n e)
theorem Kept.new {b p : Addr} {H : Hp} {o : HO} (h : H p = none) : Kept b H (upd H p o) := fun x u _ e => by
  rw [upd_ne (ne_of_none e h)]
  exact e
theorem Kept.seq {K : PySem.W.Frag} {b a : Addr} {H H' : Hp} {xs : List V} (k : Kept b H H') (n : a ≠ b) (h : SqL K H a xs) : SqL K H' a xs := by
  rcases h with (h | ⟨o, h⟩) | h
  · exact .inl (.inl (k _ _ n h))
  · exact .inl (.inr ⟨o, k _ _ n h⟩)
  · exact .inr h
theorem Bag.some {H : Hp} {b : Addr} {n : Int} (h : Bag H b n) : ∃ o, H b = some o := let ⟨_, _, _, e, _⟩ := h; ⟨_, e⟩
theorem Bag.ne {H : Hp} {b p : Addr} {n : Int} (h : Bag H b n) (hp : H p = none) : p ≠ b := by
  obtain ⟨o, e⟩ := h.some
  exact (ne_of_none e hp).symm
theorem Bag.put {H : Hp} {b p : Addr} {n : Int} {o : HO} (h : Bag H b n) (hp : p ≠ b) : Bag (upd H p o) b n := by
  obtain ⟨d, m, c, e, r⟩ := h
  exact ⟨d, m, c, (upd_ne hp.symm).trans e, r⟩
theorem Bag.mono {H : Hp} {b : Addr} {n n' : Int} (h : Bag H b n) (hn : n ≤ n') : Bag H b n' := by
  obtain ⟨d, m, c, e, r1, r2, r3, r4, r5⟩ := h
  exact ⟨d, m, c, e, r1, r2, r3, r4, by omega⟩
/-- _law_bag -/
def spBag (K : PySem.W.Frag) : Sp := fun vs H Q _ => ∃ (a : Addr) (ns : List Int) (i : Nat), vs = [.ref a, .int i] ∧ SqL K H a (ns.map V.int) ∧ ns.length ≤ 63 ∧ i ≤ 63 ∧ ∀ b H', H b = none → Kept b H H' → (∀ x, x ≠ b → H' x = H x) → Bag H' b 0 → Q (.ref b) H'
/-- _law_draw -/
def spDraw : Sp := fun vs H Q _ => ∃ (b : Addr) (n many : Int), vs = [.ref b, .int many] ∧ Bag H b n ∧ n < 1000000 ∧ 0 < many ∧ many.natAbs < 2 ^ 200 ∧ ∀ (r : Int) (H' : Hp), 0 ≤ r → r < many → But b H H' → Bag H' b (n + 1) → Q (.int r) H'
/-- _law_of -/
def spOf (K : PySem.W.Frag) : Sp := fun vs H Q _ => ∃ (b l : Addr) (n : Int) (xs : List V), vs = [.ref b, .ref l] ∧ Bag H b n ∧ n < 1000000 ∧ l ≠ b ∧ SqL K H l xs ∧ 0 < xs.length ∧ xs.length ≤ 1000 ∧
  ∀ (i : Nat) (v : V) (H' : Hp), xs[i]? = some v → But b H H' → Bag H' b (n + 1) → Q v H'
/-- the numbers of a draw -/
theorem draw_pow {m c : Int} (hm0 : 0 ≤ m) (hm : m < 2 ^ 61) (hc0 : 0 ≤ c) (hc : c ≤ 1000000) : CPow (m + 611953 * (c + 1)) 2 := by
  refine ⟨by decide, by decide, ?_⟩
  omega
theorem draw_pow3 {x c : Int} (hx0 : 0 ≤ x) (hx : x < 1152921504606846869) (hc0 : 0 ≤ c) (hc : c ≤ 1000000) : CPow (x + 15485863 * (c + 1)) 3 := by
  refine ⟨by decide, by decide, ?_⟩
  omega
theorem fmod_in {x y : Int} (h : 0 < y) : 0 ≤ x.fmod y ∧ x.fmod y < y := by
  rw [Int.fmod_eq_emod_of_nonneg x (Int.le_of_lt h)]
  exact ⟨Int.emod_nonneg x (by omega), Int.emod_lt_of_pos x h⟩
end KX

set_option Elab.async false
set_option maxRecDepth 100000
set_option maxHeartbeats 2000000
/-! Own exceptions raised with what they keep, caught with the context None; isinstance of a caught one that has a dict; defs called in the suite; C() of a class with *rest. -/
namespace KX
open PySem PySem.Spec PyProof.Rows L2 StX
theorem mk_endN {X : Cx} {pins : List (Addr × Obj)} {σ : L2.St} {H1 H2 : Hp} {Q : XK} {hp hp2 h2 : Heap} {g1 g2 : Array GenState} {d1 d2 : Drawn} {t1 t2 : Nat} {os1 os2 : OsState} {a C d : Addr} {fs : List (Str × V)} (T : Raises X (.ref C)) (I1 : Inv X pins σ H1 ⟨hp, g1, d1, t1, os1⟩)
    (ha : hp.objs.size ≤ a) (k : ∀ b o, hp.get? b = some o → hp2.get? b = some o) (un : Un (frs X.stack) [] (upd H1 a (exo a C none)) H2 hp2 h2) (hok : HOk X.prog X.w H2 h2) (ho : os2 = os1) (hb : AllBare g2)
    (ea : H2 a = some (exo a C (some d))) (ed : H2 d = some (exd d fs)) (hd1 : H1 d = none) (q : Q (.ref C) (some d) (upd (del H2 a) d (.xd fs))) : L2N.MkP X pins σ Q (.ref a) ⟨h2, g2, d2, t2, os2⟩ := by
  obtain ⟨t0, G, J, kG, ge, hoe, na⟩ := mk_end0 (d2 := d2) (t2 := t2) I1 ha k un hok ho hb ea ed hd1
  exact ⟨a, _, _, ⟨G, g2, d2, t2, os2⟩, _, .ref C, some d, rfl, J, kG, ge, hoe, ⟨rfl, rfl, fun vs e => by cases e; rfl⟩, rfl, rfl, na, rfl, hb, T, q⟩
section
variable {X : Cx} {CX : CXT} {x : Str} {C fI : Addr} {k : Nat} {fd : FuncData} {ps : List Str} {sp : Sp} {e : Expr} {es : List Expr} {ta : TA} {p pos : Pos}
theorem pmk_x {bmB : List Value} {newId : String} (T : ExK X.K C bmB newId) (tyC : PySem.W.typeIn X.K (.ref C) = some (.type "type")) (bs : Bs bmB newId) (iC : PySem.W.findIn X.K (.ref C) "__init__" = some (some (.ref fI))) (tI : PySem.W.isFn X.K (.ref fI) = true)
    (G : FnOk X.prog X.w X.K X.mg X.base CX k fI fd ps sp) (hr : Room (k + 1) X.A) (hb : Binds X.K fd ps []) (hx : Passes CX X (fun _ _ _ => False)) (hg : Gl X x) (hm : X.mg x = some (.ref C)) (ha : PA X (e :: es) ta)
    (hdb : (x == ("__debug__" : Str)) = false := by decide) (he : starEach (e :: es) X.env = (false, eval e X.env) :: starEach es X.env := by rfl) (hpl : (backTo pos (starEach es X.env)).any (·.1) = false := by rfl) :
    L2N.PMk X (.Call (.Name x p) (e :: es) [] pos) (tMkO C sp [] ta) := by
  intro pins s σ H Q I h
  refine wpAny_Call_Name_kw (ld_glob I hg hm ?_ hdb)
  refine PySem.W.callWith_K (h₀ := X.base) I.ok.mod.kin T.kC (thn (ha.run pos pins s σ H _ I h) fun us s1 hh => ?_) he hpl
  obtain ⟨vs, H1, I1, r1, hz, q1⟩ := hh
  refine ⟨I1.kIn, ?_⟩
  obtain ⟨B, iid, FB, SF⟩ := bs
  obtain ⟨nm, N', qn, bs', bm, hdct, sn, sub, ab, col, dd, k0, k1, k2, k3, k5, hC, hT⟩ := PySem.W.excInit_of I1.kIn T.init
  obtain ⟨oI, hoI, hcI⟩ : ∃ oI, s1.heap.get? fI = some oI ∧ oI.cls = .type "function" := by
    obtain ⟨oo, h1, h2⟩ := Option.map_eq_some_iff.mp (show (X.K.lookup fI).map (·.cls) = some (.type "function") from beq_iff_eq.mp tI)
    exact ⟨oo, I1.kIn _ _ h1, h2⟩
  obtain ⟨hp, g, dr, tk, os⟩ := s1
  have kk : ∀ b u, hp.get? b = some u → ((hp.push (PySem.W.kdv_tup us)).push (PySem.HandSPX.excO C hp.objs.size)).get? b = some u := fun b u z => Heap.get?_push_of_some _ (Heap.get?_push_of_some _ z)
  have hget : ((hp.push (PySem.W.kdv_tup us)).push (PySem.HandSPX.excO C hp.objs.size)).get? (hp.objs.size + 1) = some (PySem.HandSPX.excO C hp.objs.size) := by heap_get
  have I2 : Inv X pins σ (upd H1 (hp.objs.size + 1) (exo (hp.objs.size + 1) C none)) ⟨(hp.push (PySem.W.kdv_tup us)).push (PySem.HandSPX.excO C hp.objs.size), g, dr, tk, os⟩ := I1.laid (t' := tk) kk (Nat.le_succ _) (exo_ok hget)
  have hq := q1 (hp.objs.size + 1) (I1.hok.fresh (Nat.le_succ _))
  rw [List.append_nil] at hq
  have r2 : Vals (V.ref (hp.objs.size + 1) :: vs) (Value.ref (hp.objs.size + 1) :: us) := .cons rfl r1
  have hl : (Value.ref (hp.objs.size + 1) :: us ++ []).length = ps.length := by
    rw [List.append_nil, ← r2.length]
    exact G.len _ _ _ _ hq
  have hus : us.length ≤ sizeLine := by
    rw [← Paired.length r1, sizeLine_eq]
    omega
  have hbi := hb _ (Value.ref (hp.objs.size + 1) :: us) I2.kIn hl
  rw [List.append_nil] at hbi
  refine wpAny_call (PySem.HandSPX.call_own FB hT hC (PySem.W.looks_findIn I1.kIn iC) (fun self => PySem.W.exc_bind hoI hcI self) hus (codeAny_mono (G.run _ X.stack _ _ _ _ _ _ (fun _ _ _ => False) (hr.make C us []) (I2.env0.make C us []) hbi r2 hq) fun r s' hq' => ?_))
  cases r with
  | error er => exact hx pins σ _ _ er s' I2 hq'
  | ok fl =>
    cases fl with
    | ret u =>
      obtain ⟨v, H2, os2, bare2, un2, hok2, rv, ev, d, fs, ea, ed, hd1, q2⟩ := hq'
      subst ev
      obtain ⟨h2, g2, d2, t2, os'⟩ := s'
      exact ⟨rv, mk_endN (raises_own T.exC tyC) I1 (Nat.le_succ _) kk un2 hok2 os2 bare2 ea ed hd1 q2⟩
    | next => exact False.elim hq'
    | brk => exact False.elim hq'
    | cont => exact False.elim hq'
end
/-- isinstance(e, c), e the exception that the suite holds -/
theorem call_isEd {X : Cx} {a D d : Addr} {oe : Obj} {pn : List (Addr × Obj)} {bmB : List Value} {nid : String} (T : ExK X.K D bmB nid) (sp : PySem.W.specialIn X.K (.builtin "object.__class__") "__get__" = some (some (.builtin "getset_descriptor.__get__"))) (tk : PySem.W.takesIn X.K (.builtin "object.__class__") = some true)
    (hz : Zc (.ref D) (some d) oe) (hf : ∃ vs, oe.data = .fields vs) : CallR (X.suite a ((a, oe) :: pn)) (.builtin "isinstance") (fun xs H Q => (∃ fs, H d = some (.xd fs)) ∧ rIsE X.K D a xs H Q) := by
  intro pins s σ H xs us Q I r h
  obtain ⟨⟨fs, hd⟩, c, cv, b, rfl, hcv, e, q⟩ := h
  cases r with
  | cons rx rr =>
    cases rr with
    | cons rt rr =>
      cases rr
      cases rx
      have ec := hcv _ rt
      subst ec
      obtain ⟨hget, _⟩ := I.pin (a, oe) (List.mem_append.mpr (.inl List.mem_cons_self))
      obtain ⟨vs, hv⟩ := hf
      have hx : ObjOk X.prog X.w H s.heap d (.xd fs) := I.hok d _ hd
      obtain ⟨mA, hns, rel⟩ := hx
      obtain ⟨od, ho, _⟩ := lookIn_ns hns
      obtain ⟨cd, hc, _⟩ := PySem.W.any_some T.hd
      have J : PySem.W.InstAt s.heap a oe D (some od) := ⟨hget, hz.1, by unfold PySem.W.notCls; rw [hv] <;> rfl, by rw [hz.2]; exact ho⟩
      exact PySem.W.kia_one (PySem.W.kitx_exc (od := some od) (by rw [hc] <;> rfl) T.ga T.gg T.exC T.ha sp tk T.hm) I.kIn J e (fun z => nomatch z) fun tk' => ⟨.bl b, H, I.kept (t' := tk') fun _ _ z => z, rfl, q⟩
theorem cxUpN {P : Program} {w : World} : CXUp (L2N.CX P w) := by
  rintro outer s H s2 H2 E e s' un kp ho ⟨a, B, H', cls, d, ea, fl, hok, ub, na, os, ag, he⟩
  refine ⟨a, B, H', cls, d, ea, fl, hok, ⟨fun b o q n hb => ub.keep b o (kp b o q) (un.free b o q n (by simp)) hb, fun b o q hb => ub.slot b o (kp b o q) hb, fun b o q n => ub.free b o (kp b o q) (un.free b o q n (by simp)),
    fun b o q hb => ub.there b o (kp b o q) hb, fun b xs q => ub.tups b xs (un.tups b xs q), fun b o xs q => ub.frzs b o xs (un.frzs b o xs q), fun b ps q => ?_⟩, na, os.trans ho, ag, he⟩
  obtain ⟨m1, e1⟩ := un.tbls b ps q
  obtain ⟨m2, e2⟩ := ub.tbls b _ e1
  exact ⟨m1 ++ m2, by rw [e2, Array.append_assoc]⟩
theorem fnH_ok {P : Program} {w : World} {K : PySem.W.Frag} {mg : Str → Option Value} {base : Heap} {f : Addr} {x qual : Str} {params : Arguments} {body : List Stmt} {scope : Scope} {dvs : List V} {kws : List (Str × V)} {fd : FuncData} {CX : CXT} {N ps : List Str} {k : Nat} {sp : Sp}
    (F : FunD K x qual params body scope dvs kws f fd) (S : FnScope N ps scope) (len : ∀ vs H Q E, sp vs H Q E → vs.length = ps.length)
    (hbody : ∀ (cdv : Value) (A : Around) (outer : List Env) (s : Shared) (H : Hp) (vs : List V) (Q : VK) (E : XK) (p : Addr × Obj), L2H.Hot1 A p → L2H.RoomH k (A.deeper (envOfC qual scope s.heap.objs.size f cdv)) → sp vs H Q E →
      ∃ t, PSs (L2H.cxH CX P w K mg base N qual scope f cdv A outer s H E p) body t ∧ t { nx := fun _ H' => Q .non H', rt := Q } (start N vs) H) : L2H.FnH P w K mg base CX (k + 1) f fd ps sp := by
  obtain ⟨oc, od, dV, kV, doc, pm, an, cdv, ct, osl, rfl, lk, hcd, _, _⟩ := F.ex
  exact L2H.fn_ofH lk hcd S len fun A outer s H vs Q E p hot hr hsp => hbody cdv A outer s H vs Q E p hot hr hsp
theorem pe_makeR0 {X : Cx} {CX : CXT} {k : Nat} {f C : Addr} {sp : Sp} {E : XK} {x : Str} {p pos : Pos} (M : Mk X.K C f) (F : FnR X.prog X.w X.K X.mg X.base CX k f sp) (hr : Room (k + 1) X.A) (hg : Gl X x) (hm : X.mg x = some (.ref C)) (hx : Passes CX X E)
    (hdb : (x == ("__debug__" : Str)) = false := by decide) : PE X (.Call (.Name x p) [] [] pos) (tMakeR C sp E tNil) := by
  refine ⟨fun pins s σ H Q I h => ?_⟩
  refine wpAny_Call_Name_kw (ld_glob I hg hm ?_ hdb)
  exact PySem.W.callWith_K0 I.kIn M.kp (run_makeR (us := []) M F hr hx I .nil h)
end KX

set_option Elab.async false
set_option maxRecDepth 100000
set_option maxHeartbeats 2000000
/-! for i, x in enumerate(t), t a tuple. -/
namespace KX
open PySem PySem.Spec PyProof.Rows L2
open Sem (wp)
open AutoSeq1 (wpAny_loadPart')
/-- enumerate's maker, told of whatever begins to be walked -/
theorem enum_new1 {v : Value} {o : Obj} {G : Heap → Prop} (B : Begins v o G) :
    Meets (Builtin.«enumerate.__new__» ⟨[.type "enumerate", v], []⟩) (fun _ R s => G s.heap ∧ R (.ok (.ret (.ref (s.heap.push o).objs.size)))
        { s with heap := (s.heap.push o).push { cls := .type "enumerate", data := .fields #[.none, .bool false, .ref s.heap.objs.size, rawInt 0, .none, .none] } }) :=
  .of_wp fun prog w A R s hh => by
    obtain ⟨hp, g, d, tk, os⟩ := s
    have hsub := sub_enumerate
    have it : ∀ {A' : Around} {E Q : Value → Shared → Prop}, Q (.ref hp.objs.size) ⟨hp.push o, g, d, tk, os⟩ → wpAny (model prog w) A' (pyIter v) Q E ⟨hp, g, d, tk, os⟩ := fun q => B.iter _ _ _ _ ⟨hp, g, d, tk, os⟩ _ hh.1 q
    wp_walk using it
    refine wpAny_stack_any fun _ => wpAny_pure ?_
    split
    case h_1 c _ _ _ _ _ => cases (c == Value.type "enumerate") <;> (wp_walk using it; exact ⟨_, rfl, hh.2⟩)
    all_goals (wp_walk using it; exact ⟨_, rfl, hh.2⟩)
section
variable {prog : Program} {w : World} {A : Around} {E : Value → Shared → Prop} {s : Shared}
theorem enum_tup {t : Addr} {its : Array Value} {Q : Value → Shared → Prop} (ht : s.heap.IsTuple t its)
    (q : ∀ h', IsEnum h' (s.heap.objs.size + 1) s.heap.objs.size 0 .none → h'.IsTupleIter s.heap.objs.size t 0 → (∀ b u, s.heap.get? b = some u → h'.get? b = some u) → Q (.ref (s.heap.objs.size + 1)) { s with heap := h' }) :
    wpAny (model prog w) A (call (.type "enumerate") [.ref t]) Q E s := by
  refine callType_new F.called_enumerate (by decide) (F.typeCall_enumerate_1 _) (F.newCall_enumerate_1 _) (fun obj => F.args_object_init_2 obj _) F.entry_enumerate_new (enum_new1 (begins_tuple t its)) ⟨ht, ?_⟩
  generalize ho : ({ cls := .type "tuple_iterator", data := .fields #[.ref t, .int 0 0] } : Obj) = o
  have hf : o.isFreed = false := by rw [← ho]; rfl
  have hz : (s.heap.push o).objs.size = s.heap.objs.size + 1 := Heap.size_push ..
  show _ ∧ _
  rw [hz]
  have e1 : ((s.heap.push o).push { cls := .type "enumerate", data := .fields #[.none, .bool false, .ref s.heap.objs.size, rawInt 0, .none, .none] }).get? (s.heap.objs.size + 1) = some { cls := .type "enumerate", data := .fields #[.none, .bool false, .ref s.heap.objs.size, rawInt 0, .none, .none] } := by
    rw [← hz]
    exact Heap.get?_push_size _ rfl
  have e2 := Heap.get?_push_of_some ({ cls := .type "enumerate", data := .fields #[.none, .bool false, .ref s.heap.objs.size, rawInt 0, .none, .none] }) (Heap.get?_push_size s.heap hf)
  exact ⟨⟨_, e1, rfl⟩, q _ e1 ⟨o, e2, by rw [← ho], by rw [← ho]; rfl⟩ fun b u z => Heap.get?_push_of_some _ (Heap.get?_push_of_some _ z)⟩
end
/-- the tuple at a as it stands at each turn, each item in a new pair -/
def ItE (K : PySem.W.Frag) (a : Addr) : It where
  go := fun i H => ∃ (xs : List V) (x : V), SqT K H a xs ∧ xs[i]? = some x
  yld := fun i H v H' => ∃ T x, v = .ref T ∧ H T = none ∧ H' = upd H T (.tup [.int (i : Nat), x]) ∧ ∀ xs, SqT K H a xs → xs[i]? = some x
  stop := fun i H => ∃ xs : List V, SqT K H a xs ∧ xs.length = i
theorem tup_ne {h : Heap} {a it : Addr} {i : Nat} {its : Array Value} (hi : h.IsTupleIter it a i) (ht : h.IsTuple a its) : a ≠ it := by
  rintro rfl
  obtain ⟨o, ho, hc, _⟩ := hi
  obtain ⟨u, hu, uc, _⟩ := ht
  rw [ho] at hu
  cases hu
  rw [hc] at uc
  exact absurd (Value.type.inj uc) (by decide)
theorem turn_enumT {P : Program} {w : World} {K : PySem.W.Frag} {elts : List Expr} {kk : Nat} {tpos : Pos} (a e it : Addr) :
    Turn P w K (.Tuple elts kk tpos) (ItE K a) [e, it] e (fun i h => (∃ old, IsEnum h e it ((i : Nat) : Int) old) ∧ h.IsTupleIter it a i ∧ e ≠ it) where
  mem := by simp
  obj := fun i h st b hb => by
    obtain ⟨⟨old, he⟩, ⟨o, ho, hc, hd⟩, _⟩ := st
    rcases List.mem_cons.mp hb with rfl | hb
    · exact ⟨_, he, fun v q => nomatch q⟩
    · rw [List.mem_singleton.mp hb]
      exact ⟨o, ho, fun v q => by rw [hd] at q; cases q⟩
  keep := fun i h h' st k => ⟨st.1.imp fun old he => k e (by simp) _ he, st.2.1.at fun o q => k it (by simp) o q, st.2.2⟩
  item := by
    intro X hP hw hK hc i pins s σ H E I hf st hg
    subst hP hw hK
    obtain ⟨⟨old, he⟩, hit, hne⟩ := st
    obtain ⟨xs, x, hq, hx⟩ := hg
    obtain ⟨its, rv, p, hz⟩ := I.tuple hq
    obtain ⟨u, hu, ru⟩ := rv.get hx
    have p' : s.heap.IsTuple a its.toArray := p
    have hel : e < s.heap.objs.size := Heap.lt_size he
    have hil : it < s.heap.objs.size := by obtain ⟨_, q, _⟩ := hit; exact Heap.lt_size q
    have hlt : i < its.toArray.size := by
      have := (List.getElem?_eq_some_iff.mp hu).1
      simpa using this
    have hea : e ≠ a := by
      rintro rfl
      obtain ⟨o2, ho2, uc, _⟩ := p'
      rw [he] at ho2
      cases ho2
      exact absurd (Value.type.inj uc) (by decide)
    refine wpAny_pyNext_enum_itemD (Draws.tuple (A := X.A.in1) (I.ok.hd hc) it a (tup_ne hit p') its.toArray) he ⟨hit, p'⟩ hlt hne (by simp [hne, hea]) fun x2 h' tk hx2 ho st2 hT hsz hk => ?_
    obtain rfl : x2 = u := by
      have e1 : its.toArray[i]? = some u := by simpa using hu
      exact Option.some.inj (hx2.symm.trans e1)
    refine ⟨_, rfl, wpAny_letOwnedTupleGo_enum (s := { s with heap := h', toks := tk + 1 }) ho fun h'' he' sb => ?_⟩
    have hT2 : h''.get? s.heap.objs.size = some { cls := .type "tuple", data := .seq #[.int i tk, x2] } := (sb.2 _ (Nat.ne_of_gt hel)).trans hT
    have new : ObjOk X.prog X.w (upd H s.heap.objs.size (.tup [.int (i : Nat), x])) h'' s.heap.objs.size (.tup [.int (i : Nat), x]) :=
      ⟨by show 2 ≤ sizeLine; decide, [.int i tk, x2], .cons ⟨_, rfl⟩ (.cons ru .nil), ⟨_, hT2, rfl, _, rfl⟩⟩
    have I1 : Inv X pins σ (upd H s.heap.objs.size (.tup [.int (i : Nat), x])) { s with heap := h'', toks := tk + 1 } :=
      I.turnedNew (ch := [e, it]) (fun b ob hb q => (sb.2 b (fun z => hb (by simp [z]))).trans (hk b ob (fun z => hb (by simp [z])) (fun z => hb (by simp [z])) q)) hf (Nat.le_refl _) new
    refine ⟨.ref s.heap.objs.size, _, I1, rfl, ⟨_, x, rfl, I.hok.fresh (Nat.le_refl _), rfl, fun ys hy => by rw [I.tuple_inj hy hq]; exact hx⟩, ⟨⟨x2, ?_⟩, st2.1.at fun o q => (sb.2 it (Ne.symm hne)).trans q, hne⟩, fun b hb => ?_⟩
    · rw [show ((i + 1 : Nat) : Int) = (i : Int) + 1 by omega]
      exact he'
    · have hb' : b < s.heap.objs.size := by
        rcases List.mem_cons.mp hb with rfl | hb
        · exact hel
        · rw [List.mem_singleton.mp hb]
          exact hil
      rw [upd_ne (Nat.ne_of_lt hb')]
      exact (hf b hb).1
  done := by
    intro X hP hw hK hc i pins s σ H E I hf st hg
    subst hP hw hK
    obtain ⟨⟨old, he⟩, hit, hne⟩ := st
    obtain ⟨xs, hq, hx⟩ := hg
    obtain ⟨its, rv, p, hz⟩ := I.tuple hq
    have p' : s.heap.IsTuple a its.toArray := p
    obtain ⟨f0, f1, f2, f3, f4, f5⟩ := hf it (by simp)
    have hl := rv.length
    obtain rfl : i = its.toArray.size := by simp; omega
    exact wpAny_pyNext_enum_endD (Draws.tuple (A := X.A.in1) (I.ok.hd hc) it a (tup_ne hit p') its.toArray) he ⟨hit, p'⟩ fun h' eb => ⟨rfl, I.turned (t' := s.toks) (fun b o hb q => eb b o hb q) f0 f1 f3 f4 f5⟩
  self := fun A i s Q E st h => let ⟨⟨_, he⟩, _⟩ := st; wpAny_pyIter_enum he h
def iEnumT (K : PySem.W.Frag) (ta : TA) : TI := fun σ H R => ta σ H fun vs H1 => ∃ a xs, vs = [.ref a] ∧ SqT K H1 a xs ∧ R (ItE K a) H1
theorem pi_enumT {X : Cx} {e : Expr} {ta : TA} {p pos tpos : Pos} {elts : List Expr} {kk : Nat} (hg : Gl X "enumerate") (hm : X.mg "enumerate" = none) (ha : PA X [e] ta) (hs : starEach [e] X.env = [(false, eval e X.env)] := by rfl) :
    PI X (.Tuple elts kk tpos) (.Call (.Name "enumerate" p) [e] [] pos) (iEnumT X.K ta) := by
  refine ⟨fun pins s σ H R I h => Call_ (ld_blt I hg hm boot_enumerate (PyProof.Rows.callWith_type1 (thn (ha.run pos pins s σ H _ I h) fun us s1 hh => ?_) hs rfl))⟩
  obtain ⟨vs, H1, I1, r1, a, xs, rfl, hq, q⟩ := hh
  obtain rfl := Vals.ref1 r1
  obtain ⟨its, rv, p', hz⟩ := I1.tuple hq
  refine enum_tup p' fun h' he hit hk => wpAny_pyIter_enum he ?_
  have I2 : Inv X pins σ H1 { s1 with heap := h' } := I1.kept (t' := s1.toks) hk
  refine ⟨s1.heap.objs.size + 1, [s1.heap.objs.size + 1, s1.heap.objs.size], _, _, H1, rfl, I2, turn_enumT a (s1.heap.objs.size + 1) s1.heap.objs.size, ⟨⟨.none, he⟩, hit, Nat.succ_ne_self _⟩, fun b hb => ?_, q⟩
  have hle : s1.heap.objs.size ≤ b := by
    rcases List.mem_cons.mp hb with rfl | hb
    · exact Nat.le_succ _
    · rw [List.mem_singleton.mp hb]
      exact Nat.le_refl _
  exact I1.fpOk hle (I1.hok.fresh hle)
theorem walk_enumT {K : PySem.W.Frag} {a : Addr} {xs : List V} : Walk (ItE K a) xs.length (fun H => SqT K H a xs) (YPair (fun i => some (.int (i : Nat))) (fun i => xs[i]?)) :=
  ⟨fun i _ hi q => ⟨xs, xs[i], q, by simp [hi]⟩, fun _ q => ⟨xs, q, rfl⟩, fun i H v H' _ q y => y.elim fun T y => y.elim fun x y => ⟨T, .int (i : Nat), x, y.1, y.2.1, y.2.2.1, rfl, y.2.2.2 xs q⟩⟩
end KX

set_option Elab.async false
set_option maxRecDepth 100000
set_option maxHeartbeats 2000000
/-! Nested data on the abstract heap: it stays while what is tracked stays; bounds of its text. -/
namespace KX
open PySem PySem.Spec PyProof.Rows L2
theorem sqT_same {K : PySem.W.Frag} {H H' : Hp} {a : Addr} {xs : List V} (s : Same H H') (h : SqT K H a xs) : SqT K H' a xs := by
  rcases h with (h | ⟨o, h⟩) | h
  · exact .inl (.inl (s _ _ h))
  · exact .inl (.inr ⟨o, s _ _ h⟩)
  · exact .inr h
mutual
theorem dp_same {K : PySem.W.Frag} {H H' : Hp} (s : Same H H') : ∀ (d : PyData) (v : V), Dp K H v d → Dp K H' v d
  | .none, _, .non => .non
  | .bool _, _, .bl b => .bl b
  | .int _, _, .int i => .int i
  | .str _, _, .str x => .str x
  | .list ds, _, .lst hS ha => .lst (s.seq hS) (dps_same s ds _ ha)
  | .tuple ds, _, .tup hS ha => .tup (sqT_same s hS) (dps_same s ds _ ha)
  | .dict _, _, h => nomatch h
theorem dps_same {K : PySem.W.Frag} {H H' : Hp} (s : Same H H') : ∀ (ds : List PyData) (vs : List V), DpAll K H vs ds → DpAll K H' vs ds
  | [], _, .nil => .nil
  | d :: ds, _, .cons h hs => .cons (dp_same s d _ h) (dps_same s ds _ hs)
end
/-- what may be shown in little room -/
structure Small (d : PyData) (k n : Nat) : Prop where
  sh : d.showable = true
  nd : d.hasDict = false
  dp : d.depth ≤ k
  ln : d.shown.length ≤ n
/-- v is small data on H -/
def Good (K : PySem.W.Frag) (H : Hp) (v : V) : Prop := ∃ d, Dp K H v d ∧ Small d 2 100
theorem Good.same {K : PySem.W.Frag} {H H' : Hp} {v : V} (s : Same H H') (h : Good K H v) : Good K H' v := let ⟨d, h1, h2⟩ := h; ⟨d, dp_same s d v h1, h2⟩
theorem good_int {K : PySem.W.Frag} {H : Hp} {i : Int} (h : i.natAbs < 10 ^ 30) : Good K H (.int i) := by
  refine ⟨.int i, .int i, ⟨decide_eq_true ?_, rfl, Nat.zero_le _, ?_⟩⟩
  · have h2 : i.natAbs < 2 ^ 100 := Nat.lt_trans h (by decide)
    exact Nat.lt_trans (PySem.Flt.log2_lt_of (by decide) h2) (by decide)
  · have q := int_text_length_le10 (k := 30) (by decide) h
    show (Str.ofString (toString i)).length ≤ 100
    rw [PySem.ofString_length]
    omega
theorem textFrom_le {m : Nat} : ∀ (ts : List Str) (k : Nat) (acc : Str), (∀ t ∈ ts, t.length ≤ m) → (textFrom k acc ts).length ≤ acc.length + ts.length * (m + 2)
  | [], k, acc, _ => Nat.le_add_right _ _
  | t :: r, k, acc, h => by
    have q := textFrom_le r (k + 1) (acc ++ (if k > 0 then ", " else "" : String) ++ t) (fun u hu => h u (List.mem_cons_of_mem _ hu))
    have ht := h t List.mem_cons_self
    have e : (acc ++ (if k > 0 then ", " else "" : String) ++ t).length ≤ acc.length + 2 + t.length := by
      rw [Str.length_append, Str.length_append]
      have z : ((if k > 0 then ", " else "" : String) : Str).length ≤ 2 := by
        split <;> decide
      omega
    have f : (t :: r).length * (m + 2) = r.length * (m + 2) + (m + 2) := by rw [List.length_cons, Nat.succ_mul]
    show (textFrom (k + 1) _ r).length ≤ _
    omega
theorem listText_le {m : Nat} {ts : List Str} (h : ∀ t ∈ ts, t.length ≤ m) : (listText ts).length ≤ ts.length * (m + 2) + 2 := by
  have q := textFrom_le ts 0 ("[" : String) h
  unfold listText
  rw [Str.length_append]
  have e1 : (("[" : String) : Str).length = 1 := by decide
  have e2 : (("]" : String) : Str).length = 1 := by decide
  omega
theorem shownAll_mem : ∀ {ds : List PyData} {t : Str}, t ∈ PyData.shownAll ds → ∃ d ∈ ds, t = d.shown
  | [], _, h => nomatch h
  | d :: r, t, h => by
    rcases List.mem_cons.mp (show t ∈ d.shown :: PyData.shownAll r from h) with h | h
    · exact ⟨d, List.mem_cons_self, h⟩
    · obtain ⟨e, he, q⟩ := shownAll_mem h
      exact ⟨e, List.mem_cons_of_mem _ he, q⟩
theorem shownAll_len : ∀ ds : List PyData, (PyData.shownAll ds).length = ds.length
  | [] => rfl
  | d :: r => congrArg (· + 1) (shownAll_len r)
theorem small_all {k n : Nat} : ∀ {ds : List PyData}, (∀ d ∈ ds, Small d k n) → PyData.showableAll ds = true ∧ PyData.hasDictAll ds = false ∧ PyData.depthAll ds ≤ k
  | [], _ => ⟨rfl, rfl, Nat.zero_le _⟩
  | d :: r, h => by
    obtain ⟨h1, h2, h3⟩ := small_all (ds := r) fun e he => h e (List.mem_cons_of_mem _ he)
    have z := h d List.mem_cons_self
    refine ⟨?_, ?_, ?_⟩
    · show (d.showable && PyData.showableAll r) = true
      rw [z.sh, h1]
      rfl
    · show (d.hasDict || PyData.hasDictAll r) = false
      rw [z.nd, h2]
      rfl
    · exact Nat.max_le.mpr ⟨z.dp, h3⟩
/-- a list of small data is small, one deeper -/
theorem small_list {k n m : Nat} {ds : List PyData} (h : ∀ d ∈ ds, Small d k n) (hm : ds.length * (n + 2) + 2 ≤ m) : Small (.list ds) (k + 1) m := by
  obtain ⟨h1, h2, h3⟩ := small_all h
  refine ⟨h1, h2, Nat.succ_le_succ h3, Nat.le_trans (listText_le (m := n) fun t ht => ?_) (by rw [shownAll_len]; exact hm)⟩
  obtain ⟨d, hd, rfl⟩ := shownAll_mem ht
  exact (h d hd).ln
end KX

set_option Elab.async false
set_option maxRecDepth 100000
set_option maxHeartbeats 2000000
/-! Nested data: its type, what isinstance says of it; items of it; small walks. -/
namespace KX
open PySem PySem.Spec PyProof.Rows L2
def tyD : PyData → String
  | .none => "NoneType"
  | .bool _ => "bool"
  | .int _ => "int"
  | .str _ => "str"
  | .list _ => "list"
  | .tuple _ => "tuple"
  | .dict _ => "dict"
def isIntD : PyData → Bool
  | .int _ => true
  | _ => false
def isBoolD : PyData → Bool
  | .bool _ => true
  | _ => false
def isStrD : PyData → Bool
  | .str _ => true
  | _ => false
def isTupD : PyData → Bool
  | .tuple _ => true
  | _ => false
def isLstD : PyData → Bool
  | .list _ => true
  | _ => false
theorem dp_ty {K : PySem.W.Frag} {H : Hp} {v : V} {d : PyData} (h : Dp K H v d) : TyX K H v (.type (tyD d)) := by
  cases h with
  | non => exact .base .non
  | bl b => exact .base (.bl b)
  | int i => exact .base (.int i)
  | str z => exact .base (.str z)
  | tup h _ =>
    rcases h with h | ⟨o, its, n, h1, h2, _⟩
    · rcases h with h | ⟨o, h⟩
      · exact .base (.tup h)
      · exact .fTuple h
    · exact .kTuple h1 h2
  | lst h _ =>
    rcases h with h | ⟨o, its, n, h1, h2, _⟩
    · rcases h with h | ⟨o, h⟩
      · exact .base (.lst h)
      · exact .base (.frz h)
    · exact .kList h1 h2
theorem kit_int {K : PySem.W.Frag} (d : PyData) : PySem.W.kitOne K (.type (tyD d)) (.type "int") = some (isIntD d || isBoolD d) := by cases d <;> kernel_rfl
theorem kit_bool {K : PySem.W.Frag} (d : PyData) : PySem.W.kitOne K (.type (tyD d)) (.type "bool") = some (isBoolD d) := by cases d <;> kernel_rfl
theorem kit_str {K : PySem.W.Frag} (d : PyData) : PySem.W.kitOne K (.type (tyD d)) (.type "str") = some (isStrD d) := by cases d <;> kernel_rfl
theorem kit_tup {K : PySem.W.Frag} (d : PyData) : PySem.W.kitOne K (.type (tyD d)) (.type "tuple") = some (isTupD d) := by cases d <;> kernel_rfl
theorem kit_lst {K : PySem.W.Frag} (d : PyData) : PySem.W.kitOne K (.type (tyD d)) (.type "list") = some (isLstD d) := by cases d <;> kernel_rfl
theorem kit_seq {K : PySem.W.Frag} (d : PyData) : PySem.W.kitAny K (.type (tyD d)) [.type "list", .type "tuple"] = some (isLstD d || isTupD d) := by
  unfold PySem.W.kitAny PySem.W.kitAny PySem.W.kitAny
  rw [kit_lst, kit_tup]
  cases d <;> rfl
theorem ite2' {b : Bool} {A B : Prop} (h1 : b = true → A) (h2 : b = false → B) : if b = true then A else B := by
  cases b
  · exact h2 rfl
  · exact h1 rfl
theorem same_put {H : Hp} {p : Addr} {o : HO} (hp : H p = none) : Same H (upd H p o) := fun x u e => (upd_ne (ne_of_none e hp)).trans e
theorem sqL_same {K : PySem.W.Frag} {H H' : Hp} {a : Addr} {xs : List V} (s : Same H H') (h : SqL K H a xs) : SqL K H' a xs := by
  rcases h with (h | ⟨o, h⟩) | h
  · exact .inl (.inl (s _ _ h))
  · exact .inl (.inr ⟨o, s _ _ h⟩)
  · exact .inr h
theorem dpall_len {K : PySem.W.Frag} {H : Hp} : ∀ {xs : List V} {ds : List PyData}, DpAll K H xs ds → xs.length = ds.length
  | _, _, .nil => rfl
  | _, _, .cons _ h => congrArg (· + 1) (dpall_len h)
theorem dpall_at {K : PySem.W.Frag} {H : Hp} : ∀ {xs : List V} {ds : List PyData} {i : Nat} {x : V}, DpAll K H xs ds → xs[i]? = some x → ∃ d, ds[i]? = some d ∧ Dp K H x d
  | _, _, 0, _, .cons h _, e => ⟨_, rfl, by cases e; exact h⟩
  | _, _, i + 1, _, .cons _ t, e => dpall_at (i := i) t e
theorem dpall_snoc {K : PySem.W.Frag} {H : Hp} {x : V} {d : PyData} (h : Dp K H x d) : ∀ {xs : List V} {ds : List PyData}, DpAll K H xs ds → DpAll K H (xs ++ [x]) (ds ++ [d])
  | _, _, .nil => .cons h .nil
  | _, _, .cons h1 t => .cons h1 (dpall_snoc h t)
theorem dpall_app {K : PySem.W.Frag} {H : Hp} {ys : List V} {es : List PyData} (k : DpAll K H ys es) : ∀ {xs : List V} {ds : List PyData}, DpAll K H xs ds → DpAll K H (xs ++ ys) (ds ++ es)
  | _, _, .nil => k
  | _, _, .cons h1 t => .cons h1 (dpall_app k t)
theorem dpall_take {K : PySem.W.Frag} {H : Hp} : ∀ {xs : List V} {ds : List PyData} (i : Nat), DpAll K H xs ds → DpAll K H (xs.take i) (ds.take i)
  | _, _, 0, _ => .nil
  | _, _, _ + 1, .nil => .nil
  | _, _, i + 1, .cons h t => .cons h (dpall_take i t)
theorem dpall_drop {K : PySem.W.Frag} {H : Hp} : ∀ {xs : List V} {ds : List PyData} (i : Nat), DpAll K H xs ds → DpAll K H (xs.drop i) (ds.drop i)
  | _, _, 0, h => h
  | _, _, _ + 1, .nil => .nil
  | _, _, i + 1, .cons _ t => dpall_drop i t
theorem dpall_set {K : PySem.W.Frag} {H : Hp} {x : V} {d : PyData} (h : Dp K H x d) : ∀ {xs : List V} {ds : List PyData} (i : Nat), DpAll K H xs ds → DpAll K H (xs.set i x) (ds.set i d)
  | _, _, _, .nil => .nil
  | _, _, 0, .cons _ t => .cons h t
  | _, _, i + 1, .cons h1 t => .cons h1 (dpall_set h i t)
theorem dpall_erase {K : PySem.W.Frag} {H : Hp} : ∀ {xs : List V} {ds : List PyData} (i : Nat), DpAll K H xs ds → DpAll K H (xs.eraseIdx i) (ds.eraseIdx i)
  | _, _, _, .nil => .nil
  | _, _, 0, .cons _ t => t
  | _, _, i + 1, .cons h t => .cons h (dpall_erase i t)
theorem dpall_3 {K : PySem.W.Frag} {H : Hp} : ∀ {xs : List V} {ds : List PyData}, DpAll K H xs ds → xs.length = 3 → ∃ x y z a b c, xs = [x, y, z] ∧ ds = [a, b, c] ∧ Dp K H x a ∧ Dp K H y b ∧ Dp K H z c
  | _, _, .cons h1 (.cons h2 (.cons h3 .nil)), _ => ⟨_, _, _, _, _, _, rfl, rfl, h1, h2, h3⟩
  | _, _, .nil, e => nomatch e
  | _, _, .cons _ .nil, e => nomatch e
  | _, _, .cons _ (.cons _ .nil), e => nomatch e
  | _, _, .cons _ (.cons _ (.cons _ (.cons _ _))), e => absurd e (by simp)
/-- a text's data -/
theorem dpall_strs {K : PySem.W.Frag} {H : Hp} : ∀ zs : List Str, DpAll K H (zs.map V.str) (zs.map PyData.str)
  | [] => .nil
  | z :: zs => .cons (.str z) (dpall_strs zs)
/-- one of two walks -/
theorem pi_or {X : Cx} {tg e : Expr} {A B : TI} (ha : PI X tg e A) (hb : PI X tg e B) : PI X tg e (fun σ H R => A σ H R ∨ B σ H R) :=
  ⟨fun pins s σ H R I h => h.elim (ha.run pins s σ H R I) (hb.run pins s σ H R I)⟩
theorem take_at {α : Type} {xs : List α} {i : Nat} {x : α} (h : xs[i]? = some x) : xs.take (i + 1) = xs.take i ++ [x] := by
  rw [List.take_add_one, h]
  rfl
theorem ixN_nat {n j : Nat} (h : j < n) : ixN n (j : Int) = some j := by
  unfold ixN
  rw [if_pos (by omega), if_pos (by omega)]
  rfl
theorem len_is {α : Type} {xs : List α} (j : Nat) (c : decide (V.int ((xs.length : Nat) : Int) = V.int (j : Int)) = true) : xs.length = j := by
  have q := V.int.inj (of_decide_eq_true c)
  omega
theorem len_not {α : Type} {xs : List α} (j : Nat) (c : decide (V.int ((xs.length : Nat) : Int) = V.int (j : Int)) = false) : xs.length ≠ j := fun e => of_decide_eq_false c (by rw [e])
theorem len_isN {α : Type} {xs : List α} (j : Nat) (c : (!decide (V.int ((xs.length : Nat) : Int) = V.int (j : Int))) = false) : xs.length = j := by
  refine len_is j ?_
  revert c
  cases decide (V.int ((xs.length : Nat) : Int) = V.int (j : Int)) <;> intro q
  · cases q
  · rfl
theorem len_notN {α : Type} {xs : List α} (j : Nat) (c : (!decide (V.int ((xs.length : Nat) : Int) = V.int (j : Int))) = true) : xs.length ≠ j := by
  rintro e
  rw [e, decide_eq_true rfl] at c
  cases c
theorem lay_all {k : Nat} : ∀ {ds : List PyData}, (∀ d ∈ ds, d.canLay0 = true ∧ d.depth ≤ k) → PyData.canLayAll0 ds = true ∧ PyData.depthAll ds ≤ k
  | [], _ => ⟨rfl, Nat.zero_le _⟩
  | d :: ds, h => by
    obtain ⟨h1, h2⟩ := h d List.mem_cons_self
    obtain ⟨h3, h4⟩ := lay_all fun e he => h e (List.mem_cons_of_mem _ he)
    refine ⟨?_, ?_⟩
    · show (d.canLay0 && PyData.canLayAll0 ds) = true
      rw [h1, h3]
      rfl
    · show max d.depth (PyData.depthAll ds) ≤ k
      exact Nat.max_le.mpr ⟨h2, h4⟩
theorem list_shaped {ds : List PyData} (h : ∀ d ∈ ds, d.canLay0 = true ∧ d.depth ≤ 60) : SeqAt.shaped (.list ds) = true := by
  obtain ⟨h1, h2⟩ := lay_all h
  unfold SeqAt.shaped
  refine Bool.and_eq_true_iff.mpr ⟨h1, decide_eq_true ?_⟩
  show PyData.depthAll ds + 1 ≤ 64
  omega
end KX

set_option Elab.async false
set_option maxRecDepth 100000
set_option maxHeartbeats 2000000
/-! Names: texts of 1 to 8 letters a to z. -/
namespace KX
open PySem PySem.Spec PyProof.Rows L2
def isLet (c : Nat) : Bool := decide (97 ≤ c) && decide (c ≤ 122)
def isNm (z : Str) : Bool := decide (1 ≤ z.length) && decide (z.length ≤ 8) && z.cps.toList.all isLet
def nmD : PyData → Bool
  | .str z => isNm z
  | _ => false
def okN (d : PyData) : Prop := ∀ z, d = .str z → z.length ≤ 1000
theorem letters_eq : (("abcdefghijklmnopqrstuvwxyz" : Str)).cps.toList = [97, 98, 99, 100, 101, 102, 103, 104, 105, 106, 107, 108, 109, 110, 111, 112, 113, 114, 115, 116, 117, 118, 119, 120, 121, 122] := by decide +kernel
theorem mem_26 (c : Nat) : c ∈ ([97, 98, 99, 100, 101, 102, 103, 104, 105, 106, 107, 108, 109, 110, 111, 112, 113, 114, 115, 116, 117, 118, 119, 120, 121, 122] : List Nat) ↔ (97 ≤ c ∧ c ≤ 122) := by
  constructor
  · intro h
    have k : ∀ x ∈ ([97, 98, 99, 100, 101, 102, 103, 104, 105, 106, 107, 108, 109, 110, 111, 112, 113, 114, 115, 116, 117, 118, 119, 120, 121, 122] : List Nat), 97 ≤ x ∧ x ≤ 122 := by decide
    exact k c h
  · rintro ⟨h1, h2⟩
    obtain ⟨k, rfl⟩ : ∃ k, c = 97 + k := ⟨c - 97, by omega⟩
    have hk : k < 26 := by omega
    have z : ∀ k : Fin 26, 97 + k.val ∈ ([97, 98, 99, 100, 101, 102, 103, 104, 105, 106, 107, 108, 109, 110, 111, 112, 113, 114, 115, 116, 117, 118, 119, 120, 121, 122] : List Nat) := by decide
    exact z ⟨k, hk⟩
theorem mem_letters (c : Nat) : decide (c ∈ (("abcdefghijklmnopqrstuvwxyz" : Str)).cps.toList) = isLet c := by
  rw [letters_eq]
  unfold isLet
  by_cases h : 97 ≤ c ∧ c ≤ 122
  · rw [decide_eq_true h.1, decide_eq_true h.2]
    exact decide_eq_true ((mem_26 c).mpr h)
  · have e : (decide (97 ≤ c) && decide (c ≤ 122)) = false := by
      by_cases h1 : 97 ≤ c
      · rw [decide_eq_true h1, decide_eq_false (fun h2 => h ⟨h1, h2⟩)]
        rfl
      · rw [decide_eq_false h1]
        rfl
    rw [e]
    exact decide_eq_false fun q => h ((mem_26 c).mp q)
theorem one_lt (a b : Nat) : ([a] < [b]) ↔ a < b := by
  constructor
  · intro h
    rcases List.cons_lt_cons_iff.mp h with h | ⟨rfl, h⟩
    · exact h
    · exact absurd h (List.lt_irrefl _)
  · intro h
    exact List.cons_lt_cons_iff.mpr (.inl h)
theorem lo_let (c : Nat) : (!decide ((⟨#[c]⟩ : Str).cps.toList < (("a" : Str)).cps.toList)) = decide (97 ≤ c) := by
  have e : (("a" : Str)).cps.toList = [97] := by decide +kernel
  rw [e]
  show (!decide ([c] < [97])) = _
  by_cases h : 97 ≤ c
  · rw [decide_eq_true h, decide_eq_false (fun q => by have := (one_lt _ _).mp q; omega)]
    rfl
  · rw [decide_eq_false h, decide_eq_true ((one_lt _ _).mpr (by omega))]
    rfl
theorem hi_let (c : Nat) : (!decide ((("z" : Str)).cps.toList < (⟨#[c]⟩ : Str).cps.toList)) = decide (c ≤ 122) := by
  have e : (("z" : Str)).cps.toList = [122] := by decide +kernel
  rw [e]
  show (!decide ([122] < [c])) = _
  by_cases h : c ≤ 122
  · rw [decide_eq_true h, decide_eq_false (fun q => by have := (one_lt _ _).mp q; omega)]
    rfl
  · rw [decide_eq_false h, decide_eq_true ((one_lt _ _).mpr (by omega))]
    rfl
theorem nm_off {d : PyData} (h : isStrD d = false) : nmD d = false := by cases d <;> first | rfl | cases h
theorem nm_short {z : Str} (h : z.length < 1) : isNm z = false := by
  unfold isNm
  rw [decide_eq_false (by omega)]
  rfl
theorem nm_long {z : Str} (h : z.length > 8) : isNm z = false := by
  unfold isNm
  rw [decide_eq_false (show ¬ z.length ≤ 8 by omega), Bool.and_false]
  rfl
theorem nm_mid {z : Str} (h1 : ¬ z.length < 1) (h2 : ¬ z.length > 8) : isNm z = z.cps.toList.all isLet := by
  unfold isNm
  rw [decide_eq_true (by omega), decide_eq_true (by omega)]
  rfl
/-- what is promised of is_name -/
def spName (K : PySem.W.Frag) : Sp := fun vs H Q _ => ∃ (x : V) (d : PyData), vs = [x] ∧ Dp K H x d ∧ okN d ∧ ∀ H', Same H H' → Q (.bl (nmD d)) H'
def spInt (K : PySem.W.Frag) : Sp := fun vs H Q _ => ∃ (x : V) (d : PyData), vs = [x] ∧ Dp K H x d ∧ Q (.bl (isIntD d)) H
theorem str_dec (u v : Str) : decide (V.str u = V.str v) = decide (u = v) := by
  by_cases h : u = v
  · rw [h, decide_eq_true rfl, decide_eq_true rfl]
  · rw [decide_eq_false (fun q => h (V.str.inj q)), decide_eq_false h]
theorem str_dec' (u v : Str) : decide (V.str u = V.str v) = decide (v = u) := by
  rw [str_dec]
  by_cases h : u = v
  · rw [h]
  · rw [decide_eq_false h, decide_eq_false (fun q => h q.symm)]
end KX

set_option Elab.async false
set_option maxRecDepth 100000
set_option maxHeartbeats 0
namespace K30
open PySem PySem.Spec PyProof.Rows L2 He KX
def top (i : Nat) : Stmt := PySem.Challenge.pw_rowsinplace_k30_rings.main.body.getD i (.Pass ⟨0, 0, 0, 0⟩)
def frees : List Str := ["isinstance", "int", "bool", "str", "len", "all", "tuple", "list", "enumerate", "sum", "abs", "range", "max", "min", "repr"]
def gls : List Str := ["is_integer", "is_name", "opposite", "is_bound", "is_ring", "_law_bag", "_law_draw", "_law_of", "_law_name", "_law_names", "_law_numbers", "_law_round", "_law_changed", "_law_is_name", "_law_is_bound", "_law_is_round", "law"]
def chk (K : PySem.W.Frag) : Bool := (frees.all fun x => (Fa.free x).ok K) && (gls.all fun x => (Fa.glo x).ok K)
def fnD (i : Nat) (x : Str) : DefD := ⟨(x, none), x, x, defArgs (top i), defBody (top i), defScope (top i), [], []⟩
def fn : List DefD := [fnD 1 "is_integer", fnD 2 "is_name", fnD 4 "opposite", fnD 5 "is_bound", fnD 6 "is_ring", fnD 8 "_law_bag", fnD 9 "_law_draw", fnD 10 "_law_of", fnD 11 "_law_name", fnD 12 "_law_names", fnD 13 "_law_numbers", fnD 14 "_law_round", fnD 15 "_law_changed",
  fnD 16 "_law_is_name", fnD 17 "_law_is_bound", fnD 18 "_law_is_round", fnD 19 "law"]
abbrev R : PySem.W.OpenRow := PySem.W.OpenLaw.row PySem.Challenge.rw_rowsinplace_k30_rings
abbrev hk : PySem.W.Hook := hookX 4 chk fn
def ob (s : PySem.W.SharedT) : Bool × List FnW := lookX 4 chk fn (HandSHeadRun.getT s)
theorem ob_eq (s : PySem.W.SharedT) : ob s = hk.obs s.abs := lookX_eq (HandSHeadRun.getT_eq s)
def loose : List Str := (["is_integer", "is_name", "opposite", "is_bound", "is_ring", "_law_bag", "_law_draw", "_law_of", "_law_name", "_law_names", "_law_numbers", "_law_round", "_law_changed", "_law_is_name", "_law_is_bound", "_law_is_round"] : List Str)
theorem run (w : World) : HandSHeadRun.RunEq R (PySem.W.view R.prog [19]) hk ob 20000 loose w := by
  intro os
  kernel_rfl
end K30

set_option Elab.async false
set_option maxRecDepth 100000
set_option maxHeartbeats 2000000
namespace K30
open PySem PySem.Spec PyProof.Rows L2 KX
abbrev sBag : Stmt := top 8
abbrev sDraw : Stmt := top 9
abbrev sOf : Stmt := top 10



abbrev sLaw : Stmt := top 19
abbrev FnP (K : PySem.W.Frag) (x : Str) (st : Stmt) (f : Addr) (fd : FuncData) : Prop := FunD K x x (defArgs st) (defBody st) (defScope st) [] [] f fd
section
variable {P : Program} {w : World} {K : PySem.W.Frag} {mg : Str → Option Value} {base : Heap}
theorem scBag : FnScope ["script", "at", "cell", "digits"] ["script", "at"] (defScope sBag) := ⟨rfl, rfl, rfl, by decide +kernel, rfl, by decide +kernel, by decide +kernel⟩
theorem ok_bag {f : Addr} {fd : FuncData} (F : FnP K "_law_bag" sBag f fd) (gLen : mg "len" = none) (gAbs : mg "abs" = none) (gInt : mg "int" = none) : FnOk P w K mg base CX0 1 f fd ["script", "at"] (spBag K) := by
  refine F.ok scBag (fun vs H Q E h => ?_) (fun cdv A outer s H vs Q E hr h => ?_)
  · obtain ⟨a, ns, i, rfl, _⟩ := h
    rfl
  · obtain ⟨a, ns, i, rfl, hS, hl, hi, k⟩ := h
    refine ⟨_, PSs.nox (pss_cons (ps_set (i := 2) scBag.nd rfl (Or.inl rfl) (pe_ifExp (pt_cmpR op_lt (pv 1) (pe_callB call_len_seq (by rfl) gLen PySem.boot_len (pa_cons (pv 0) pa_nil)) (nomark _)) (pe_ix ix_list (pv 0) (pv 1) (fun _ _ => rfl)) pe_int))
      (pss_cons (ps_set (i := 3) scBag.nd rfl (Or.inl rfl) (pe_ifExp (pt_cmpR op_ge (pe_callB call_abs (by rfl) gAbs (by decide +kernel) (pa_cons (pv 2) pa_nil)) (pe_op op_pow pe_int pe_int) (nomark _)) (pe_callB call_abs (by rfl) gAbs (by decide +kernel) (pa_cons (pv 2) pa_nil)) pe_int))
      (pss_one (ps_ret (pe_lst (pa_cons (pv 3) (pa_cons (pe_op op_add (pe_op op_add (pe_op op_modN (pe_callTy call_int1 (by rfl) gInt (by decide +kernel) (pa_cons (pv 2) pa_nil)) pe_int) (pe_op op_mul pe_int (pv 1))) pe_int) (pa_cons pe_int pa_nil)))))))), ?_⟩
    have fin : ∀ (d z : Int), 0 ≤ d → ∀ (p : Addr), H p = none → Q (.ref p) (upd H p (.lst [.int d, .int (z.fmod 1152921504606846883 + 7001 * (i : Int) + 17), .int 0])) := by
      intro d z hd p hp
      obtain ⟨h1, h2⟩ := fmod_in (x := z) (y := 1152921504606846883) (by decide)
      exact k p _ hp (Kept.new hp) (fun x n => upd_ne n) ⟨d, _, 0, upd_same, hd, by omega, by omega, by decide, by decide⟩
    refine ⟨_, rfl, _, rfl, _, _, rfl, .inl hS, _, _, rfl, rfl, _, rfl, ?_⟩
    refine ite2 (fun c => ?_) (fun c => ?_)
    · have ci : i < ns.length := by
        have c' : (i : Int) < ((ns.map V.int).length : Int) := of_decide_eq_true c
        rw [List.length_map] at c'
        omega
      have hx : (ns.map V.int)[i]? = some (.int ns[i]) := by
        rw [List.getElem?_map, List.getElem?_eq_getElem ci]
        rfl
      refine ⟨_, rfl, _, rfl, _, _, _, _, rfl, rfl, hS, atI_nat hx, ?_⟩
      refine ⟨_, rfl, _, rfl, _, _, rfl, rfl, ⟨by decide, by decide, by decide⟩, _, _, rfl, rfl, _, rfl, ?_⟩
      refine ite2 (fun c2 => ?_) (fun c2 => ?_)
      · refine ⟨_, rfl, _, rfl, _, rfl, _, rfl, .inl ⟨_, rfl, _, _, rfl, rfl, (by show (1152921504606846883 : Int) ≠ 0; decide), _, rfl, _, _, rfl, rfl, .inl ⟨by decide, by decide⟩, _, _, rfl, rfl, _, _, rfl, rfl, ?_⟩⟩
        exact ⟨(by show 3 ≤ sizeLine; decide), fun p hp => fin _ _ (by split <;> omega) p hp⟩
      · refine ⟨_, rfl, _, rfl, .inl ⟨_, rfl, _, _, rfl, rfl, (by show (1152921504606846883 : Int) ≠ 0; decide), _, rfl, _, _, rfl, rfl, .inl ⟨by decide, by decide⟩, _, _, rfl, rfl, _, _, rfl, rfl, ?_⟩⟩
        exact ⟨(by show 3 ≤ sizeLine; decide), fun p hp => fin _ _ (by decide) p hp⟩
    · refine ⟨_, rfl, _, rfl, _, _, rfl, rfl, ⟨by decide, by decide, by decide⟩, _, _, rfl, rfl, _, rfl, ?_⟩
      refine ite2 (fun c2 => ?_) (fun c2 => ?_)
      · refine ⟨_, rfl, _, rfl, _, rfl, _, rfl, .inl ⟨_, rfl, _, _, rfl, rfl, (by show (1152921504606846883 : Int) ≠ 0; decide), _, rfl, _, _, rfl, rfl, .inl ⟨by decide, by decide⟩, _, _, rfl, rfl, _, _, rfl, rfl, ?_⟩⟩
        exact ⟨(by show 3 ≤ sizeLine; decide), fun p hp => fin _ _ (by split <;> omega) p hp⟩
      · refine ⟨_, rfl, _, rfl, .inl ⟨_, rfl, _, _, rfl, rfl, (by show (1152921504606846883 : Int) ≠ 0; decide), _, rfl, _, _, rfl, rfl, .inl ⟨by decide, by decide⟩, _, _, rfl, rfl, _, _, rfl, rfl, ?_⟩⟩
        exact ⟨(by show 3 ≤ sizeLine; decide), fun p hp => fin _ _ (by decide) p hp⟩
/-- if bag[0] > 0: a digit; else the next mixed number -/
theorem scDraw : FnScope ["bag", "many", "digit", "mixed"] ["bag", "many"] (defScope sDraw) := ⟨rfl, rfl, rfl, by decide +kernel, rfl, by decide +kernel, by decide +kernel⟩
theorem ok_draw {f : Addr} {fd : FuncData} (F : FnP K "_law_draw" sDraw f fd) (gInt : mg "int" = none) : FnOk P w K mg base CX0 1 f fd ["bag", "many"] spDraw := by
  refine F.ok scDraw (fun vs H Q E h => ?_) (fun cdv A outer s H vs Q E hr h => ?_)
  · obtain ⟨b, n, many, rfl, _⟩ := h
    rfl
  · obtain ⟨b, n, many, rfl, ⟨d, m, c, hb, hd, hm0, hm, hc0, hc⟩, hn, hp, hw, k⟩ := h
    refine ⟨_, PSs.nox (pss_cons (ps_if (pt_cmpR op_gt (pe_ix ix_list (pv 0) pe_int (fun _ _ => rfl)) pe_int (nomark _))
        (pss_cons (ps_set (i := 2) scDraw.nd rfl (Or.inl rfl) (pe_op op_modN (pe_callTy call_int1 (by rfl) gInt (by decide +kernel) (pa_cons (pe_ix ix_list (pv 0) pe_int (fun _ _ => rfl)) pa_nil)) (pv 1)))
        (pss_cons (ps_asg (pe_op op_fdivW (pe_ix ix_list (pv 0) pe_int (fun _ _ => rfl)) (pv 1)) (pg_sub (pv 0) pe_int set_list))
        (pss_one (ps_ret (pv 2)))))
        pss_nil)
      (pss_cons (ps_asg (pe_op op_add (pe_ix ix_list (pv 0) pe_int (fun _ _ => rfl)) pe_int) (pg_sub (pv 0) pe_int set_list))
      (pss_cons (ps_set (i := 3) scDraw.nd rfl (Or.inl rfl) (pe_op op_add (pe_op op_pow (pe_op op_add (pe_ix ix_list (pv 0) pe_int (fun _ _ => rfl)) (pe_op op_mul pe_int (pe_ix ix_list (pv 0) pe_int (fun _ _ => rfl)))) pe_int) (pe_op op_mul pe_int (pe_ix ix_list (pv 0) pe_int (fun _ _ => rfl)))))
      (pss_cons (ps_set (i := 3) scDraw.nd rfl (Or.inl rfl) (pe_op op_modN (pe_callTy call_int1 (by rfl) gInt (by decide +kernel) (pa_cons (pv 3) pa_nil)) pe_int))
      (pss_cons (ps_set (i := 3) scDraw.nd rfl (Or.inl rfl) (pe_op op_modN (pe_callTy call_int1 (by rfl) gInt (by decide +kernel) (pa_cons (pe_op op_pow (pe_op op_add (pv 3) (pe_op op_mul pe_int (pe_ix ix_list (pv 0) pe_int (fun _ _ => rfl)))) pe_int) pa_nil)) pe_int))
      (pss_one (ps_ret (pe_op op_modN (pe_callTy call_int1 (by rfl) gInt (by decide +kernel) (pa_cons (pe_op op_fdivN (pv 3) pe_int) pa_nil)) (pv 1))))))))), ?_⟩
    refine ⟨_, rfl, _, _, _, _, rfl, rfl, SqL.of hb, rfl, _, _, rfl, rfl, _, rfl, ?_⟩
    refine ite2 (fun c0 => ?_) (fun c0 => ?_)
    · obtain ⟨f1, f2⟩ := fmod_in (x := d) hp
      refine ⟨_, rfl, _, _, _, _, rfl, rfl, SqL.of hb, rfl, .inl ⟨_, rfl, _, rfl, _, _, rfl, rfl, (by show many ≠ 0; omega), ?_⟩⟩
      refine ⟨_, rfl, _, _, _, _, rfl, rfl, SqL.of hb, rfl, _, rfl, _, _, rfl, rfl, wide_div hp hw (by decide) (by decide), _, rfl, b, _, 0, _, rfl, rfl, hb, rfl, _, rfl, ?_⟩
      refine k _ _ f1 f2 (fun x nx => upd_ne nx) ⟨d / many, m, c, upd_same, Int.ediv_nonneg hd (by omega), hm0, hm, hc0, by omega⟩
    · refine ⟨_, rfl, _, _, _, _, rfl, rfl, SqL.of hb, rfl, _, _, rfl, rfl, _, rfl, b, _, 2, _, rfl, rfl, hb, rfl, ?_⟩
      have hb2 : upd H b (.lst [.int d, .int m, .int (c + 1)]) b = some (.lst [.int d, .int m, .int (c + 1)]) := upd_same
      refine ⟨_, rfl, _, _, _, _, rfl, rfl, SqL.of hb2, rfl, _, rfl, _, _, _, _, rfl, rfl, SqL.of hb2, rfl, _, _, rfl, rfl, .inl ⟨by decide, by decide⟩, _, _, rfl, rfl, _, _, rfl, rfl, draw_pow hm0 hm hc0 (by omega), ?_⟩
      refine ⟨_, rfl, _, _, _, _, rfl, rfl, SqL.of hb2, rfl, _, _, rfl, rfl, .inl ⟨by decide, by decide⟩, _, _, rfl, rfl, ?_⟩
      refine ⟨_, rfl, .inl ⟨_, rfl, _, _, rfl, rfl, (by show (1152921504606846869 : Int) ≠ 0; decide), ?_⟩⟩
      refine ⟨_, rfl, _, rfl, _, _, _, _, rfl, rfl, SqL.of hb2, rfl, _, _, rfl, rfl, .inl ⟨by decide, by decide⟩, _, _, rfl, rfl, _, _, rfl, rfl, draw_pow3 (fmod_in (by decide)).1 (fmod_in (by decide)).2 hc0 (by omega), .inl ⟨_, rfl, _, _, rfl, rfl, (by show (2305843009213693951 : Int) ≠ 0; decide), ?_⟩⟩
      refine ⟨_, rfl, _, _, rfl, rfl, ⟨by decide, by decide⟩, .inl ⟨_, rfl, _, rfl, _, _, rfl, rfl, (by show many ≠ 0; omega), ?_⟩⟩
      exact k _ _ (fmod_in hp).1 (fmod_in hp).2 (fun x nx => upd_ne nx) ⟨d, m, c + 1, upd_same, hd, hm0, hm, by omega, by omega⟩
theorem scOf : FnScope ["bag", "some"] ["bag", "some"] (defScope sOf) := ⟨rfl, rfl, rfl, by decide +kernel, rfl, by decide +kernel, by decide +kernel⟩
theorem ok_of {f fD : Addr} {fd fdD : FuncData} (F : FnP K "_law_of" sOf f fd) (FD : FnP K "_law_draw" sDraw fD fdD) (gD : mg "_law_draw" = some (.ref fD)) (gLen : mg "len" = none) (gInt : mg "int" = none) : FnOk P w K mg base CX0 2 f fd ["bag", "some"] (spOf K) := by
  have GD : FnOk P w K mg base CX0 1 fD fdD ["bag", "many"] spDraw := ok_draw FD gInt
  have bD : Binds K fdD ["bag", "many"] [] := FD.bindsN fun _ _ _ _ _ _ us hl => match us, hl with | [_, _], _ => rfl
  refine F.ok scOf (fun vs H Q E h => ?_) (fun cdv A outer s H vs Q E hr h => ?_)
  · obtain ⟨b, l, n, xs, rfl, _⟩ := h
    rfl
  · obtain ⟨b, l, n, xs, rfl, hB, hn, nlb, hS, h0, h1, k⟩ := h
    refine ⟨_, PSs.nox (pss_one (ps_ret (pe_ix ix_list (pv 1) (pe_call GD hr rfl gD FD.kp bD .nil pass0 (pa_cons (pv 0) (pa_cons (pe_callB call_len_seq (by rfl) gLen PySem.boot_len (pa_cons (pv 1) pa_nil)) pa_nil))) (fun _ _ => rfl)))), ?_⟩
    refine ⟨_, rfl, _, rfl, _, rfl, _, _, rfl, .inl hS, b, n, _, rfl, hB, hn, by omega, ?_, fun r H' r0 r1 hk hB' => ?_⟩
    · have e : ((xs.length : Nat) : Int).natAbs = xs.length := by simp
      rw [e]
      exact Nat.lt_of_le_of_lt h1 (by decide)
    · obtain ⟨i, rfl⟩ : ∃ i : Nat, r = i := ⟨r.toNat, by omega⟩
      have hi : i < xs.length := by omega
      have hx : xs[i]? = some xs[i] := List.getElem?_eq_getElem hi
      exact ⟨_, _, _, _, rfl, rfl, hk.kept.seq nlb hS, atI_nat hx, k i _ H' hx hk hB'⟩
end
end K30

set_option Elab.async false
set_option maxRecDepth 100000
set_option maxHeartbeats 2000000
namespace K30
open PySem PySem.Spec PyProof.Rows L2 KX
abbrev sInt : Stmt := top 1
abbrev sName : Stmt := top 2
abbrev sOpp : Stmt := top 4
abbrev sBound : Stmt := top 5
abbrev sRing : Stmt := top 6
section
variable {P : Program} {w : World} {K : PySem.W.Frag} {mg : Str → Option Value} {base : Heap}
theorem scInt : FnScope ["thing"] ["thing"] (defScope sInt) := ⟨rfl, rfl, rfl, by decide +kernel, rfl, by decide +kernel, by decide +kernel⟩
theorem ok_int {f : Addr} {fd : FuncData} (F : FnP K "is_integer" sInt f fd) (gI : mg "isinstance" = none) (gInt : mg "int" = none) (gB : mg "bool" = none) : FnOk P w K mg base CX0 1 f fd ["thing"] (spInt K) := by
  refine F.ok scInt (fun vs H Q E h => ?_) (fun cdv A outer s H vs Q E hr h => ?_)
  · obtain ⟨x, t, rfl, _⟩ := h
    rfl
  · obtain ⟨x, d, rfl, hk, k⟩ := h
    refine ⟨_, PSs.nox (pss_one (ps_ret (pe_and (pe_callB call_isi (by rfl) gI (by decide +kernel) (pa_cons (pv 0) (pa_cons (pe_bltn (v := .ty "int") (by rfl) gInt (by decide +kernel) rfl) pa_nil)))
      (pe_one (pe_not (pe_callB call_isi (by rfl) gI (by decide +kernel) (pa_cons (pv 0) (pa_cons (pe_bltn (v := .ty "bool") (by rfl) gB (by decide +kernel) rfl) pa_nil)))))))), ?_⟩
    refine ⟨_, rfl, _, _, _, _, _, rfl, .ty _, dp_ty hk, kit_int d, _, rfl, ite2' (fun c => ?_) (fun c => ?_)⟩
    · refine ⟨_, rfl, _, _, _, _, _, rfl, .ty _, dp_ty hk, kit_bool d, _, rfl, ?_⟩
      cases d <;> first | exact k | exact absurd c Bool.false_ne_true
    · have e : isIntD d = false := by cases d <;> first | rfl | exact absurd c.symm Bool.false_ne_true
      rw [← e]
      exact k
theorem scName : FnScope ["thing", "letter"] ["thing"] (defScope sName) := ⟨rfl, rfl, rfl, by decide +kernel, rfl, by decide +kernel, by decide +kernel⟩
theorem ok_name {f : Addr} {fd : FuncData} (F : FnP K "is_name" sName f fd) (gI : mg "isinstance" = none) (gS : mg "str" = none) (gL : mg "len" = none) (gA : mg "all" = none) : FnOk P w K mg base CX0 1 f fd ["thing"] (spName K) := by
  refine F.ok scName (fun vs H Q E h => ?_) (fun cdv A outer s H vs Q E hr h => ?_)
  · obtain ⟨x, t, rfl, _⟩ := h
    rfl
  · obtain ⟨x, d, rfl, hk, ho, k⟩ := h
    have nd := scName.nd
    refine ⟨_, PSs.nox (pss_cons (ps_if (PW.pt (pw_or (pt_not (pt_val (pe_callB call_isi (by rfl) gI (by decide +kernel) (pa_cons (pv 0) (pa_cons (pe_bltn (v := .ty "str") (by rfl) gS (by decide +kernel) rfl) pa_nil)))))
        (pw_or (pt_cmpR op_lt (pe_callB call_len_str (by rfl) gL PySem.boot_len (pa_cons (pv 0) pa_nil)) pe_int (nomark _)) (pw_or1 (pt_cmpR op_gt (pe_callB call_len_str (by rfl) gL PySem.boot_len (pa_cons (pv 0) pa_nil)) pe_int (nomark _)))))) (pss_one (ps_ret pe_bl)) pss_nil)
      (pss_one (ps_ret (pe_callB (cr_all rfl) (by rfl) gA (by decide +kernel) (pa_cons (pe_lc (own := [("letter", 1)]) (g := gName 1) (tt := tYes) rfl nd (pi_str (pv 0)) (blkOk_by (own := [("letter", 1)]) (N := ["thing", "letter"]) (sc := defScope sName) (by decide +kernel))
        (fun _ _ _ _ _ => pg_name (i := 1) nd rfl (Or.inl rfl)) (fun _ _ _ _ _ => pts_nil) (fun _ _ _ _ _ => pe_chain op_le_str op_le_str pe_str (pv 1) pe_str)) pa_nil))))), ?_⟩
    refine ⟨_, rfl, _, _, _, _, _, rfl, .ty _, dp_ty hk, kit_str d, _, rfl, ?_⟩
    by_cases hs : isStrD d = true
    · obtain ⟨z, rfl⟩ : ∃ z, d = .str z := by cases d <;> first | exact ⟨_, rfl⟩ | cases hs
      have hz := ho z rfl
      cases hk with
      | str =>
        have hzl : z.length ≤ sizeLine := by rw [sizeLine_eq]; omega
        refine ⟨_, rfl, _, rfl, hzl, _, _, rfl, rfl, _, rfl, ite2' (fun c1 => ?_) (fun c1 => ?_)⟩
        · have e := nm_short (z := z) (by have := of_decide_eq_true c1; omega)
          have q := k H (Same.refl H)
          rw [show nmD (.str z) = isNm z from rfl, e] at q
          exact q
        · have n1 : ¬ z.length < 1 := by have := of_decide_eq_false c1; omega
          refine ⟨_, rfl, _, rfl, hzl, _, _, rfl, rfl, _, rfl, ite2' (fun c2 => ?_) (fun c2 => ?_)⟩
          · have e := nm_long (z := z) (by have := of_decide_eq_true c2; omega)
            have q := k H (Same.refl H)
            rw [show nmD (.str z) = isNm z from rfl, e] at q
            exact q
          · have n2 : ¬ z.length > 8 := by have := of_decide_eq_false c2; omega
            refine ⟨_, rfl, z, rfl, fun D nD => ?_⟩
            refine lc_it (walk_str (z := z)) (fun i G => G D = some (.lst (((z.cps.toList.take i).map isLet).map V.bl)) ∧ Same H G) ⟨upd_same, same_put nD⟩ (fun _ _ _ _ => trivial) ?_ ?_
            · rintro i x G' G hi ⟨hD, s1⟩ ⟨rfl, c, hc, rfl⟩
              refine ⟨rfl, ?_⟩
              dsimp only [tYes]
              rw [if_pos rfl]
              have hcl : z.cps.toList[i]? = some c := by rw [Array.getElem?_toList]; exact hc
              have fin : ∃ acc, G D = some (.lst acc) ∧ acc.length < sizeLine ∧ ((upd G D (.lst (acc ++ [V.bl (isLet c)]))) D = some (.lst (((z.cps.toList.take (i + 1)).map isLet).map V.bl)) ∧ Same H (upd G D (.lst (acc ++ [V.bl (isLet c)])))) := by
                refine ⟨_, hD, ?_, ?_, fun y o e => ?_⟩
                · rw [List.length_map, List.length_map, List.length_take, sizeLine_eq]
                  have e1 : z.cps.toList.length ≤ 1000 := by rw [Array.length_toList]; exact hz
                  exact Nat.lt_of_le_of_lt (Nat.min_le_right _ _) (by omega)
                · rw [upd_same, take_at hcl, List.map_append, List.map_append]
                  rfl
                · rw [upd_ne (ne_of_none e nD)]
                  exact s1 _ _ e
              refine ⟨_, rfl, _, _, rfl, rfl, _, rfl, ?_⟩
              rw [lo_let]
              refine ite2' (fun c3 => ?_) (fun c3 => ?_)
              · refine ⟨_, _, rfl, rfl, ?_⟩
                rw [hi_let]
                have e : decide (c ≤ 122) = isLet c := by
                  unfold isLet
                  rw [c3]
                  rfl
                rw [e]
                exact fin
              · have e : isLet c = false := by
                  unfold isLet
                  rw [c3]
                  rfl
                rw [e] at fin
                exact fin
            · rintro G ⟨hD, s1⟩
              have hsz : z.cps.toList.take z.cps.size = z.cps.toList := by rw [← Array.length_toList, List.take_length]
              rw [hsz] at hD
              refine ⟨D, z.cps.toList.map isLet, rfl, SqL.of hD, ?_⟩
              have q := k G s1
              rw [show nmD (.str z) = isNm z from rfl, nm_mid n1 n2] at q
              have e : (z.cps.toList.map isLet).all id = z.cps.toList.all isLet := by rw [List.all_map]; rfl
              rw [e]
              exact q
    · have e : isStrD d = false := Bool.eq_false_iff.mpr hs
      rw [e]
      have q := k H (Same.refl H)
      rw [nm_off e] at q
      exact q
end
end K30

set_option Elab.async false
set_option maxRecDepth 100000
set_option maxHeartbeats 2000000
/-! A walk over a thing that is a list or a tuple. -/
namespace KX
open PySem PySem.Spec PyProof.Rows L2
section
variable {X : Cx} {tg : Expr}
def Sq (K : PySem.W.Frag) (H : Hp) (a : Addr) (xs : List V) : Prop := SqL K H a xs ∨ SqT K H a xs
theorem Sq.same {K : PySem.W.Frag} {H H' : Hp} {a : Addr} {xs : List V} (s : Same H H') (h : Sq K H a xs) : Sq K H' a xs := h.imp (sqL_same s) (sqT_same s)
def iSeq (K : PySem.W.Frag) (tl : TE) : TI := fun σ H R => tl σ H fun x H1 => ∃ a xs, x = .ref a ∧ Sq K H1 a xs ∧ ∀ J, Walk J xs.length (fun G => Same H1 G) (YAt xs) → R J H1
theorem pi_seq {l : Expr} {tl : TE} (hl : PE X l tl) : PI X tg l (iSeq X.K tl) := by
  refine ⟨fun pins s σ H R I h => ?_⟩
  refine thn (hl.run pins s σ H _ I h) fun v s1 ⟨x, H1, I1, r1, q1⟩ => ?_
  obtain ⟨a, xs, e, hq, q⟩ := q1
  subst e
  cases r1
  rcases hq with hq | hq
  · obtain ⟨its, rv, p, hz⟩ := I1.list hq
    refine wpAny_pyIter_list p.isList ?_
    refine ⟨s1.heap.objs.size, [s1.heap.objs.size], _, _, H1, rfl, I1.kept (t' := s1.toks) fun b o e => Heap.get?_push_of_some _ e, turn_list a _, ⟨_, Heap.get?_push_size _ rfl, rfl, rfl⟩, fun b hb => ?_, q _ (walk_list.mono (fun G z => sqL_same z hq) fun _ _ _ _ _ _ y => y)⟩
    have e : b = s1.heap.objs.size := by simpa using hb
    subst e
    exact I1.fpOk (Nat.le_refl _) (I1.hok.fresh (Nat.le_refl _))
  · obtain ⟨its, rv, p, hz⟩ := I1.tuple hq
    refine wpAny_pyIter_tuple (show s1.heap.IsTuple a its.toArray from p) ?_
    refine ⟨s1.heap.objs.size, [s1.heap.objs.size], _, _, H1, rfl, I1.kept (t' := s1.toks) fun b o e => Heap.get?_push_of_some _ e, turn_tuple a _, ⟨_, Heap.get?_push_size _ rfl, rfl, rfl⟩, fun b hb => ?_, q _ (walk_tup.mono (fun G z => sqT_same z hq) fun _ _ _ _ _ _ y => y)⟩
    have e : b = s1.heap.objs.size := by simpa using hb
    subst e
    exact I1.fpOk (Nat.le_refl _) (I1.hok.fresh (Nat.le_refl _))
def iEnumS (K : PySem.W.Frag) (ta : TA) : TI := fun σ H R => ta σ H fun vs H1 => ∃ a xs, vs = [.ref a] ∧ Sq K H1 a xs ∧ ∀ J, Walk J xs.length (fun G => Same H1 G) (YPair (fun i => some (.int (i : Nat))) (fun i => xs[i]?)) → R J H1
theorem pi_enumS {e : Expr} {ta : TA} {p pos tpos : Pos} {elts : List Expr} {kk : Nat} (hg : Gl X "enumerate") (hm : X.mg "enumerate" = none) (ha : PA X [e] ta) (hs : starEach [e] X.env = [(false, eval e X.env)] := by rfl) :
    PI X (.Tuple elts kk tpos) (.Call (.Name "enumerate" p) [e] [] pos) (iEnumS X.K ta) := by
  refine ⟨fun pins s σ H R I h => Call_ (ld_blt I hg hm boot_enumerate (PyProof.Rows.callWith_type1 (thn (ha.run pos pins s σ H _ I h) fun us s1 hh => ?_) hs rfl))⟩
  obtain ⟨vs, H1, I1, r1, a, xs, rfl, hq, q⟩ := hh
  obtain rfl := Vals.ref1 r1
  rcases hq with hq | hq
  · obtain ⟨its, rv, p', hz⟩ := I1.list hq
    refine call_enumerate_list p'.isList fun h' he hit hsz hk => wpAny_pyIter_enum he ?_
    have I2 : Inv X pins σ H1 { s1 with heap := h' } := I1.kept (t' := s1.toks) hk
    refine ⟨s1.heap.objs.size + 1, [s1.heap.objs.size + 1, s1.heap.objs.size], _, _, H1, rfl, I2, turn_enum a (s1.heap.objs.size + 1) s1.heap.objs.size, ⟨⟨.none, he⟩, hit, Nat.succ_ne_self _⟩, fun b hb => ?_, q _ (walk_enum.mono (fun G z => sqL_same z hq) fun _ _ _ _ _ _ y => y)⟩
    have hle : s1.heap.objs.size ≤ b := by
      rcases List.mem_cons.mp hb with rfl | hb
      · exact Nat.le_succ _
      · rw [List.mem_singleton.mp hb]
        exact Nat.le_refl _
    exact I1.fpOk hle (I1.hok.fresh hle)
  · obtain ⟨its, rv, p', hz⟩ := I1.tuple hq
    refine enum_tup p' fun h' he hit hk => wpAny_pyIter_enum he ?_
    have I2 : Inv X pins σ H1 { s1 with heap := h' } := I1.kept (t' := s1.toks) hk
    refine ⟨s1.heap.objs.size + 1, [s1.heap.objs.size + 1, s1.heap.objs.size], _, _, H1, rfl, I2, turn_enumT a (s1.heap.objs.size + 1) s1.heap.objs.size, ⟨⟨.none, he⟩, hit, Nat.succ_ne_self _⟩, fun b hb => ?_, q _ (walk_enumT.mono (fun G z => sqT_same z hq) fun _ _ _ _ _ _ y => y)⟩
    have hle : s1.heap.objs.size ≤ b := by
      rcases List.mem_cons.mp hb with rfl | hb
      · exact Nat.le_succ _
      · rw [List.mem_singleton.mp hb]
        exact Nat.le_refl _
    exact I1.fpOk hle (I1.hok.fresh hle)
/-- xs[i] of a list or a tuple -/
theorem atI_len {α β : Type} (f : α → β) (xs : List α) (i : Int) : atI (xs.map f) i = (atI xs i).map f := by
  unfold atI
  rw [List.length_map]
  cases ixN xs.length i with
  | none => rfl
  | some j =>
    show (xs.map f)[j]? = (xs[j]?).map f
    rw [List.getElem?_map]
end
end KX
namespace KX
open PySem PySem.Spec PyProof.Rows L2
theorem ix_of {K : PySem.W.Frag} {H : Hp} {a : Addr} {xs : List V} {i : Int} {v : V} {Q : VK} (h : Sq K H a xs) (e : atI xs i = some v) (q : Q v H) : rIx K (.ref a) (.int i) H Q :=
  h.elim (fun h => .inl ⟨a, xs, i, v, rfl, rfl, h, e, q⟩) fun h => .inr (.inl ⟨a, xs, i, v, rfl, rfl, h, e, q⟩)
/-- the place ahead of i, around -/
def pred (n i : Nat) : Nat := if i = 0 then n - 1 else i - 1
theorem pred_lt {n i : Nat} (h : i < n) : pred n i < n := by unfold pred; split <;> omega
theorem ixN_pred {n i : Nat} (h : i < n) : ixN n ((i : Int) - 1) = some (pred n i) := by
  unfold ixN pred
  by_cases h0 : i = 0
  · subst h0
    rw [if_neg (by omega), if_pos (by omega), if_pos rfl]
    congr 1
    omega
  · rw [if_pos (by omega), if_pos (by omega), if_neg h0]
    congr 1
    omega
theorem atI_pred {α : Type} {xs : List α} {i : Nat} (h : i < xs.length) : atI xs ((i : Int) - 1) = xs[pred xs.length i]? := by
  unfold atI
  rw [ixN_pred h]
  rfl
theorem range_at {n i : Nat} : (List.range n).take n = List.range n := by rw [List.take_of_length_le (by rw [List.length_range]; exact Nat.le_refl _)]
theorem map_range_succ {α : Type} (f : Nat → α) (i : Nat) : (List.range (i + 1)).map f = (List.range i).map f ++ [f i] := by
  rw [List.range_succ, List.map_append]
  rfl
theorem walk_rng {n : Nat} : Walk (Itr 0 n) n (fun _ => True) (fun i H x H' => H' = H ∧ x = .int ((i : Nat) : Int)) :=
  walk_range.mono (fun _ h => h) fun i H x H' _ _ y => ⟨y.1, by rw [y.2]; show V.int (0 + (i : Int)) = _; rw [Int.zero_add]⟩
def rLenQ (K : PySem.W.Frag) : List V → Hp → VK → Prop := fun xs H Q => ∃ p ys, xs = [.ref p] ∧ (SqL K H p ys ∨ SqT K H p ys) ∧ Q (.int ys.length) H
end KX

set_option Elab.async false
set_option maxRecDepth 100000
set_option maxHeartbeats 2000000
/-! Drawn names: what is promised of them, and their texts. -/
namespace KX
open PySem PySem.Spec PyProof.Rows L2
abbrev tlc (z : Str) : List Nat := z.cps.toList
theorem tlc_len (z : Str) : (tlc z).length = z.length := Array.length_toList
theorem tlc_app (x y : Str) : tlc (x ++ y) = tlc x ++ tlc y := Array.toList_append
theorem nm_inv {z : Str} (h : isNm z = true) : 1 ≤ z.length ∧ z.length ≤ 8 ∧ ∀ c ∈ tlc z, isLet c = true := by
  unfold isNm at h
  obtain ⟨h, h3⟩ := Bool.and_eq_true_iff.mp h
  obtain ⟨h1, h2⟩ := Bool.and_eq_true_iff.mp h
  exact ⟨of_decide_eq_true h1, of_decide_eq_true h2, List.all_eq_true.mp h3⟩
theorem nm_of {z : Str} (h1 : 1 ≤ z.length) (h2 : z.length ≤ 8) (h3 : ∀ c ∈ tlc z, isLet c = true) : isNm z = true := by
  unfold isNm
  rw [decide_eq_true h1, decide_eq_true h2, List.all_eq_true.mpr h3]
  rfl
theorem join0 : ∀ zs : List Nat, tlc (Str.join ⟨#[]⟩ (zs.map fun c => (⟨#[c]⟩ : Str))) = zs
  | [] => rfl
  | [c] => rfl
  | c :: d :: r => by
    have ih := join0 (d :: r)
    show tlc ((⟨#[c]⟩ : Str) ++ ⟨#[]⟩ ++ Str.join ⟨#[]⟩ ((d :: r).map fun c => (⟨#[c]⟩ : Str))) = _
    rw [tlc_app, tlc_app, ih]
    rfl
theorem letters_at : ∀ {j : Nat}, j < 26 → (("abcdefghijklmnopqrstuvwxyz" : Str)).cps.toList[j]? = some (97 + j) := by
  intro j h
  rw [letters_eq]
  have z : ∀ k : Fin 26, ([97, 98, 99, 100, 101, 102, 103, 104, 105, 106, 107, 108, 109, 110, 111, 112, 113, 114, 115, 116, 117, 118, 119, 120, 121, 122] : List Nat)[k.val]? = some (97 + k.val) := by decide
  exact z ⟨j, h⟩
theorem let_at {j : Nat} (h : j < 26) : isLet (97 + j) = true := by
  unfold isLet
  rw [decide_eq_true (by omega), decide_eq_true (by omega)]
  rfl
theorem inV_str (z : Str) (zs : List Str) : inV (.str z) (zs.map V.str) = decide (z ∈ zs) := by
  unfold inV
  rw [List.any_map]
  by_cases h : z ∈ zs
  · rw [decide_eq_true h]
    exact List.any_eq_true.mpr ⟨z, h, by show (z == z) = true; exact beq_self_eq_true z⟩
  · rw [decide_eq_false h]
    refine List.any_eq_false.mpr fun y hy => ?_
    show ¬ (y == z) = true
    rw [beq_iff_eq]
    rintro rfl
    exact h hy
theorem flat_strs (zs : List Str) : (zs.map V.str).all flatV = true := by
  rw [List.all_map]
  exact List.all_eq_true.mpr fun _ _ => rfl
theorem cutS_to {z : Str} {i : Nat} (h : i ≤ z.length) : tlc (cutS z none (some (i : Int))) = (tlc z).take i := by
  unfold cutS tlc
  rw [HT.sIx_none, HT.sIx_nat, List.drop_zero, Nat.min_eq_left h, Nat.sub_zero]
theorem cutS_from {z : Str} {i : Nat} (h : i ≤ z.length) : tlc (cutS z (some (i : Int)) none) = (tlc z).drop i := by
  unfold cutS tlc
  rw [HT.sIx_none, HT.sIx_nat, Nat.min_eq_left h]
  refine List.take_of_length_le ?_
  rw [List.length_drop, Array.length_toList]
  exact Nat.le_refl _
theorem nm_splice {one : Str} {at_ c : Nat} (h : isNm one = true) (ha : at_ < one.length) (hc : isLet c = true) : isNm (cutS one none (some (at_ : Int)) ++ ⟨#[c]⟩ ++ cutS one (some ((at_ : Int) + 1)) none) = true := by
  obtain ⟨h1, h2, h3⟩ := nm_inv h
  have e : tlc (cutS one none (some (at_ : Int)) ++ ⟨#[c]⟩ ++ cutS one (some ((at_ : Int) + 1)) none) = (tlc one).take at_ ++ [c] ++ (tlc one).drop (at_ + 1) := by
    rw [tlc_app, tlc_app, cutS_to (by omega)]
    congr 1
    exact cutS_from (i := at_ + 1) (by omega)
  have hl : (cutS one none (some (at_ : Int)) ++ ⟨#[c]⟩ ++ cutS one (some ((at_ : Int) + 1)) none).length = one.length := by
    rw [← tlc_len, e, List.length_append, List.length_append, List.length_take, List.length_drop, tlc_len]
    show min at_ one.length + 1 + (one.length - (at_ + 1)) = one.length
    omega
  refine nm_of (by omega) (by omega) fun d hd => ?_
  rw [e] at hd
  rcases List.mem_append.mp hd with hd | hd
  · rcases List.mem_append.mp hd with hd | hd
    · exact h3 d (List.mem_of_mem_take hd)
    · rw [List.mem_singleton.mp hd]
      exact hc
  · exact h3 d (List.mem_of_mem_drop hd)
theorem cutS_len (z : Str) (lo hi : Option Int) : (cutS z lo hi).length ≤ z.length := by
  rw [← tlc_len, ← tlc_len]
  unfold cutS tlc
  show (List.take _ (List.drop _ z.cps.toList)).length ≤ _
  rw [List.length_take, List.length_drop]
  omega
/-- _law_name -/
def spLName : Sp := fun vs H Q _ => ∃ (b : Addr) (n : Int), vs = [.ref b] ∧ Bag H b n ∧ n < 900000 ∧ ∀ z G, isNm z = true → Kept b H G → Bag G b (n + 9) → Q (.str z) G
/-- a new list of unlike names -/
def Names (b F : Addr) (H G : Hp) (zs : List Str) (m : Int) : Prop :=
  H F = none ∧ F ≠ b ∧ Kept b H G ∧ Bag G b m ∧ G F = some (.lst (zs.map V.str)) ∧ zs.Nodup ∧ ∀ z ∈ zs, isNm z = true
/-- _law_names -/
def spLNames : Sp := fun vs H Q _ => ∃ (b : Addr) (n : Int) (many : Nat), vs = [.ref b, .int (many : Int)] ∧ Bag H b n ∧ n < 800000 ∧ 1 ≤ many ∧ many ≤ 100 ∧ ∀ F zs G, Names b F H G zs (n + 20 * many) → 1 ≤ zs.length → zs.length ≤ many → Q (.ref F) G
/-- _law_numbers -/
def spLNums : Sp := fun vs H Q _ => ∃ (b : Addr) (n : Int) (many : Nat), vs = [.ref b, .int (many : Int)] ∧ Bag H b n ∧ n < 800000 ∧ 1 ≤ many ∧ many ≤ 100 ∧ ∀ F zs G, Names b F H G zs (n + 20 * many) → 1 ≤ zs.length → zs.length ≤ many + 1 → Q (.ref F) G
theorem seq_by {A B : TS} {D : Ends} {σ : L2.St} {H : Hp} (R : L2.St → Hp → Prop) (h2 : ∀ σ H, R σ H → B D σ H) (h1 : (∀ σ H, R σ H → B D σ H) → A { D with nx := fun σ H => B D σ H } σ H) : tSeq A B D σ H := h1 h2
theorem Bag.but {H G : Hp} {b : Addr} {m : Int} (k : But b H G) {x : Addr} (n : x ≠ b) : G x = H x := k x n
/-- within _law_names: the names found so far at F -/
structure LN (b F : Addr) (H G : Hp) (zs : List Str) (m : Int) : Prop where
  bag : Bag G b m
  fnd : G F = some (.lst (zs.map V.str))
  kept : Kept b H G
  ne : F ≠ b
  nd : zs.Nodup
  nm : ∀ z ∈ zs, isNm z = true
theorem LN.to {b F : Addr} {H G G' : Hp} {zs : List Str} {m m' : Int} (h : LN b F H G zs m) (k : Kept b G G') (hB : Bag G' b m') : LN b F H G' zs m' :=
  ⟨hB, k F _ h.ne h.fnd, h.kept.trans k, h.ne, h.nd, h.nm⟩
theorem LN.le {b F : Addr} {H G : Hp} {zs : List Str} {m m' : Int} (h : LN b F H G zs m) (q : m ≤ m') : LN b F H G zs m' := ⟨h.bag.mono q, h.fnd, h.kept, h.ne, h.nd, h.nm⟩
theorem LN.add {b F : Addr} {H G : Hp} {zs : List Str} {m : Int} {z : Str} (h : LN b F H G zs m) (hF : H F = none) (hz : isNm z = true) (n : z ∉ zs) : LN b F H (upd G F (.lst (zs.map V.str ++ [.str z]))) (zs ++ [z]) m := by
  refine ⟨h.bag.put h.ne, ?_, fun x o nx e => (upd_ne (ne_of_none e hF)).trans (h.kept x o nx e), h.ne, ?_, fun y hy => ?_⟩
  · rw [upd_same, List.map_append]
    rfl
  · refine List.nodup_append.mpr ⟨h.nd, by simp, fun x hx y hy => ?_⟩
    rw [List.mem_singleton.mp hy]
    rintro rfl
    exact n hx
  · rcases List.mem_append.mp hy with hy | hy
    · exact h.nm y hy
    · rw [List.mem_singleton.mp hy]
      exact hz
theorem atI_zero {α : Type} {xs : List α} (h : 0 < xs.length) : ∃ x, atI xs 0 = some x ∧ x ∈ xs := by
  match xs, h with
  | x :: r, _ => exact ⟨x, by unfold atI ixN; rw [if_pos (by decide), if_pos (by rw [List.length_cons]; omega)]; rfl, List.mem_cons_self⟩
theorem nm_line {z : Str} (h : isNm z = true) : z.length ≤ sizeLine := by
  have := (nm_inv h).2.1
  rw [sizeLine_eq]
  omega
theorem flt_take {α : Type} {xs : List α} {i : Nat} {x : α} {p : α → Bool} (h : xs[i]? = some x) : (xs.take (i + 1)).filter p = (xs.take i).filter p ++ (if p x = true then [x] else []) := by
  rw [take_at h, List.filter_append]
  congr 1
  by_cases e : p x = true
  · rw [if_pos e]
    exact List.filter_cons_of_pos e
  · rw [if_neg e]
    exact List.filter_cons_of_neg e
theorem ne_dec (u v : Str) : (!decide (V.str u = V.str v)) = decide (u ≠ v) := by
  rw [str_dec]
  by_cases h : u = v
  · rw [decide_eq_true h, decide_eq_false (fun q => q h)]
    rfl
  · rw [decide_eq_false h, decide_eq_true h]
    rfl
theorem atI_end {α : Type} {xs : List α} (h : 0 < xs.length) : ∃ x, atI xs (-1) = some x ∧ x ∈ xs := by
  have e : ixN xs.length (-1) = some (xs.length - 1) := by
    unfold ixN
    rw [if_neg (by decide), if_pos (by omega)]
    congr 1
    omega
  have hl : xs.length - 1 < xs.length := by omega
  refine ⟨xs[xs.length - 1], ?_, List.getElem_mem hl⟩
  unfold atI
  rw [e]
  exact List.getElem?_eq_getElem hl
theorem atI_map {α β : Type} {f : α → β} {xs : List α} {i : Int} {x : α} (h : atI xs i = some x) : atI (xs.map f) i = some (f x) := by
  rw [atI_len, h]
  rfl
theorem two_unlike {α : Type} : ∀ {xs : List α}, xs.Nodup → 2 ≤ xs.length → ∀ z, ∃ y ∈ xs, y ≠ z
  | x :: y :: r, h, _, z => by
    by_cases e : x = z
    · refine ⟨y, by simp, fun q => ?_⟩
      have := (List.nodup_cons.mp h).1
      rw [e, ← q] at this
      exact this (by simp)
    · exact ⟨x, by simp, e⟩
  | [_], _, h, _ => by simp at h
  | [], _, h, _ => by simp at h
theorem sum_le {m : Nat} : ∀ {ns : List Int}, (∀ x ∈ ns, x.natAbs ≤ m) → ns.sum.natAbs ≤ ns.length * m
  | [], _ => by simp
  | x :: r, h => by
    have h1 := h x List.mem_cons_self
    have h2 := sum_le (ns := r) fun y hy => h y (List.mem_cons_of_mem _ hy)
    rw [List.sum_cons, List.length_cons, Nat.succ_mul]
    omega
/-- a list that grows, made within -/
structure RD (b F : Addr) (H G : Hp) (rs : List Str) (m : Int) : Prop where
  bag : Bag G b m
  fnd : G F = some (.lst (rs.map V.str))
  kept : Kept b H G
  ne : F ≠ b
theorem RD.to {b F : Addr} {H G G' : Hp} {rs : List Str} {m m' : Int} (h : RD b F H G rs m) (k : Kept b G G') (hB : Bag G' b m') : RD b F H G' rs m' := ⟨hB, k F _ h.ne h.fnd, h.kept.trans k, h.ne⟩
theorem RD.le {b F : Addr} {H G : Hp} {rs : List Str} {m m' : Int} (h : RD b F H G rs m) (q : m ≤ m') : RD b F H G rs m' := ⟨h.bag.mono q, h.fnd, h.kept, h.ne⟩
theorem RD.set {b F : Addr} {H G : Hp} {rs qs : List Str} {m : Int} (h : RD b F H G rs m) (hF : H F = none) : RD b F H (upd G F (.lst (qs.map V.str))) qs m :=
  ⟨h.bag.put h.ne, upd_same, fun x o nx e => (upd_ne (ne_of_none e hF)).trans (h.kept x o nx e), h.ne⟩
end KX

set_option Elab.async false
set_option maxRecDepth 100000
set_option maxHeartbeats 2000000
/-! Bounds and rings, in plain words. -/
namespace KX
open PySem PySem.Spec PyProof.Rows L2
abbrev Bd := Str × Str × Int
/-- a bound, if it is one -/
def bd3 : PyData → Option Bd
  | .tuple [.str u, .str v, .int c] => if (isNm u && (isNm v && !decide (u = v))) = true then some (u, v, c) else none
  | _ => none
def bdD (d : PyData) : Bool := (bd3 d).isSome
def okBd (d : PyData) : Prop := ∀ ds, d = .tuple ds → ds.length ≤ 1000 ∧ ∀ e ∈ ds, okN e
def okRing (d : PyData) : Prop := ∀ ds, d = .list ds ∨ d = .tuple ds → ds.length ≤ 1000 ∧ ∀ e ∈ ds, okBd e
def jb (ts : List Bd) (i : Nat) : Bool :=
  match ts[pred ts.length i]?, ts[i]? with
  | some p, some q => decide (p.2.1 = q.1)
  | _, _ => false
def rgT (ts : List Bd) : Bool := (List.range ts.length).all (jb ts) && decide ((ts.map fun t => t.2.2).sum < 0)
def bdOf (d : PyData) : Bd := (bd3 d).getD (⟨#[]⟩, ⟨#[]⟩, 0)
def rgL (ds : List PyData) : Bool := ds.all bdD && rgT (ds.map bdOf)
def rgD : PyData → Bool
  | .list ds => rgL ds
  | .tuple ds => rgL ds
  | _ => false
theorem rg_nil : rgL [] = false := by
  show (true && ((List.range 0).all _ && decide (([] : List Int).sum < 0))) = false
  rfl
/-- a bound that stands at x -/
def BdAt (K : PySem.W.Frag) (H : Hp) (x : V) (t : Bd) : Prop := ∃ a, x = .ref a ∧ SqT K H a [.str t.1, .str t.2.1, .int t.2.2]
theorem bd3_inv {d : PyData} {t : Bd} (h : bd3 d = some t) : d = .tuple [.str t.1, .str t.2.1, .int t.2.2] ∧ isNm t.1 = true ∧ isNm t.2.1 = true ∧ t.1 ≠ t.2.1 := by
  unfold bd3 at h
  split at h
  · split at h
    · rename_i u v c hc
      cases h
      obtain ⟨h1, h2⟩ := Bool.and_eq_true_iff.mp hc
      obtain ⟨h2, h3⟩ := Bool.and_eq_true_iff.mp h2
      refine ⟨rfl, h1, h2, fun e => ?_⟩
      rw [decide_eq_true e] at h3
      cases h3
    · cases h
  · cases h
theorem dp_tup3 {K : PySem.W.Frag} {H : Hp} {x : V} {u v : Str} {c : Int} (h : Dp K H x (.tuple [.str u, .str v, .int c])) : BdAt K H x (u, v, c) := by
  cases h with
  | tup hS ha =>
    cases ha with
    | cons h1 ha =>
      cases ha with
      | cons h2 ha =>
        cases ha with
        | cons h3 ha =>
          cases ha
          cases h1
          cases h2
          cases h3
          exact ⟨_, rfl, hS⟩
theorem bd_at {K : PySem.W.Frag} {H : Hp} {x : V} {d : PyData} (h : Dp K H x d) (hb : bdD d = true) : BdAt K H x (bdOf d) := by
  unfold bdD at hb
  unfold bdOf
  cases e : bd3 d with
  | none =>
    rw [e] at hb
    cases hb
  | some t =>
    obtain ⟨rfl, _⟩ := bd3_inv e
    exact dp_tup3 h
theorem BdAt.same {K : PySem.W.Frag} {H H' : Hp} {x : V} {t : Bd} (s : Same H H') (h : BdAt K H x t) : BdAt K H' x t := h.imp fun a h => ⟨h.1, sqT_same s h.2⟩
theorem bd_off {d : PyData} (h : isTupD d = false) : bdD d = false := by cases d <;> first | rfl | cases h
theorem bd_len {ds : List PyData} (h : ds.length ≠ 3) : bdD (.tuple ds) = false := by
  unfold bdD
  cases e : bd3 (.tuple ds) with
  | none => rfl
  | some t =>
    have q := PyData.tuple.inj (bd3_inv e).1
    rw [q] at h
    exact absurd rfl h
/-- two texts are not the same one -/
def neS : PyData → PyData → Bool
  | .str u, .str v => !decide (u = v)
  | _, _ => true
/-- what bdD is, part by part -/
theorem bd_parts (a b c : PyData) : bdD (.tuple [a, b, c]) = (nmD a && (nmD b && (neS a b && isIntD c))) := by
  unfold bdD bd3
  cases a <;> try rfl
  rename_i u
  cases b <;> try (show (false : Bool) = (isNm u && (false && _)); cases isNm u <;> rfl)
  rename_i v
  cases c <;> try (show false = (isNm u && (isNm v && (!decide (u = v) && false))); cases isNm u <;> cases isNm v <;> cases decide (u = v) <;> rfl)
  show (if (isNm u && (isNm v && !decide (u = v))) = true then some ((u, v, _) : Bd) else none).isSome = (isNm u && (isNm v && (!decide (u = v) && true)))
  cases isNm u <;> cases isNm v <;> cases decide (u = v) <;> rfl
theorem bds_at {K : PySem.W.Frag} {H : Hp} {xs : List V} {ds : List PyData} {i : Nat} {x : V} (hA : DpAll K H xs ds) (hb : ds.all bdD = true) (h : xs[i]? = some x) : ∃ t, (ds.map bdOf)[i]? = some t ∧ BdAt K H x t := by
  obtain ⟨d, hd, hx⟩ := dpall_at hA h
  refine ⟨bdOf d, ?_, bd_at hx (List.all_eq_true.mp hb d (List.mem_of_getElem? hd))⟩
  rw [List.getElem?_map, hd]
  rfl
theorem jb_eq {ts : List Bd} {i : Nat} {p q : Bd} (hp : ts[pred ts.length i]? = some p) (hq : ts[i]? = some q) : jb ts i = decide (p.2.1 = q.1) := by
  unfold jb
  rw [hp, hq]
/-- what _law_is_round asks of a list of things -/
def okE (e : PyData) : Prop := okBd e ∧ e.canLay0 = true ∧ e.depth ≤ 60
def spRound (K : PySem.W.Frag) : Sp := fun vs H Q _ => ∃ (l : Addr) (xs : List V) (ds : List PyData), vs = [.ref l] ∧ SqL K H l xs ∧ DpAll K H xs ds ∧ ds.length ≤ 1000 ∧ (∀ e ∈ ds, okE e) ∧ ∀ H', Same H H' → Q (.bl (rgL ds)) H'
def spBound (K : PySem.W.Frag) : Sp := fun vs H Q _ => ∃ (x : V) (d : PyData), vs = [x] ∧ Dp K H x d ∧ okBd d ∧ ∀ H', Same H H' → Q (.bl (bdD d)) H'
def spOpp (K : PySem.W.Frag) : Sp := fun vs H Q _ => ∃ (a : Addr) (x y : V) (c : Int), vs = [.ref a] ∧ SqT K H a [x, y, .int c] ∧ ∀ p, H p = none → Q (.ref p) (upd H p (.tup [y, x, .int (-c - 1)]))
def spRing (K : PySem.W.Frag) : Sp := fun vs H Q _ => ∃ (x : V) (d : PyData), vs = [x] ∧ Dp K H x d ∧ okRing d ∧ ∀ H', Same H H' → Q (.bl (rgD d)) H'
/-- a bound's data, its constant not beyond m -/
def BdX (m : Nat) (d : PyData) : Prop := ∃ u v c, d = .tuple [.str u, .str v, .int c] ∧ isNm u = true ∧ isNm v = true ∧ c.natAbs ≤ m
/-- _law_round -/
def spRnd (K : PySem.W.Frag) : Sp := fun vs H Q _ => ∃ (b L : Addr) (n : Int) (zs : List Str), vs = [.ref b, .ref L] ∧ Bag H b n ∧ n < 700000 ∧ L ≠ b ∧ H L = some (.lst (zs.map V.str)) ∧ zs.Nodup ∧ 2 ≤ zs.length ∧ zs.length ≤ 100 ∧ (∀ z ∈ zs, isNm z = true) ∧
  ∀ R rs ds G, H R = none → R ≠ b → Kept b H G → Bag G b (n + 60) → G R = some (.lst rs) → DpAll K G rs ds → 1 ≤ ds.length → ds.length ≤ 8 → (∀ d ∈ ds, BdX (10 ^ 29) d) → Q (.ref R) G
/-- a bound's tuple, made within -/
def BdT (G : Hp) (x : V) (t : Bd) : Prop := ∃ a, x = .ref a ∧ G a = some (.tup [.str t.1, .str t.2.1, .int t.2.2])
theorem BdT.off {G : Hp} {x : V} {t : Bd} {R : Addr} {ys : List V} {o : HO} (h : BdT G x t) (e : G R = some (.lst ys)) : BdT (upd G R o) x t := by
  obtain ⟨a, rfl, ha⟩ := h
  refine ⟨a, rfl, (upd_ne ?_).trans ha⟩
  rintro rfl
  rw [e] at ha
  cases ha
theorem BdT.kept {b : Addr} {n : Int} {G G' : Hp} {x : V} {t : Bd} (h : BdT G x t) (hB : Bag G b n) (k : Kept b G G') : BdT G' x t := by
  obtain ⟨a, rfl, ha⟩ := h
  refine ⟨a, rfl, k a _ ?_ ha⟩
  rintro rfl
  obtain ⟨d, m, c, e, _⟩ := hB
  rw [e] at ha
  cases ha
theorem BdT.same {G G' : Hp} {x : V} {t : Bd} (h : BdT G x t) (k : Same G G') : BdT G' x t := h.imp fun a h => ⟨h.1, k _ _ h.2⟩
def bdX (t : Bd) : PyData := .tuple [.str t.1, .str t.2.1, .int t.2.2]
theorem bts_dp {K : PySem.W.Frag} {G : Hp} : ∀ {xs : List V} {ts : List Bd}, Paired (BdT G) xs ts → DpAll K G xs (ts.map bdX)
  | _, _, .nil => .nil
  | _, _, .cons h r => by
    obtain ⟨a, rfl, ha⟩ := h
    exact .cons (.tup (SqT.of ha) (.cons (.str _) (.cons (.str _) (.cons (.int _) .nil)))) (bts_dp r)
theorem pair_imp {α β : Type} {P Q : α → β → Prop} (h : ∀ x y, P x y → Q x y) : ∀ {xs : List α} {ys : List β}, Paired P xs ys → Paired Q xs ys
  | _, _, .nil => .nil
  | _, _, .cons a r => .cons (h _ _ a) (pair_imp h r)
theorem pair_snoc {α β : Type} {P : α → β → Prop} {x : α} {y : β} (h : P x y) : ∀ {xs : List α} {ys : List β}, Paired P xs ys → Paired P (xs ++ [x]) (ys ++ [y])
  | _, _, .nil => .cons h .nil
  | _, _, .cons a r => .cons a (pair_snoc h r)
theorem pair_len {α β : Type} {P : α → β → Prop} : ∀ {xs : List α} {ys : List β}, Paired P xs ys → xs.length = ys.length
  | _, _, .nil => rfl
  | _, _, .cons _ r => congrArg (· + 1) (pair_len r)
theorem cut_from {α : Type} (xs : List V) (i : Nat) (h : i ≤ xs.length) : cutV xs (some (i : Int)) none = xs.drop i := by
  unfold cutV
  rw [HT.sIx_none, HT.sIx_nat, Nat.min_eq_left h]
  refine List.take_of_length_le ?_
  rw [List.length_drop]
  exact Nat.le_refl _
end KX

set_option Elab.async false
set_option maxRecDepth 100000
set_option maxHeartbeats 2000000
namespace K30
open PySem PySem.Spec PyProof.Rows L2 KX
section
variable {P : Program} {w : World} {K : PySem.W.Frag} {mg : Str → Option Value} {base : Heap}
theorem scOpp : FnScope ["bound", "u", "v", "c"] ["bound"] (defScope sOpp) := ⟨rfl, rfl, rfl, by decide +kernel, rfl, by decide +kernel, by decide +kernel⟩
theorem ok_opp {f : Addr} {fd : FuncData} (F : FnP K "opposite" sOpp f fd) : FnOk P w K mg base CX0 1 f fd ["bound"] (spOpp K) := by
  refine F.ok scOpp (fun vs H Q E h => ?_) (fun cdv A outer s H vs Q E hr h => ?_)
  · obtain ⟨a, x, y, c, rfl, _⟩ := h
    rfl
  · obtain ⟨a, x, y, c, rfl, hS, k⟩ := h
    have nd := scOpp.nd
    refine ⟨_, PSs.nox (pss_cons (ps_asg (pv 0) (pg_tup rfl (pgs_cons (pg_name (i := 1) nd rfl (Or.inl rfl)) (pgs_cons (pg_name (i := 2) nd rfl (Or.inl rfl)) (pgs_cons (pg_name (i := 3) nd rfl (Or.inl rfl)) pgs_nil)))))
      (pss_one (ps_ret (pe_tup (pa_cons (pv 2) (pa_cons (pv 1) (pa_cons (pe_op op_sub (pe_un un_neg (pv 3)) pe_int) pa_nil))))))), ?_⟩
    refine ⟨_, rfl, _, _, rfl, hS, rfl, _, _, rfl, _, _, rfl, _, _, rfl, rfl, ?_⟩
    exact ⟨_, rfl, _, rfl, _, rfl, _, rfl, _, _, rfl, rfl, (by show 3 ≤ sizeLine; decide), fun p np => k p np⟩
theorem scBound : FnScope ["thing", "u", "v", "c"] ["thing"] (defScope sBound) := ⟨rfl, rfl, rfl, by decide +kernel, rfl, by decide +kernel, by decide +kernel⟩
theorem ok_bound {f fI fN : Addr} {fd fdI fdN : FuncData} (F : FnP K "is_bound" sBound f fd) (FI : FnP K "is_integer" sInt fI fdI) (FN : FnP K "is_name" sName fN fdN) (g : mg "is_integer" = some (.ref fI)) (gN : mg "is_name" = some (.ref fN))
    (n_isinstance : mg "isinstance" = none) (n_int : mg "int" = none) (n_bool : mg "bool" = none) (n_str : mg "str" = none) (n_tuple : mg "tuple" = none) (n_len : mg "len" = none) (n_all : mg "all" = none) : FnOk P w K mg base CX0 2 f fd ["thing"] (spBound K) := by
  have GI : FnOk P w K mg base CX0 1 fI fdI ["thing"] (spInt K) := ok_int FI n_isinstance n_int n_bool
  have bI : Binds K fdI ["thing"] [] := FI.bindsN fun _ _ _ _ _ _ us hl => match us, hl with | [_], _ => rfl
  have GN : FnOk P w K mg base CX0 1 fN fdN ["thing"] (spName K) := ok_name FN n_isinstance n_str n_len n_all
  have bN : Binds K fdN ["thing"] [] := FN.bindsN fun _ _ _ _ _ _ us hl => match us, hl with | [_], _ => rfl
  refine F.ok scBound (fun vs H Q E h => ?_) (fun cdv A outer s H vs Q E hr h => ?_)
  · obtain ⟨x, t, rfl, _⟩ := h
    rfl
  · obtain ⟨x, d, rfl, hk, ho, k⟩ := h
    have nd := scBound.nd
    refine ⟨_, PSs.nox (pss_cons (ps_if (PW.pt (pw_or (pt_not (pt_val (pe_callB call_isi (by rfl) n_isinstance (by decide +kernel) (pa_cons (pv 0) (pa_cons (pe_bltn (v := .ty "tuple") (by rfl) n_tuple (by decide +kernel) rfl) pa_nil))))) (pw_or1 (pt_cmpR op_ne (pe_callB call_len_seq (by rfl) n_len PySem.boot_len (pa_cons (pv 0) pa_nil)) pe_int (nomark _)))))
(pss_one (ps_ret pe_bl))
pss_nil)
(pss_cons (ps_asg (pv 0) (pg_tup rfl (pgs_cons (pg_name (i := 1) nd rfl (Or.inl rfl)) (pgs_cons (pg_name (i := 2) nd rfl (Or.inl rfl)) (pgs_cons (pg_name (i := 3) nd rfl (Or.inl rfl)) pgs_nil)))))
(pss_one (ps_ret (pe_and (pe_call GN hr rfl gN FN.kp bN .nil pass0 (pa_cons (pv 1) pa_nil)) (pe_and (pe_call GN hr rfl gN FN.kp bN .nil pass0 (pa_cons (pv 2) pa_nil)) (pe_and (pe_cmpR op_ne (pv 1) (pv 2) (nomark _)) (pe_one (pe_call GI hr rfl g FI.kp bI .nil pass0 (pa_cons (pv 3) pa_nil)))))))))), ?_⟩
    refine ⟨_, rfl, _, _, _, _, _, rfl, .ty _, dp_ty hk, kit_tup d, _, rfl, ?_⟩
    by_cases ht : isTupD d = true
    · obtain ⟨ds, rfl⟩ : ∃ ds, d = .tuple ds := by cases d <;> first | exact ⟨_, rfl⟩ | cases ht
      obtain ⟨hl, hn⟩ := ho ds rfl
      cases hk with
      | @tup a xs _ hS hA =>
        have hxd := dpall_len hA
        refine ⟨_, rfl, _, _, rfl, .inr hS, rfl, _, rfl, ite2' (fun c3 => ?_) (fun c3 => ?_)⟩
        · have n : ds.length ≠ 3 := by
            have := len_notN 3 c3
            omega
          have q := k H (Same.refl H)
          rw [bd_len n] at q
          exact q
        · have e := len_isN 3 c3
          · obtain ⟨x, y, z, da, db, dc, rfl, rfl, h1, h2, h3⟩ := dpall_3 hA e
            clear hA e c3
            refine ⟨_, rfl, _, _, rfl, hS, rfl, _, _, rfl, _, _, rfl, _, _, rfl, rfl, ?_⟩
            have hq : ∀ H', Same H H' → Q (.bl (nmD da && (nmD db && (neS da db && isIntD dc)))) H' := fun H' s => by rw [← bd_parts]; exact k H' s
            refine ⟨_, rfl, x, da, rfl, h1, hn da (by simp), fun H1 s1 => ⟨_, rfl, ite2' (fun c1 => ?_) (fun c1 => ?_)⟩⟩
            · rw [c1] at hq
              refine ⟨_, rfl, y, db, rfl, dp_same s1 _ _ h2, hn db (by simp), fun H2 s2 => ⟨_, rfl, ite2' (fun c2 => ?_) (fun c2 => ?_)⟩⟩
              · rw [c2] at hq
                have s3 := s1.trans s2
                obtain ⟨u, rfl⟩ : ∃ u, da = .str u := by cases da <;> first | exact ⟨_, rfl⟩ | cases c1
                obtain ⟨v, rfl⟩ : ∃ u, db = .str u := by cases db <;> first | exact ⟨_, rfl⟩ | cases c2
                cases h1
                cases h2
                have ed : decide (V.str u = V.str v) = decide (u = v) := by
                  by_cases h : u = v
                  · rw [h, decide_eq_true rfl, decide_eq_true rfl]
                  · rw [decide_eq_false (fun q => h (V.str.inj q)), decide_eq_false h]
                have hq2 : ∀ H', Same H H' → Q (.bl ((!decide (u = v)) && isIntD dc)) H' := hq
                refine ⟨_, rfl, _, rfl, rfl, _, rfl, ?_⟩
                rw [ed]
                refine ite2' (fun c4 => ?_) (fun c4 => ?_)
                · rw [c4] at hq2
                  exact ⟨_, rfl, z, dc, rfl, dp_same s3 _ _ h3, hq2 H2 s3⟩
                · rw [c4] at hq2
                  exact hq2 H2 s3
              · rw [c2] at hq
                exact hq H2 (s1.trans s2)
            · rw [c1] at hq
              exact hq H1 s1
    · have e : isTupD d = false := Bool.eq_false_iff.mpr ht
      rw [e]
      have q := k H (Same.refl H)
      rw [bd_off e] at q
      exact q
end
end K30

set_option Elab.async false
set_option maxRecDepth 100000
set_option maxHeartbeats 1000000
namespace K30
open PySem PySem.Spec PyProof.Rows L2 KX
section
variable {P : Program} {w : World} {K : PySem.W.Frag} {mg : Str → Option Value} {base : Heap}
theorem scRing : FnScope ["thing", "joined", "index", "bound"] ["thing"] (defScope sRing) := ⟨rfl, rfl, rfl, by decide +kernel, rfl, by decide +kernel, by decide +kernel⟩
theorem ok_ring {f fB : Addr} {fd fdB : FuncData} (F : FnP K "is_ring" sRing f fd) (GB : FnOk P w K mg base CX0 2 fB fdB ["thing"] (spBound K)) (bB : Binds K fdB ["thing"] []) (FB : FnP K "is_bound" sBound fB fdB) (gB : mg "is_bound" = some (.ref fB))
    (n_isinstance : mg "isinstance" = none) (n_list : mg "list" = none) (n_tuple : mg "tuple" = none) (n_all : mg "all" = none) (n_enumerate : mg "enumerate" = none) (n_sum : mg "sum" = none) : FnOk P w K mg base CX0 3 f fd ["thing"] (spRing K) := by
  refine F.ok scRing (fun vs H Q E h => ?_) (fun cdv A outer s H vs Q E hr h => ?_)
  · obtain ⟨x, t, rfl, _⟩ := h
    rfl
  · obtain ⟨x, d, rfl, hk, ho, k⟩ := h
    have nd := scRing.nd
    refine ⟨_, PSs.nox (pss_cons (ps_if (PW.pt (pw_or (pt_not (pt_val (pe_callB call_isiT (by rfl) n_isinstance (by decide +kernel) (pa_cons (pv 0) (pa_cons (pe_tup (pa_cons (pe_bltn (v := .ty "list") (by rfl) n_list (by decide +kernel) rfl) (pa_cons (pe_bltn (v := .ty "tuple") (by rfl) n_tuple (by decide +kernel) rfl) pa_nil))) pa_nil))))) (pw_or1 (pt_not (pt_val (pe_callB (cr_all rfl) (by rfl) n_all (by decide +kernel) (pa_cons (pe_lc (own := [("bound", 3)]) (g := (gName 3)) (tt := tYes) rfl nd (pi_seq (pv 0)) (blkOk_by (own := [("bound", 3)]) (N := ["thing", "joined", "index", "bound"]) (sc := defScope sRing) (by decide +kernel)) (fun _ _ _ _ _ => (pg_name (i := 3) nd rfl (Or.inl rfl))) (fun _ _ _ _ _ => pts_nil) (fun _ _ _ _ _ => (pe_call GB hr rfl gB FB.kp bB .nil pass0 (pa_cons (pv 3) pa_nil)))) pa_nil)))))))
(pss_one (ps_ret pe_bl))
pss_nil)
(pss_cons (ps_setLc (i := 1) (own := [("index", 2), ("bound", 3)]) (g := (gTup K 2 (gCons (gName 2) (gCons (gName 3) gNil)))) (tt := tYes) rfl nd rfl rfl (sw_true rfl rfl rfl (by decide +kernel)) (pi_enumS (by rfl) n_enumerate (pa_cons (pv 0) pa_nil)) (blkOk_by (own := [("index", 2), ("bound", 3)]) (N := ["thing", "joined", "index", "bound"]) (sc := defScope sRing) (by decide +kernel)) (fun _ _ _ _ _ => (pg_tup rfl (pgs_cons (pg_name (i := 2) nd rfl (Or.inl rfl) (.inr rfl)) (pgs_cons (pg_name (i := 3) nd rfl (Or.inl rfl) (.inr rfl)) pgs_nil)))) (fun _ _ _ _ _ => pts_nil) (fun _ _ _ _ _ => (pe_cmpR op_eq (pe_ix (show IxR _ (rIxT K) from ix_tup) (pe_ix (show IxR _ (rIx K) from ix_seq) (pv 0) (pe_op op_sub (pv 2) pe_int) (fun _ _ => rfl)) pe_int (fun _ _ => rfl)) (pe_ix (show IxR _ (rIxT K) from ix_tup) (pv 3) pe_int (fun _ _ => rfl)) (nomark _))))
(pss_one (ps_ret (pe_and (pe_callB (cr_all rfl) (by rfl) n_all (by decide +kernel) (pa_cons (pv 1) pa_nil)) (pe_one (pe_cmpR op_lt (pe_callB (cr_sum rfl) (by rfl) n_sum (by decide +kernel) (pa_cons (pe_lc (own := [("bound", 3)]) (g := (gName 3)) (tt := tYes) rfl nd (pi_seq (pv 0)) (blkOk_by (own := [("bound", 3)]) (N := ["thing", "joined", "index", "bound"]) (sc := defScope sRing) (by decide +kernel)) (fun _ _ _ _ _ => (pg_name (i := 3) nd rfl (Or.inl rfl))) (fun _ _ _ _ _ => pts_nil) (fun _ _ _ _ _ => (pe_ix (show IxR _ (rIxT K) from ix_tup) (pv 3) pe_int (fun _ _ => rfl)))) pa_nil)) pe_int (nomark _)))))))), ?_⟩
    refine ⟨_, rfl, (by show 2 ≤ sizeLine; decide), fun T nT => ?_⟩
    have s1 := same_put (o := .tup [.ty "list", .ty "tuple"]) nT
    have hT : upd H T (.tup [.ty "list", .ty "tuple"]) T = some (.tup [.ty "list", .ty "tuple"]) := upd_same
    generalize upd H T (.tup [.ty "list", .ty "tuple"]) = H1 at s1 hT
    have hk1 := dp_same s1 _ _ hk
    refine ⟨_, T, _, _, _, _, rfl, hT, .cons (.ty _) (.cons (.ty _) .nil), dp_ty hk1, kit_seq d, _, rfl, ?_⟩
    by_cases hs : (isLstD d || isTupD d) = true
    · obtain ⟨a, xs, ds, hx, hq, hA, hrg, hl, hok⟩ : ∃ a xs ds, x = .ref a ∧ Sq K H1 a xs ∧ DpAll K H1 xs ds ∧ rgD d = rgL ds ∧ ds.length ≤ 1000 ∧ ∀ e ∈ ds, okBd e := by
        cases hk1 with
        | lst h1 h2 => exact ⟨_, _, _, rfl, .inl h1, h2, rfl, ho _ (.inl rfl)⟩
        | tup h1 h2 => exact ⟨_, _, _, rfl, .inr h1, h2, rfl, ho _ (.inr rfl)⟩
        | non => cases hs
        | bl => cases hs
        | int => cases hs
        | str => cases hs
      subst hx
      rw [hs]
      have hxl : xs.length = ds.length := dpall_len hA
      clear hk hk1
      refine ⟨_, rfl, a, xs, rfl, hq, fun J wk D nD => ?_⟩
      refine lc_it wk (fun i G => G D = some (.lst (((ds.take i).map bdD).map V.bl)) ∧ Same H1 G) ⟨upd_same, same_put nD⟩ (fun i G _ h => h.2) ?_ ?_
      · rintro i x G' G hi ⟨hD, s2⟩ ⟨rfl, hx⟩
        obtain ⟨e, he, hde⟩ := dpall_at hA hx
        refine ⟨rfl, ?_⟩
        dsimp only [tYes]
        rw [if_pos rfl]
        refine ⟨_, rfl, x, e, rfl, dp_same s2 _ _ hde, hok e (List.mem_of_getElem? he), fun G2 s3 => ⟨_, s3 _ _ hD, ?_, ?_, fun y o z => ?_⟩⟩
        · rw [List.length_map, List.length_map, List.length_take, sizeLine_eq]
          exact Nat.lt_of_le_of_lt (Nat.min_le_right _ _) (by omega)
        · rw [upd_same, take_at he, List.map_append, List.map_append]
          rfl
        · rw [upd_ne (ne_of_none z nD)]
          exact s3 _ _ (s2 _ _ z)
      rintro G ⟨hD, s2⟩
      rw [hxl, List.take_length] at hD
      refine ⟨D, ds.map bdD, rfl, SqL.of hD, _, rfl, ?_⟩
      have eall : (ds.map bdD).all id = ds.all bdD := by rw [List.all_map]; rfl
      rw [eall]
      cases hb : ds.all bdD with
      | false =>
        have q := k G (s1.trans s2)
        have e : rgL ds = false := by unfold rgL; rw [hb]; rfl
        rw [hrg, e] at q
        exact q
      | true =>
        have hA2 := dps_same s2 _ _ hA
        have hq2 := hq.same s2
        have s12 := s1.trans s2
        have erg : rgL ds = rgT (ds.map bdOf) := by unfold rgL; rw [hb]; rfl
        have hts : ∀ {i : Nat} {x : V}, xs[i]? = some x → ∃ t, (ds.map bdOf)[i]? = some t ∧ BdAt K G x t := fun h => bds_at hA2 hb h
        have htl : (ds.map bdOf).length = xs.length := by rw [List.length_map]; exact hxl.symm
        have q0 := k
        rw [hrg, erg] at q0
        generalize ds.map bdOf = ts at hts htl q0
        clear k eall erg
        refine ⟨_, rfl, a, xs, rfl, hq2, fun J2 wk2 D2 nD2 => ?_⟩
        refine lc_it wk2 (fun i G2 => G2 D2 = some (.lst (((List.range i).map (jb ts)).map V.bl)) ∧ Same G G2) ⟨upd_same, same_put nD2⟩ (fun i G _ h => h.2) ?_ ?_
        · rintro i x G3 G3' hi ⟨hD2, s3⟩ hY
          obtain ⟨T2, ki, ev, rfl, nT2, rfl, hk1, hk2⟩ := hY
          obtain rfl : V.int ((i : Nat) : Int) = ki := Option.some.inj hk1
          have s4 := s3.trans (same_put (o := .tup [.int ((i : Nat) : Int), ev]) nT2)
          have hD3 := same_put (o := .tup [.int ((i : Nat) : Int), ev]) nT2 _ _ hD2
          have fT : upd G3 T2 (.tup [.int ((i : Nat) : Int), ev]) T2 = some (.tup [.int ((i : Nat) : Int), ev]) := upd_same
          generalize upd G3 T2 (.tup [.int ((i : Nat) : Int), ev]) = G4 at s4 fT hD3
          refine ⟨T2, _, rfl, SqT.of fT, rfl, ⟨_, _, rfl, ⟨_, _, rfl, ⟨rfl, rfl, ?_⟩⟩⟩⟩
          dsimp only [tYes]
          rw [if_pos rfl]
          obtain ⟨tq, htq, hbq⟩ := hts hk2
          have hpl := pred_lt hi
          obtain ⟨tp, htp, hbp⟩ := hts (List.getElem?_eq_getElem hpl)
          obtain ⟨ap, hap, hsp⟩ := hbp.same s4
          obtain ⟨aq, rfl, hsq⟩ := hbq.same s4
          refine ⟨_, rfl, _, rfl, _, _, rfl, rfl, ix_of (hq2.same s4) (by rw [atI_pred hi, List.getElem?_eq_getElem hpl]) ?_⟩
          rw [hap]
          refine ⟨ap, _, _, _, rfl, rfl, hsp, rfl, _, rfl, aq, _, _, _, rfl, rfl, hsq, rfl, rfl, ?_⟩
          rw [str_dec, ← jb_eq (by rw [htl]; exact htp) htq]
          refine ⟨_, hD3, ?_, ?_, fun y o z => ?_⟩
          · rw [List.length_map, List.length_map, List.length_range, sizeLine_eq]
            omega
          · rw [upd_same, map_range_succ, List.map_append]
            rfl
          · rw [upd_ne (ne_of_none z nD2)]
            exact s4 _ _ z
        · rintro G5 ⟨hD2, s3⟩
          refine ⟨_, rfl, D2, (List.range xs.length).map (jb ts), rfl, SqL.of hD2, _, rfl, ?_⟩
          have e1 : ((List.range xs.length).map (jb ts)).all id = (List.range ts.length).all (jb ts) := by rw [List.all_map, htl]; rfl
          rw [e1]
          refine ite2' (fun c1 => ?_) (fun c1 => ?_)
          · refine ⟨_, rfl, a, xs, rfl, hq2.same s3, fun J3 wk3 D3 nD3 => ?_⟩
            refine lc_it wk3 (fun i G2 => G2 D3 = some (.lst (((ts.take i).map fun t => t.2.2).map V.int)) ∧ Same G5 G2) ⟨upd_same, same_put nD3⟩ (fun i G _ h => h.2) ?_ ?_
            · rintro i x G' G6 hi ⟨hD3, s4⟩ ⟨rfl, hx⟩
              obtain ⟨tq, htq, hbq⟩ := hts hx
              obtain ⟨aq, rfl, hsq⟩ := hbq.same (s3.trans s4)
              refine ⟨rfl, ?_⟩
              dsimp only [tYes]
              rw [if_pos rfl]
              refine ⟨_, rfl, aq, _, _, _, rfl, rfl, hsq, rfl, _, hD3, ?_, ?_, fun y o z => ?_⟩
              · rw [List.length_map, List.length_map, List.length_take, sizeLine_eq]
                exact Nat.lt_of_le_of_lt (Nat.min_le_right _ _) (by omega)
              · rw [upd_same, take_at htq, List.map_append, List.map_append]
                rfl
              · rw [upd_ne (ne_of_none z nD3)]
                exact s4 _ _ z
            · rintro G6 ⟨hD3, s4⟩
              rw [← htl, List.take_length] at hD3
              refine ⟨D3, _, rfl, SqL.of hD3, _, _, rfl, rfl, ?_⟩
              have q := q0 G6 (s12.trans (s3.trans s4))
              unfold rgT at q
              rw [c1] at q
              exact q
          · have q := q0 G5 (s12.trans s3)
            unfold rgT at q
            rw [c1] at q
            exact q
    · have e : (isLstD d || isTupD d) = false := Bool.eq_false_iff.mpr hs
      rw [e]
      have q := k H1 s1
      have e2 : rgD d = false := by cases d <;> first | rfl | cases e
      rw [e2] at q
      exact q
end
end K30

set_option Elab.async false
set_option maxRecDepth 100000
set_option maxHeartbeats 1000000
namespace K30
open PySem PySem.Spec PyProof.Rows L2 KX
abbrev sLName : Stmt := top 16
abbrev sLBound : Stmt := top 17
abbrev sLRound : Stmt := top 18
section
variable {P : Program} {w : World} {K : PySem.W.Frag} {mg : Str → Option Value} {base : Heap}
theorem scLName : FnScope ["thing", "letter"] ["thing"] (defScope sLName) := ⟨rfl, rfl, rfl, by decide +kernel, rfl, by decide +kernel, by decide +kernel⟩
theorem ok_lname {f : Addr} {fd : FuncData} (F : FnP K "_law_is_name" sLName f fd) (n_isinstance : mg "isinstance" = none) (n_str : mg "str" = none) (n_len : mg "len" = none) (n_all : mg "all" = none) : FnOk P w K mg base CX0 1 f fd ["thing"] (spName K) := by
  refine F.ok scLName (fun vs H Q E h => ?_) (fun cdv A outer s H vs Q E hr h => ?_)
  · obtain ⟨x, t, rfl, _⟩ := h
    rfl
  · obtain ⟨x, d, rfl, hk, ho, k⟩ := h
    have nd := scLName.nd
    refine ⟨_, PSs.nox (pss_cons (ps_if (PW.pt (pw_or (pt_not (pt_val (pe_callB call_isi (by rfl) n_isinstance (by decide +kernel) (pa_cons (pv 0) (pa_cons (pe_bltn (v := .ty "str") (by rfl) n_str (by decide +kernel) rfl) pa_nil))))) (pw_or (pt_cmpR op_lt (pe_callB call_len_str (by rfl) n_len PySem.boot_len (pa_cons (pv 0) pa_nil)) pe_int (nomark _)) (pw_or1 (pt_cmpR op_gt (pe_callB call_len_str (by rfl) n_len PySem.boot_len (pa_cons (pv 0) pa_nil)) pe_int (nomark _))))))
(pss_one (ps_ret pe_bl))
pss_nil)
(pss_one (ps_ret (pe_callB (cr_all rfl) (by rfl) n_all (by decide +kernel) (pa_cons (pe_lc (own := [("letter", 1)]) (g := (gName 1)) (tt := tYes) rfl nd (pi_str (pv 0)) (blkOk_by (own := [("letter", 1)]) (N := ["thing", "letter"]) (sc := defScope sLName) (by decide +kernel)) (fun _ _ _ _ _ => (pg_name (i := 1) nd rfl (Or.inl rfl))) (fun _ _ _ _ _ => pts_nil) (fun _ _ _ _ _ => (pe_cmpR op_in_sign (pv 1) pe_str rfl))) pa_nil))))), ?_⟩
    refine ⟨_, rfl, _, _, _, _, _, rfl, .ty _, dp_ty hk, kit_str d, _, rfl, ?_⟩
    by_cases hs : isStrD d = true
    · obtain ⟨z, rfl⟩ : ∃ z, d = .str z := by cases d <;> first | exact ⟨_, rfl⟩ | cases hs
      have hz := ho z rfl
      cases hk with
      | str =>
        have hzl : z.length ≤ sizeLine := by rw [sizeLine_eq]; omega
        refine ⟨_, rfl, _, rfl, hzl, _, _, rfl, rfl, _, rfl, ite2' (fun c1 => ?_) (fun c1 => ?_)⟩
        · have e := nm_short (z := z) (by have := of_decide_eq_true c1; omega)
          have q := k H (Same.refl H)
          rw [show nmD (.str z) = isNm z from rfl, e] at q
          exact q
        · have n1 : ¬ z.length < 1 := by have := of_decide_eq_false c1; omega
          refine ⟨_, rfl, _, rfl, hzl, _, _, rfl, rfl, _, rfl, ite2' (fun c2 => ?_) (fun c2 => ?_)⟩
          · have e := nm_long (z := z) (by have := of_decide_eq_true c2; omega)
            have q := k H (Same.refl H)
            rw [show nmD (.str z) = isNm z from rfl, e] at q
            exact q
          · have n2 : ¬ z.length > 8 := by have := of_decide_eq_false c2; omega
            refine ⟨_, rfl, z, rfl, fun D nD => ?_⟩
            refine lc_it (walk_str (z := z)) (fun i G => G D = some (.lst (((z.cps.toList.take i).map isLet).map V.bl)) ∧ Same H G) ⟨upd_same, same_put nD⟩ (fun _ _ _ _ => trivial) ?_ ?_
            · rintro i x G' G hi ⟨hD, s1⟩ ⟨rfl, c, hc, rfl⟩
              refine ⟨rfl, ?_⟩
              dsimp only [tYes]
              rw [if_pos rfl]
              have hcl : z.cps.toList[i]? = some c := by rw [Array.getElem?_toList]; exact hc
              refine ⟨_, rfl, c, _, rfl, rfl, ?_⟩
              rw [mem_letters]
              refine ⟨_, hD, ?_, ?_, fun y o e => ?_⟩
              · rw [List.length_map, List.length_map, List.length_take, sizeLine_eq]
                have e1 : z.cps.toList.length ≤ 1000 := by rw [Array.length_toList]; exact hz
                exact Nat.lt_of_le_of_lt (Nat.min_le_right _ _) (by omega)
              · rw [upd_same, take_at hcl, List.map_append, List.map_append]
                rfl
              · rw [upd_ne (ne_of_none e nD)]
                exact s1 _ _ e
            · rintro G ⟨hD, s1⟩
              have hsz : z.cps.toList.take z.cps.size = z.cps.toList := by rw [← Array.length_toList, List.take_length]
              rw [hsz] at hD
              refine ⟨D, z.cps.toList.map isLet, rfl, SqL.of hD, ?_⟩
              have q := k G s1
              rw [show nmD (.str z) = isNm z from rfl, nm_mid n1 n2] at q
              have e : (z.cps.toList.map isLet).all id = z.cps.toList.all isLet := by rw [List.all_map]; rfl
              rw [e]
              exact q
    · have e : isStrD d = false := Bool.eq_false_iff.mpr hs
      rw [e]
      have q := k H (Same.refl H)
      rw [nm_off e] at q
      exact q
theorem scLBound : FnScope ["thing"] ["thing"] (defScope sLBound) := ⟨rfl, rfl, rfl, by decide +kernel, rfl, by decide +kernel, by decide +kernel⟩
theorem ok_lbound {f fN : Addr} {fd fdN : FuncData} (F : FnP K "_law_is_bound" sLBound f fd) (GN : FnOk P w K mg base CX0 1 fN fdN ["thing"] (spName K)) (bN : Binds K fdN ["thing"] []) (FN : FnP K "_law_is_name" sLName fN fdN) (gN : mg "_law_is_name" = some (.ref fN))
    (n_isinstance : mg "isinstance" = none) (n_int : mg "int" = none) (n_bool : mg "bool" = none) (n_tuple : mg "tuple" = none) (n_len : mg "len" = none) : FnOk P w K mg base CX0 2 f fd ["thing"] (spBound K) := by
  refine F.ok scLBound (fun vs H Q E h => ?_) (fun cdv A outer s H vs Q E hr h => ?_)
  · obtain ⟨x, t, rfl, _⟩ := h
    rfl
  · obtain ⟨x, d, rfl, hk, ho, k⟩ := h
    have nd := scLBound.nd
    refine ⟨_, PSs.nox (pss_cons (ps_if (PW.pt (pw_or (pt_not (pt_val (pe_callB call_isi (by rfl) n_isinstance (by decide +kernel) (pa_cons (pv 0) (pa_cons (pe_bltn (v := .ty "tuple") (by rfl) n_tuple (by decide +kernel) rfl) pa_nil))))) (pw_or (pt_cmpR op_ne (pe_callB call_len_seq (by rfl) n_len PySem.boot_len (pa_cons (pv 0) pa_nil)) pe_int (nomark _)) (pw_or1 (pt_not (pt_val (pe_callB call_isi (by rfl) n_isinstance (by decide +kernel) (pa_cons (pe_ix ix_tup (pv 0) pe_int (fun _ _ => rfl)) (pa_cons (pe_bltn (v := .ty "int") (by rfl) n_int (by decide +kernel) rfl) pa_nil)))))))))
(pss_one (ps_ret pe_bl))
pss_nil)
(pss_cons (ps_if (pt_val (pe_callB call_isi (by rfl) n_isinstance (by decide +kernel) (pa_cons (pe_ix ix_tup (pv 0) pe_int (fun _ _ => rfl)) (pa_cons (pe_bltn (v := .ty "bool") (by rfl) n_bool (by decide +kernel) rfl) pa_nil))))
(pss_one (ps_ret pe_bl))
pss_nil)
(pss_one (ps_ret (pe_and (pe_call GN hr rfl gN FN.kp bN .nil pass0 (pa_cons (pe_ix ix_tup (pv 0) pe_int (fun _ _ => rfl)) pa_nil)) (pe_and (pe_call GN hr rfl gN FN.kp bN .nil pass0 (pa_cons (pe_ix ix_tup (pv 0) pe_int (fun _ _ => rfl)) pa_nil)) (pe_one (pe_cmpR op_ne (pe_ix ix_tup (pv 0) pe_int (fun _ _ => rfl)) (pe_ix ix_tup (pv 0) pe_int (fun _ _ => rfl)) (nomark _))))))))), ?_⟩
    refine ⟨_, rfl, _, _, _, _, _, rfl, .ty _, dp_ty hk, kit_tup d, _, rfl, ?_⟩
    by_cases ht : isTupD d = true
    · obtain ⟨ds, rfl⟩ : ∃ ds, d = .tuple ds := by cases d <;> first | exact ⟨_, rfl⟩ | cases ht
      obtain ⟨hl, hn⟩ := ho ds rfl
      cases hk with
      | @tup a xs _ hS hA =>
        have hxd := dpall_len hA
        refine ⟨_, rfl, _, _, rfl, .inr hS, rfl, _, rfl, ite2' (fun c3 => ?_) (fun c3 => ?_)⟩
        · have n : ds.length ≠ 3 := by
            have := len_notN 3 c3
            omega
          have q := k H (Same.refl H)
          rw [bd_len n] at q
          exact q
        · have e := len_isN 3 c3
          obtain ⟨x, y, z, da, db, dc, rfl, rfl, h1, h2, h3⟩ := dpall_3 hA e
          clear hA e c3
          have hq : ∀ H', Same H H' → Q (.bl (nmD da && (nmD db && (neS da db && isIntD dc)))) H' := fun H' s => by rw [← bd_parts]; exact k H' s
          have hqF : isIntD dc = false → Q (.bl false) H := fun e => by
            have q := hq H (Same.refl H)
            rw [e, Bool.and_false, Bool.and_false, Bool.and_false] at q
            exact q
          refine ⟨_, rfl, _, _, _, _, rfl, rfl, hS, rfl, z, _, _, _, _, rfl, .ty _, dp_ty h3, kit_int dc, _, rfl, ?_⟩
          by_cases ci : isIntD dc = true
          · have cb : isBoolD dc = false := by cases dc <;> first | rfl | cases ci
            rw [ci]
            refine ⟨_, rfl, _, _, _, _, rfl, rfl, hS, rfl, z, _, _, _, _, rfl, .ty _, dp_ty h3, kit_bool dc, _, rfl, ?_⟩
            rw [cb]
            rw [ci] at hq
            refine ⟨_, rfl, _, _, _, _, rfl, rfl, hS, rfl, x, da, rfl, h1, hn da (by simp), fun H1 s1 => ⟨_, rfl, ite2' (fun c1 => ?_) (fun c1 => ?_)⟩⟩
            · rw [c1] at hq
              refine ⟨_, rfl, _, _, _, _, rfl, rfl, sqT_same s1 hS, rfl, y, db, rfl, dp_same s1 _ _ h2, hn db (by simp), fun H2 s2 => ⟨_, rfl, ite2' (fun c2 => ?_) (fun c2 => ?_)⟩⟩
              · rw [c2] at hq
                have s3 := s1.trans s2
                obtain ⟨u, rfl⟩ : ∃ u, da = .str u := by cases da <;> first | exact ⟨_, rfl⟩ | cases c1
                obtain ⟨v, rfl⟩ : ∃ u, db = .str u := by cases db <;> first | exact ⟨_, rfl⟩ | cases c2
                cases h1
                cases h2
                have hq2 : ∀ H', Same H H' → Q (.bl ((!decide (u = v)) && true)) H' := hq
                refine ⟨_, rfl, _, _, _, _, rfl, rfl, sqT_same s3 hS, rfl, _, rfl, _, _, _, _, rfl, rfl, sqT_same s3 hS, rfl, rfl, ?_⟩
                rw [str_dec]
                have q := hq2 H2 s3
                rw [Bool.and_true] at q
                exact q
              · rw [c2] at hq
                exact hq H2 (s1.trans s2)
            · rw [c1] at hq
              exact hq H1 s1
          · have cf : isIntD dc = false := Bool.eq_false_iff.mpr ci
            rw [cf]
            cases hb : isBoolD dc with
            | false => exact hqF cf
            | true =>
              refine ⟨_, rfl, _, _, _, _, rfl, rfl, hS, rfl, z, _, _, _, _, rfl, .ty _, dp_ty h3, kit_bool dc, _, rfl, ?_⟩
              rw [hb]
              exact hqF cf
    · have e : isTupD d = false := Bool.eq_false_iff.mpr ht
      rw [e]
      have q := k H (Same.refl H)
      rw [bd_off e] at q
      exact q
theorem scLRound : FnScope ["rows", "k", "row"] ["rows"] (defScope sLRound) := ⟨rfl, rfl, rfl, by decide +kernel, rfl, by decide +kernel, by decide +kernel⟩
theorem nil_shaped : SeqAt.shaped (.list []) = true := rfl
theorem eqv_nil (ds : List PyData) : PyData.eqv (.list ds) (.list []) = ds.isEmpty := by cases ds <;> rfl
theorem ok_lround {f fB : Addr} {fd fdB : FuncData} (F : FnP K "_law_is_round" sLRound f fd) (GB : FnOk P w K mg base CX0 2 fB fdB ["thing"] (spBound K)) (bB : Binds K fdB ["thing"] []) (FB : FnP K "_law_is_bound" sLBound fB fdB) (gB : mg "_law_is_bound" = some (.ref fB))
    (n_len : mg "len" = none) (n_range : mg "range" = none) (n_all : mg "all" = none) (n_sum : mg "sum" = none) : FnOk P w K mg base CX0 3 f fd ["rows"] (spRound K) := by
  refine F.ok scLRound (fun vs H Q E h => ?_) (fun cdv A outer s H vs Q E hr h => ?_)
  · obtain ⟨l, t, ds, rfl, _⟩ := h
    rfl
  · obtain ⟨a, xs, ds, rfl, hS, hA, hl, hok, k⟩ := h
    have nd := scLRound.nd
    have hu := hr.units
    have hxl : xs.length = ds.length := dpall_len hA
    refine ⟨_, PSs.nox (pss_cons (ps_if (PW.pt (pw_or (pt_cmpR (op_eqD hu) (pv 0) (pe_lst pa_nil) (nomark _)) (pw_or1 (pt_not (pt_val (pe_callB (cr_all rfl) (by rfl) n_all (by decide +kernel) (pa_cons (pe_lc (own := [("row", 2)]) (g := (gName 2)) (tt := tYes) rfl nd (pi_list (pv 0)) (blkOk_by (own := [("row", 2)]) (N := ["rows", "k", "row"]) (sc := defScope sLRound) (by decide +kernel)) (fun _ _ _ _ _ => (pg_name (i := 2) nd rfl (Or.inl rfl))) (fun _ _ _ _ _ => pts_nil) (fun _ _ _ _ _ => (pe_call GB hr rfl gB FB.kp bB .nil pass0 (pa_cons (pv 2) pa_nil)))) pa_nil)))))))
(pss_one (ps_ret pe_bl))
pss_nil)
(pss_cons (ps_if (pt_not (pt_val (pe_callB (cr_all rfl) (by rfl) n_all (by decide +kernel) (pa_cons (pe_lc (own := [("k", 1)]) (g := (gName 1)) (tt := tYes) rfl nd (pi_range1 (by rfl) n_range (pa_cons (pe_callB call_len_seq (by rfl) n_len PySem.boot_len (pa_cons (pv 0) pa_nil)) pa_nil)) (blkOk_by (own := [("k", 1)]) (N := ["rows", "k", "row"]) (sc := defScope sLRound) (by decide +kernel)) (fun _ _ _ _ _ => (pg_name (i := 1) nd rfl (Or.inl rfl))) (fun _ _ _ _ _ => pts_nil) (fun _ _ _ _ _ => (pe_cmpR op_eq (pe_ix (show IxR _ (rIxT K) from ix_tup) (pe_ix (show IxR _ (rIxL K) from ix_list) (pv 0) (pv 1) (fun _ _ => rfl)) pe_int (fun _ _ => rfl)) (pe_ix (show IxR _ (rIxT K) from ix_tup) (pe_ix (show IxR _ (rIxL K) from ix_list) (pv 0) (pe_op op_sub (pv 1) pe_int) (fun _ _ => rfl)) pe_int (fun _ _ => rfl)) (nomark _)))) pa_nil))))
(pss_one (ps_ret pe_bl))
pss_nil)
(pss_one (ps_ret (pe_cmpR op_lt (pe_callB (cr_sum rfl) (by rfl) n_sum (by decide +kernel) (pa_cons (pe_lc (own := [("row", 2)]) (g := (gName 2)) (tt := tYes) rfl nd (pi_list (pv 0)) (blkOk_by (own := [("row", 2)]) (N := ["rows", "k", "row"]) (sc := defScope sLRound) (by decide +kernel)) (fun _ _ _ _ _ => (pg_name (i := 2) nd rfl (Or.inl rfl))) (fun _ _ _ _ _ => pts_nil) (fun _ _ _ _ _ => (pe_ix (show IxR _ (rIxT K) from ix_tup) (pv 2) pe_int (fun _ _ => rfl)))) pa_nil)) pe_int (nomark _)))))), ?_⟩
    refine ⟨_, rfl, by decide, fun L nL => ?_⟩
    have s1 := same_put (o := .lst []) nL
    have hL : upd H L (.lst []) L = some (.lst []) := upd_same
    generalize upd H L (.lst []) = H1 at s1 hL
    refine ⟨_, _, .lst (sqL_same s1 hS) (dps_same s1 _ _ hA), .lst (SqL.of hL) .nil, list_shaped (fun e he => (hok e he).2), nil_shaped, _, rfl, ?_⟩
    rw [eqv_nil]
    cases hem : ds.isEmpty with
    | true =>
      have e : ds = [] := List.isEmpty_iff.mp hem
      have q := k H1 s1
      rw [e, rg_nil] at q
      exact q
    | false =>
      refine ⟨_, rfl, a, rfl, ⟨_, sqL_same s1 hS⟩, fun D nD => ?_⟩
      refine lc_it (walk_list (K := K) (a := a) (xs := xs)) (fun i G => G D = some (.lst (((ds.take i).map bdD).map V.bl)) ∧ Same H1 G) ⟨upd_same, same_put nD⟩ (fun i G _ h => sqL_same (s1.trans h.2) hS) ?_ ?_
      · rintro i x G' G hi ⟨hD, s2⟩ ⟨rfl, hx⟩
        obtain ⟨e, he, hde⟩ := dpall_at hA hx
        refine ⟨rfl, ?_⟩
        dsimp only [tYes]
        rw [if_pos rfl]
        refine ⟨_, rfl, x, e, rfl, dp_same (s1.trans s2) _ _ hde, (hok e (List.mem_of_getElem? he)).1, fun G2 s3 => ⟨_, s3 _ _ hD, ?_, ?_, fun y o z => ?_⟩⟩
        · rw [List.length_map, List.length_map, List.length_take, sizeLine_eq]
          exact Nat.lt_of_le_of_lt (Nat.min_le_right _ _) (by omega)
        · rw [upd_same, take_at he, List.map_append, List.map_append]
          rfl
        · rw [upd_ne (ne_of_none z nD)]
          exact s3 _ _ (s2 _ _ z)
      rintro G ⟨hD, s2⟩
      rw [hxl, List.take_length] at hD
      refine ⟨D, ds.map bdD, rfl, SqL.of hD, _, rfl, ?_⟩
      have eall : (ds.map bdD).all id = ds.all bdD := by rw [List.all_map]; rfl
      rw [eall]
      cases hb : ds.all bdD with
      | false =>
        have q := k G (s1.trans s2)
        have e : rgL ds = false := by unfold rgL; rw [hb]; rfl
        rw [e] at q
        exact q
      | true =>
        have hA2 := dps_same (s1.trans s2) _ _ hA
        have hS2 := sqL_same (s1.trans s2) hS
        have s12 := s1.trans s2
        have erg : rgL ds = rgT (ds.map bdOf) := by unfold rgL; rw [hb]; rfl
        have hts : ∀ {i : Nat} {x : V}, xs[i]? = some x → ∃ t, (ds.map bdOf)[i]? = some t ∧ BdAt K G x t := fun h => bds_at hA2 hb h
        have htl : (ds.map bdOf).length = xs.length := by rw [List.length_map]; exact hxl.symm
        have q0 := k
        rw [erg] at q0
        generalize ds.map bdOf = ts at hts htl q0
        clear k eall erg
        refine ⟨_, rfl, _, _, rfl, .inl hS2, (xs.length : Int), rfl, (by omega), (by omega), ?_⟩
        rw [Int.toNat_natCast]
        intro D2 nD2
        refine lc_it (walk_rng (n := xs.length)) (fun i G2 => G2 D2 = some (.lst (((List.range i).map (jb ts)).map V.bl)) ∧ Same G G2) ⟨upd_same, same_put nD2⟩ (fun _ _ _ _ => trivial) ?_ ?_
        · rintro i x G' G4 hi ⟨hD2, s4⟩ ⟨rfl, rfl⟩
          refine ⟨rfl, ?_⟩
          dsimp only [tYes]
          rw [if_pos rfl]
          obtain ⟨tq, htq, hbq⟩ := hts (List.getElem?_eq_getElem hi)
          have hpl := pred_lt hi
          obtain ⟨tp, htp, hbp⟩ := hts (List.getElem?_eq_getElem hpl)
          obtain ⟨ap, hap, hsp⟩ := hbp.same s4
          obtain ⟨aq, haq, hsq⟩ := hbq.same s4
          refine ⟨_, rfl, _, rfl, a, xs, _, _, rfl, rfl, sqL_same s4 hS2, atI_nat (List.getElem?_eq_getElem hi), ?_⟩
          rw [haq]
          refine ⟨aq, _, _, _, rfl, rfl, hsq, rfl, _, rfl, _, rfl, _, _, rfl, rfl, a, xs, _, _, rfl, rfl, sqL_same s4 hS2, (by rw [atI_pred hi]; exact List.getElem?_eq_getElem hpl), ?_⟩
          rw [hap]
          refine ⟨ap, _, _, _, rfl, rfl, hsp, rfl, rfl, ?_⟩
          rw [str_dec', ← jb_eq (by rw [htl]; exact htp) htq]
          refine ⟨_, hD2, ?_, ?_, fun y o z => ?_⟩
          · rw [List.length_map, List.length_map, List.length_range, sizeLine_eq]
            omega
          · rw [upd_same, map_range_succ, List.map_append]
            rfl
          · rw [upd_ne (ne_of_none z nD2)]
            exact s4 _ _ z
        · rintro G5 ⟨hD2, s3⟩
          refine ⟨D2, (List.range xs.length).map (jb ts), rfl, SqL.of hD2, _, rfl, ?_⟩
          have e1 : ((List.range xs.length).map (jb ts)).all id = (List.range ts.length).all (jb ts) := by rw [List.all_map, htl]; rfl
          rw [e1]
          cases c1 : (List.range ts.length).all (jb ts) with
          | false =>
            have q := q0 G5 (s12.trans s3)
            unfold rgT at q
            rw [c1] at q
            exact q
          | true =>
            refine ⟨_, rfl, a, rfl, ⟨_, sqL_same s3 hS2⟩, fun D3 nD3 => ?_⟩
            refine lc_it (walk_list (K := K) (a := a) (xs := xs)) (fun i G2 => G2 D3 = some (.lst (((ts.take i).map fun t => t.2.2).map V.int)) ∧ Same G5 G2) ⟨upd_same, same_put nD3⟩ (fun i G _ h => sqL_same (s3.trans h.2) hS2) ?_ ?_
            · rintro i x G' G6 hi ⟨hD3, s4⟩ ⟨rfl, hx⟩
              obtain ⟨tq, htq, hbq⟩ := hts hx
              obtain ⟨aq, rfl, hsq⟩ := hbq.same (s3.trans s4)
              refine ⟨rfl, ?_⟩
              dsimp only [tYes]
              rw [if_pos rfl]
              refine ⟨_, rfl, aq, _, _, _, rfl, rfl, hsq, rfl, _, hD3, ?_, ?_, fun y o z => ?_⟩
              · rw [List.length_map, List.length_map, List.length_take, sizeLine_eq]
                exact Nat.lt_of_le_of_lt (Nat.min_le_right _ _) (by omega)
              · rw [upd_same, take_at htq, List.map_append, List.map_append]
                rfl
              · rw [upd_ne (ne_of_none z nD3)]
                exact s4 _ _ z
            · rintro G6 ⟨hD3, s4⟩
              rw [← htl, List.take_length] at hD3
              refine ⟨D3, _, rfl, SqL.of hD3, _, _, rfl, rfl, ?_⟩
              have q := q0 G6 (s12.trans (s3.trans s4))
              unfold rgT at q
              rw [c1] at q
              exact q
end
end K30

set_option Elab.async false
set_option maxRecDepth 100000
set_option maxHeartbeats 1000000
namespace K30
open PySem PySem.Spec PyProof.Rows L2 KX
abbrev sLNm : Stmt := top 11
abbrev sLNms : Stmt := top 12
abbrev sLNum : Stmt := top 13
section
variable {P : Program} {w : World} {K : PySem.W.Frag} {mg : Str → Option Value} {base : Heap}
theorem scLNm : FnScope ["bag", "letters", "turn"] ["bag"] (defScope sLNm) := ⟨rfl, rfl, rfl, by decide +kernel, rfl, by decide +kernel, by decide +kernel⟩
theorem ok_lnm {f fD : Addr} {fd fdD : FuncData} (F : FnP K "_law_name" sLNm f fd) (GD : FnOk P w K mg base CX0 1 fD fdD ["bag", "many"] spDraw) (bD : Binds K fdD ["bag", "many"] []) (kD : PySem.W.keepIn K (.ref fD) = true) (gD : mg "_law_draw" = some (.ref fD))
    (n_range : mg "range" = none) : FnOk P w K mg base CX0 2 f fd ["bag"] spLName := by
  refine F.ok scLNm (fun vs H Q E h => ?_) (fun cdv A outer s H vs Q E hr h => ?_)
  · obtain ⟨b, n, rfl, _⟩ := h
    rfl
  · obtain ⟨b, n, rfl, hB, hn, k⟩ := h
    have nd := scLNm.nd
    refine ⟨_, PSs.nox (pss_cons (ps_set (i := 1) nd rfl (Or.inr rfl) pe_str)
(pss_one (ps_ret (pe_join pe_str (pe_lc (own := [("turn", 2)]) (g := (gName 2)) (tt := tYes) rfl nd (pi_range1 (by rfl) n_range (pa_cons (pe_op op_add pe_int (pe_call GD hr rfl gD kD bD .nil pass0 (pa_cons (pv 0) (pa_cons pe_int pa_nil)))) pa_nil)) (blkOk_by (own := [("turn", 2)]) (N := ["bag", "letters", "turn"]) (sc := defScope sLNm) (by decide +kernel)) (fun _ _ _ _ _ => (pg_name (i := 2) nd rfl (Or.inl rfl))) (fun _ _ _ _ _ => pts_nil) (fun _ _ _ _ _ => (pe_ix ix_str (pv 1) (pe_call GD hr rfl gD kD bD .nil pass0 (pa_cons (pv 0) (pa_cons pe_int pa_nil))) (fun _ _ => rfl)))))))), ?_⟩
    refine ⟨⟨_, rfl⟩, _, rfl, b, n, 8, rfl, hB, by omega, by decide, by decide, fun r G1 r0 r1 k1 hB1 => ⟨_, _, rfl, rfl, _, rfl, by omega, by omega, fun D nD => ?_⟩⟩
    obtain ⟨nn, hnn⟩ : ∃ nn : Nat, (1 + r).toNat = nn ∧ 1 ≤ nn ∧ nn ≤ 8 := ⟨_, rfl, by omega, by omega⟩
    rw [hnn.1]
    have hDb := hB1.ne nD
    have hDH : ∀ y o, H y = some o → y ≠ D := fun y o e => by
      rintro rfl
      have q := (k1 y hDb).trans e
      rw [nD] at q
      cases q
    refine lc_it (walk_rng (n := nn)) (fun i G => ∃ zs : List Nat, G D = some (.lst ((zs.map fun c => (⟨#[c]⟩ : Str)).map V.str)) ∧ zs.length = i ∧ (∀ c ∈ zs, isLet c = true) ∧ Bag G b (n + 1 + i) ∧ Kept b H G)
      ⟨[], upd_same, rfl, fun _ z => (nomatch z), (hB1.put hDb).mono (by omega), fun y o e q => (upd_ne (hDH y o q)).trans ((k1 y e).trans q)⟩ (fun _ _ _ _ => trivial) ?_ ?_
    · rintro i x G' G hi ⟨zs, hD, hl, hz, hBG, kG⟩ ⟨rfl, rfl⟩
      refine ⟨rfl, ?_⟩
      dsimp only [tYes]
      rw [if_pos rfl]
      refine ⟨_, rfl, _, rfl, b, _, 26, rfl, hBG, by omega, by decide, by decide, fun q G2 q0 q1 k2 hB2 => ?_⟩
      obtain ⟨j, rfl⟩ : ∃ j : Nat, q = j := ⟨q.toNat, by omega⟩
      have hj : j < 26 := by omega
      refine ⟨_, _, _, rfl, rfl, (by decide +kernel), atI_nat (letters_at hj), _, (k2 D hDb).trans hD, ?_, zs ++ [97 + j], ?_, ?_, ?_, ?_, fun y o e z => ?_⟩
      · rw [List.length_map, List.length_map, sizeLine_eq]
        omega
      · rw [upd_same, List.map_append, List.map_append]
        rfl
      · rw [List.length_append, hl]
        rfl
      · intro c hc
        rcases List.mem_append.mp hc with hc | hc
        · exact hz c hc
        · rw [List.mem_singleton.mp hc]
          exact let_at hj
      · exact (hB2.put hDb).mono (by omega)
      · rw [upd_ne (hDH y o z)]
        exact (k2 y e).trans (kG y o e z)
    · rintro G ⟨zs, hD, hl, hz, hBG, kG⟩
      refine ⟨_, D, zs.map fun c => (⟨#[c]⟩ : Str), rfl, rfl, .inl (SqL.of hD), ?_, ?_⟩
      · have e1 : ((zs.map fun c => (⟨#[c]⟩ : Str)).map (·.length)) = zs.map fun _ => 1 := by rw [List.map_map]; rfl
        have e2 : (("" : String) : Str).length = 0 := by decide +kernel
        rw [e1, e2, List.map_const', List.sum_replicate_nat]
        omega
      · have e0 : (("" : String) : Str) = ⟨#[]⟩ := by decide +kernel
        rw [TL.join_eq, e0]
        have e := join0 zs
        have hL : (Str.join ⟨#[]⟩ (zs.map fun c => (⟨#[c]⟩ : Str))).length = nn := by rw [← tlc_len, e, hl]
        exact k _ G (nm_of (by omega) (by omega) (fun c hc => hz c (by rw [← e]; exact hc))) kG (hBG.mono (by omega))
theorem scLNms : FnScope ["bag", "many", "found", "turn", "name", "one", "at"] ["bag", "many"] (defScope sLNms) := ⟨rfl, rfl, rfl, by decide +kernel, rfl, by decide +kernel, by decide +kernel⟩
theorem ok_lnms {f fD fO fN : Addr} {fd fdD fdO fdN : FuncData} (F : FnP K "_law_names" sLNms f fd) (GD : FnOk P w K mg base CX0 1 fD fdD ["bag", "many"] spDraw) (bD : Binds K fdD ["bag", "many"] []) (kD : PySem.W.keepIn K (.ref fD) = true) (gD : mg "_law_draw" = some (.ref fD))
    (GO : FnOk P w K mg base CX0 2 fO fdO ["bag", "some"] (spOf K)) (bO : Binds K fdO ["bag", "some"] []) (kO : PySem.W.keepIn K (.ref fO) = true) (gO : mg "_law_of" = some (.ref fO))
    (GN : FnOk P w K mg base CX0 2 fN fdN ["bag"] spLName) (bN : Binds K fdN ["bag"] []) (kN : PySem.W.keepIn K (.ref fN) = true) (gN : mg "_law_name" = some (.ref fN))
    (n_range : mg "range" = none) (n_len : mg "len" = none) : FnOk P w K mg base CX0 3 f fd ["bag", "many"] spLNames := by
  refine F.ok scLNms (fun vs H Q E h => ?_) (fun cdv A outer s H vs Q E hr2 h => ?_)
  · obtain ⟨b, n, m, rfl, _⟩ := h
    rfl
  · obtain ⟨b, n, many, rfl, hB, hn, h1, h100, k⟩ := h
    have nd := scLNms.nd
    have hr1 := hr2.mono (j := 1) (by decide)
    refine ⟨_, PSs.nox (pss_cons (ps_set (i := 2) nd rfl (Or.inl rfl) (pe_lst (pa_cons (pe_call GN hr2 rfl gN kN bN .nil pass0 (pa_cons (pv 0) pa_nil)) pa_nil)))
(pss_cons (ps_for PassesOwn.never rfl (pi_range1 (by rfl) n_range (pa_cons (pe_op op_sub (pv 1) pe_int) pa_nil)) (pg_name (i := 3) nd rfl (Or.inl rfl))
(pss_cons (ps_set (i := 4) nd rfl (Or.inl rfl) (pe_call GN hr2 rfl gN kN bN .nil pass0 (pa_cons (pv 0) pa_nil)))
(pss_cons (ps_if (pt_cmpR op_eq (pe_call GD hr1 rfl gD kD bD .nil pass0 (pa_cons (pv 0) (pa_cons pe_int pa_nil))) pe_int (nomark _))
(pss_cons (ps_set (i := 5) nd rfl (Or.inl rfl) (pe_call GO hr2 rfl gO kO bO .nil pass0 (pa_cons (pv 0) (pa_cons (pv 2) pa_nil))))
(pss_cons (ps_set (i := 6) nd rfl (Or.inl rfl) (pe_call GD hr1 rfl gD kD bD .nil pass0 (pa_cons (pv 0) (pa_cons (pe_callB call_len_str (by rfl) n_len PySem.boot_len (pa_cons (pv 5) pa_nil)) pa_nil))))
(pss_one (ps_set (i := 4) nd rfl (Or.inl rfl) (pe_op op_add_str (pe_op op_add_str (pe_slice sl_str (pv 5) po_none (po_some (pv 6))) (pe_ix ix_str (pv 4) pe_int (fun _ _ => rfl))) (pe_slice sl_str (pv 5) (po_some (pe_op op_add (pv 6) pe_int)) po_none))))))
pss_nil)
(pss_one (ps_if (pt_cmpR op_notIn_seq (pv 4) (pv 2) rfl)
(pss_one (ps_expr (pe_bm PySem.F.plainAttrs_list PySem.F.slot_list_append PySem.F.type_list_append mt_append (pv 2) (pa_cons (pv 4) pa_nil))))
pss_nil)))))
(pss_one (ps_ret (pv 2))))), ?_⟩
    refine ⟨_, rfl, b, n, rfl, hB, by omega, fun z0 G1 hz0 k1 hB1 => ⟨(by show 1 ≤ sizeLine; decide), fun F0 nF => ?_⟩⟩
    have hFb := hB1.ne nF
    have hFH : H F0 = none := by
      cases e : H F0 with
      | none => rfl
      | some o => exact absurd (k1 F0 o hFb e) (by rw [nF]; exact nofun)
    have lp0 : LN b F0 H (upd G1 F0 (.lst [.str z0])) [z0] (n + 9) := ⟨hB1.put hFb, upd_same, fun x o nx e => (upd_ne (ne_of_none e hFH)).trans (k1 x o nx e), hFb, by simp, fun z hz => by rw [List.mem_singleton.mp hz]; exact hz0⟩
    generalize upd G1 F0 (.lst [.str z0]) = G2 at lp0
    refine ⟨_, rfl, _, _, rfl, rfl, _, rfl, by omega, by omega, ?_⟩
    have e1 : ((many : Int) - 1).toNat = many - 1 := by omega
    rw [e1]
    refine for_it (walk_rng (n := many - 1)) (fun i σ G => ∃ zs y3 y4 y5 y6, σ = [some (.ref b), some (.int (many : Int)), some (.ref F0), y3, y4, y5, y6] ∧ LN b F0 H G zs (n + 9 + 12 * i) ∧ 1 ≤ zs.length ∧ zs.length ≤ i + 1)
      ⟨[z0], _, _, _, _, rfl, lp0.le (by omega), by simp, by simp⟩ (fun _ _ _ _ _ => trivial) ?_ ?_
    · rintro i x σ G' G hi ⟨zs, y3, y4, y5, y6, rfl, lp, hl1, hl2⟩ ⟨rfl, rfl⟩
      refine ⟨_, rfl, b, _, rfl, lp.bag, by omega, fun z G3 hz k3 hB3 => ?_⟩
      have lp3 := lp.to k3 hB3
      dsimp only [gName, List.set]
      refine seq_by (fun σ G => ∃ z y5 y6, σ = [some (.ref b), some (.int (many : Int)), some (.ref F0), some (.int (i : Int)), some (.str z), y5, y6] ∧ isNm z = true ∧ LN b F0 H G zs (n + 9 + 12 * (i + 1 : Nat))) ?_ (fun nxt => ?_)
      · rintro σ G ⟨z, y5, y6, rfl, hz, lp⟩
        refine ⟨_, rfl, _, rfl, F0, _, rfl, .inl (SqL.of lp.fnd), rfl, flat_strs zs, _, rfl, ite2' (fun c => ?_) (fun c => ?_)⟩
        · have c' : (!inV (.str z) (zs.map V.str)) = true := c
          rw [inV_str] at c'
          have hnot : z ∉ zs := fun q => by
            rw [decide_eq_true q] at c'
            cases c'
          refine ⟨_, rfl, .inl ⟨rfl, _, SqL.of lp.fnd⟩, _, rfl, F0, _, _, rfl, rfl, lp.fnd, (by rw [List.length_map, sizeLine_eq]; omega), ?_⟩
          exact ⟨zs ++ [z], _, _, _, _, rfl, lp.add hFH hz hnot, by rw [List.length_append]; omega, by rw [List.length_append]; show zs.length + 1 ≤ _; omega⟩
        · exact ⟨zs, _, _, _, _, rfl, lp, hl1, by omega⟩
      · refine ⟨_, rfl, b, _, 2, rfl, lp3.bag, by omega, by decide, by decide, fun r G4 r0 r1 k4 hB4 => ⟨rfl, _, rfl, ite2' (fun c => ?_) (fun c => ?_)⟩⟩
        · have lp4 := lp3.to k4.kept hB4
          refine ⟨_, rfl, _, rfl, b, F0, _, _, rfl, lp4.bag, by omega, hFb, SqL.of lp4.fnd, by rw [List.length_map]; omega, by rw [List.length_map]; omega, fun j v G5 hv k5 hB5 => ?_⟩
          obtain ⟨one, ho, rfl⟩ := Option.map_eq_some_iff.mp ((List.getElem?_map ..).symm.trans hv)
          have hno := lp4.nm one (List.mem_of_getElem? ho)
          have hlo := nm_line hno
          obtain ⟨o1, o8, _⟩ := nm_inv hno
          have lp5 := lp4.to k5.kept hB5
          refine ⟨_, rfl, _, rfl, _, rfl, hlo, b, _, _, rfl, lp5.bag, by omega, by omega, by omega, fun a G6 a0 a1 k6 hB6 => ?_⟩
          have lp6 := lp5.to k6.kept hB6
          obtain ⟨at_, rfl⟩ : ∃ j : Nat, a = j := ⟨a.toNat, by omega⟩
          have hat : at_ < one.length := by omega
          obtain ⟨c0, hc0, hm⟩ := atI_zero (xs := tlc z) (by rw [tlc_len]; have := (nm_inv hz).1; omega)
          have hlet := (nm_inv hz).2.2 c0 hm
          have l1 := cutS_len one none (some (at_ : Int))
          have l2 := cutS_len one (some ((at_ : Int) + 1)) none
          have l3 : (⟨#[c0]⟩ : Str).length = 1 := rfl
          refine ⟨_, rfl, _, rfl, _, rfl, _, rfl, hlo, _, rfl, _, _, c0, rfl, rfl, nm_line hz, hc0, _, _, rfl, rfl, (by rw [sizeLine_eq]; omega), _, rfl, _, rfl, _, _, rfl, rfl, _, rfl, _, rfl, hlo, _, _, rfl, rfl, (by rw [Str.length_append, sizeLine_eq]; omega), ?_⟩
          exact nxt _ _ ⟨_, _, _, rfl, nm_splice hno hat hlet, lp6.le (by omega)⟩
        · exact nxt _ _ ⟨z, _, _, rfl, hz, (lp3.to k4.kept hB4).le (by omega)⟩
    · rintro σ G ⟨zs, y3, y4, y5, y6, rfl, lp, hl1, hl2⟩
      exact ⟨_, rfl, k F0 zs G ⟨hFH, hFb, lp.kept, lp.bag.mono (by omega), lp.fnd, lp.nd, lp.nm⟩ hl1 (by omega)⟩
theorem scLNum : FnScope ["bag", "many", "name"] ["bag", "many"] (defScope sLNum) := ⟨rfl, rfl, rfl, by decide +kernel, rfl, by decide +kernel, by decide +kernel⟩
theorem zero_nm : isNm (("zero" : String) : Str) = true := by decide +kernel
theorem ok_lnum {f fN : Addr} {fd fdN : FuncData} (F : FnP K "_law_numbers" sLNum f fd) (GN : FnOk P w K mg base CX0 3 fN fdN ["bag", "many"] spLNames) (bN : Binds K fdN ["bag", "many"] []) (kN : PySem.W.keepIn K (.ref fN) = true) (gN : mg "_law_names" = some (.ref fN)) :
    FnOk P w K mg base CX0 4 f fd ["bag", "many"] spLNums := by
  refine F.ok scLNum (fun vs H Q E h => ?_) (fun cdv A outer s H vs Q E hr h => ?_)
  · obtain ⟨b, n, m, rfl, _⟩ := h
    rfl
  · obtain ⟨b, n, many, rfl, hB, hn, h1, h100, k⟩ := h
    have nd := scLNum.nd
    refine ⟨_, PSs.nox (pss_one (ps_ret (pe_op op_cat (pe_lc (own := [("name", 2)]) (g := (gName 2))  rfl nd (pi_list (pe_call GN hr rfl gN kN bN .nil pass0 (pa_cons (pv 0) (pa_cons (pv 1) pa_nil)))) (blkOk_by (own := [("name", 2)]) (N := ["bag", "many", "name"]) (sc := defScope sLNum) (by decide +kernel)) (fun _ _ _ _ _ => (pg_name (i := 2) nd rfl (Or.inl rfl))) (fun _ _ _ _ _ => (pts_one (pt_cmpR op_ne (pv 2) pe_str (nomark _)))) (fun _ _ _ _ _ => (pv 2))) (pe_lst (pa_cons pe_str pa_nil))))), ?_⟩
    refine ⟨_, rfl, _, rfl, b, n, many, rfl, hB, by omega, h1, h100, fun F0 zs G hN hl1 hl2 => ⟨F0, rfl, ⟨_, SqL.of hN.2.2.2.2.1⟩, fun D nD => ?_⟩⟩
    obtain ⟨hF, hFb, hk, hBG, hfn, hnd, hnm⟩ := hN
    have hDb := hBG.ne nD
    refine lc_it (walk_list (K := K) (a := F0) (xs := zs.map V.str)) (fun i G2 => G2 D = some (.lst (((zs.take i).filter fun z : Str => decide (z ≠ "zero")).map V.str)) ∧ Same G G2 ∧ Bag G2 b (n + 20 * many)) ⟨upd_same, same_put nD, hBG.put hDb⟩ (fun i G2 _ h => SqL.of (h.2.1 _ _ hfn)) ?_ ?_
    · rintro i x G' G2 hi ⟨hD, s2, hB2⟩ ⟨rfl, hx⟩
      obtain ⟨z, hz, rfl⟩ := Option.map_eq_some_iff.mp ((List.getElem?_map ..).symm.trans hx)
      refine ⟨rfl, ?_⟩
      refine ⟨_, rfl, rfl, _, rfl, ?_⟩
      have etk : (zs.take (i + 1)).filter (fun z : Str => decide (z ≠ "zero")) = (zs.take i).filter (fun z : Str => decide (z ≠ "zero")) ++ (if decide (z ≠ "zero") = true then [z] else []) := by
        rw [take_at hz, List.filter_append]
        congr 1
        by_cases h : z = "zero"
        · rw [decide_eq_false (fun q => q h), if_neg Bool.false_ne_true]
          exact List.filter_cons_of_neg (by rw [decide_eq_false (fun q => q h)]; exact Bool.false_ne_true)
        · rw [decide_eq_true h, if_pos rfl]
          exact List.filter_cons_of_pos (decide_eq_true h)
      rw [etk]
      have ed : (!decide (V.str z = V.str "zero")) = decide (z ≠ "zero") := by
        rw [str_dec]
        by_cases h : z = "zero"
        · rw [decide_eq_true h, decide_eq_false (fun q => q h)]
          rfl
        · rw [decide_eq_false h, decide_eq_true h]
          rfl
      refine ite2' (fun c => ?_) (fun c => ?_)
      · have c' := c
        rw [ed] at c'
        rw [if_pos c']
        refine ⟨_, rfl, _, hD, ?_, ?_, fun y o e => ?_, ?_⟩
        · rw [List.length_map, sizeLine_eq]
          have := List.length_filter_le (fun z : Str => decide (z ≠ "zero")) (zs.take i)
          rw [List.length_take] at this
          have := Nat.min_le_right i zs.length
          omega
        · rw [upd_same, List.map_append]
          rfl
        · rw [upd_ne (ne_of_none e nD)]
          exact s2 _ _ e
        · exact hB2.put hDb
      · have c' := c
        rw [ed] at c'
        rw [c']
        rw [if_neg Bool.false_ne_true, List.append_nil]
        exact ⟨hD, s2, hB2⟩
    · rintro G2 ⟨hD, s2, hB2⟩
      rw [List.length_map, List.take_length] at hD
      refine ⟨by decide, fun L nL => ?_⟩
      have hLD : L ≠ D := (ne_of_none hD nL).symm
      have hLb := hB2.ne nL
      generalize hfs : zs.filter (fun z : Str => decide (z ≠ "zero")) = fs at hD
      have hfl : fs.length ≤ zs.length := by rw [← hfs]; exact List.length_filter_le _ _
      have hfm : ∀ z ∈ fs, z ∈ zs ∧ z ≠ "zero" := fun z hz => by
        rw [← hfs] at hz
        obtain ⟨q1, q2⟩ := List.mem_filter.mp hz
        exact ⟨q1, of_decide_eq_true q2⟩
      have hfd : fs.Nodup := by rw [← hfs]; exact hnd.filter _
      have hD2 : upd G2 L (.lst [.str "zero"]) D = some (.lst (fs.map V.str)) := (upd_ne hLD.symm).trans hD
      have hL2 : upd G2 L (.lst [.str "zero"]) L = some (.lst [.str "zero"]) := upd_same
      have s3 : Same G2 (upd G2 L (.lst [.str "zero"])) := same_put nL
      have hB3 := hB2.put (o := .lst [.str "zero"]) hLb
      generalize upd G2 L (.lst [.str "zero"]) = G3 at hD2 hL2 s3 hB3
      refine ⟨D, L, _, _, rfl, rfl, hD2, hL2, (by rw [List.length_map, sizeLine_eq]; show fs.length + 1 ≤ _; omega), fun R nR => ?_⟩
      have hRb := hB3.ne nR
      have kR : Kept b H G3 := fun x o nx e => s3 _ _ (s2 _ _ (hk x o nx e))
      have hRH : H R = none := by
        cases e : H R with
        | none => rfl
        | some o => exact absurd (kR R o hRb e) (by rw [nR]; exact nofun)
      refine k R (fs ++ [(("zero" : String) : Str)]) _ ⟨hRH, hRb, fun x o nx e => (upd_ne (ne_of_none e hRH)).trans (kR x o nx e), hB3.put hRb, ?_, ?_, fun z hz => ?_⟩ (by rw [List.length_append]; show 1 ≤ fs.length + 1; omega) (by rw [List.length_append]; show fs.length + 1 ≤ _; omega)
      · rw [upd_same, List.map_append]
        rfl
      · refine List.nodup_append.mpr ⟨hfd, List.nodup_cons.mpr ⟨List.not_mem_nil, List.nodup_nil⟩, fun x hx y hy => ?_⟩
        rw [List.mem_singleton.mp hy]
        exact (hfm x hx).2
      · rcases List.mem_append.mp hz with hz | hz
        · exact hnm z (hfm z hz).1
        · rw [List.mem_singleton.mp hz]
          exact zero_nm
end
end K30

set_option Elab.async false
set_option maxRecDepth 100000
set_option maxHeartbeats 1000000
namespace K30
open PySem PySem.Spec PyProof.Rows L2 KX
abbrev sRnd : Stmt := top 14
section
variable {P : Program} {w : World} {K : PySem.W.Frag} {mg : Str → Option Value} {base : Heap}
theorem scRnd : FnScope ["bag", "names", "road", "turn", "sums", "name", "k"] ["bag", "names"] (defScope sRnd) := ⟨rfl, rfl, rfl, by decide +kernel, rfl, by decide +kernel, by decide +kernel⟩
theorem ok_rnd {f fD fO : Addr} {fd fdD fdO : FuncData} (F : FnP K "_law_round" sRnd f fd) (GD : FnOk P w K mg base CX0 1 fD fdD ["bag", "many"] spDraw) (bD : Binds K fdD ["bag", "many"] []) (kD : PySem.W.keepIn K (.ref fD) = true) (gD : mg "_law_draw" = some (.ref fD))
    (GO : FnOk P w K mg base CX0 2 fO fdO ["bag", "some"] (spOf K)) (bO : Binds K fdO ["bag", "some"] []) (kO : PySem.W.keepIn K (.ref fO) = true) (gO : mg "_law_of" = some (.ref fO))
    (n_range : mg "range" = none) (n_len : mg "len" = none) (n_sum : mg "sum" = none) (n_int : mg "int" = none) : FnOk P w K mg base CX0 3 f fd ["bag", "names"] (spRnd K) := by
  refine F.ok scRnd (fun vs H Q E h => ?_) (fun cdv A outer s H vs Q E hr h => ?_)
  · obtain ⟨b, L, n, zs, rfl, _⟩ := h
    rfl
  · obtain ⟨b, L, n, zs, rfl, hB, hn, hLb, hL, hnd, h2, h100, hnm, k⟩ := h
    have nd := scRnd.nd
    have hr1 := hr.mono (j := 1) (by decide)
    refine ⟨_, PSs.nox (pss_cons (ps_set (i := 2) nd rfl (Or.inr rfl) (pe_lst (pa_cons (pe_call GO hr (by rfl) gO kO bO .nil pass0 (pa_cons (pv 0) (pa_cons (pv 1) pa_nil))) pa_nil)))
(pss_cons (ps_for PassesOwn.never rfl (pi_range1 (by rfl) n_range (pa_cons (pe_op op_add pe_int (pe_call GD hr1 (by rfl) gD kD bD .nil pass0 (pa_cons (pv 0) (pa_cons pe_int pa_nil)))) pa_nil)) (pg_name (i := 3) nd rfl (Or.inl rfl))
(pss_one (ps_expr (pe_bm PySem.F.plainAttrs_list PySem.F.slot_list_append PySem.F.type_list_append mt_append (pv 2) (pa_cons (pe_call GO hr (by rfl) gO kO bO .nil pass0 (pa_cons (pv 0) (pa_cons (pe_lc (own := [("name", 5)]) (g := (gName 5))  rfl nd (pi_list (pv 1)) (blkOk_by (own := [("name", 5)]) (N := ["bag", "names", "road", "turn", "sums", "name", "k"]) (sc := defScope sRnd) (by decide +kernel)) (fun _ _ _ _ _ => (pg_name (i := 5) nd rfl (Or.inl rfl))) (fun _ _ _ _ _ => (pts_one (pt_cmpR op_ne (pv 5) (pe_ix (show IxR _ (rIxL K) from ix_list) (pv 2) (pe_un un_neg pe_int) (fun _ _ => rfl)) (nomark _)))) (fun _ _ _ _ _ => (pv 5))) pa_nil))) pa_nil)))))
(pss_cons (ps_if (pt_cmpR op_eq (pe_ix ix_list (pv 2) (pe_un un_neg pe_int) (fun _ _ => rfl)) (pe_ix ix_list (pv 2) pe_int (fun _ _ => rfl)) (nomark _))
(pss_one (ps_expr (pe_bm0 PySem.F.plainAttrs_list PySem.F.slot_list_pop PySem.F.type_list_pop mt_pop (pv 2))))
pss_nil)
(pss_cons (ps_set (i := 4) nd rfl (Or.inr rfl) (pe_lc (own := [("name", 5)]) (g := (gName 5)) (tt := tYes) rfl nd (pi_list (pe_slice sl_list (pv 2) (po_some pe_int) po_none)) (blkOk_by (own := [("name", 5)]) (N := ["bag", "names", "road", "turn", "sums", "name", "k"]) (sc := defScope sRnd) (by decide +kernel)) (fun _ _ _ _ _ => (pg_name (i := 5) nd rfl (Or.inl rfl))) (fun _ _ _ _ _ => pts_nil) (fun _ _ _ _ _ => (pe_call GO hr (by rfl) gO kO bO .nil pass0 (pa_cons (pv 0) (pa_cons (pe_lst (pa_cons pe_int (pa_cons pe_int (pa_cons (pe_un un_neg pe_int) (pa_cons (pe_call GD hr1 (by rfl) gD kD bD .nil pass0 (pa_cons (pv 0) (pa_cons (pe_op op_pow pe_int pe_int) pa_nil))) pa_nil))))) pa_nil))))))
(pss_cons (ps_expr (pe_bm PySem.F.plainAttrs_list PySem.F.slot_list_append PySem.F.type_list_append mt_append (pv 4) (pa_cons (pe_op op_sub (pe_op op_sub (pe_un un_neg (pe_callB (cr_sum rfl) (by rfl) n_sum (by decide +kernel) (pa_cons (pv 4) pa_nil))) pe_int) (pe_call GO hr (by rfl) gO kO bO .nil pass0 (pa_cons (pv 0) (pa_cons (pe_lst (pa_cons pe_int (pa_cons pe_int (pa_cons pe_int pa_nil)))) pa_nil)))) pa_nil)))
(pss_one (ps_ret (pe_lc (own := [("k", 6)]) (g := (gName 6)) (tt := tYes) rfl nd (pi_range1 (by rfl) n_range (pa_cons (pe_callB call_len_seq (by rfl) n_len PySem.boot_len (pa_cons (pv 2) pa_nil)) pa_nil)) (blkOk_by (own := [("k", 6)]) (N := ["bag", "names", "road", "turn", "sums", "name", "k"]) (sc := defScope sRnd) (by decide +kernel)) (fun _ _ _ _ _ => (pg_name (i := 6) nd rfl (Or.inl rfl))) (fun _ _ _ _ _ => pts_nil) (fun _ _ _ _ _ => (pe_tup (pa_cons (pe_ix (show IxR _ (rIxL K) from ix_list) (pv 2) (pv 6) (fun _ _ => rfl)) (pa_cons (pe_ix (show IxR _ (rIxL K) from ix_list) (pv 2) (pe_op op_modN (pe_callTy call_int1 (by rfl) n_int (by decide +kernel) (pa_cons (pe_op op_add (pv 6) pe_int) pa_nil)) (pe_callB (show CallR _ _ (rLenQ K) from call_len_seq) (by rfl) n_len PySem.boot_len (pa_cons (pv 2) pa_nil))) (fun _ _ => rfl)) (pa_cons (pe_ix (show IxR _ (rIxL K) from ix_list) (pv 4) (pv 6) (fun _ _ => rfl)) pa_nil))))))))))))), ?_⟩
    -- road
    refine ⟨_, rfl, _, rfl, b, L, n, _, rfl, hB, by omega, hLb, SqL.of hL, by rw [List.length_map]; omega, by rw [List.length_map]; omega, fun j0 v0 G1 hv0 k1 hB1 => ⟨(by show 1 ≤ sizeLine; decide), fun F0 nF => ?_⟩⟩
    obtain ⟨z0, hz0, rfl⟩ := Option.map_eq_some_iff.mp ((List.getElem?_map ..).symm.trans hv0)
    have hFb := hB1.ne nF
    have hFH : H F0 = none := by
      cases e : H F0 with
      | none => rfl
      | some o => exact absurd (k1.kept F0 o hFb e) (by rw [nF]; exact nofun)
    have lp0 : RD b F0 H (upd G1 F0 (.lst [.str z0])) [z0] (n + 1) := ⟨hB1.put hFb, upd_same, fun x o nx e => (upd_ne (ne_of_none e hFH)).trans (k1.kept x o nx e), hFb⟩
    generalize upd G1 F0 (.lst [.str z0]) = G2 at lp0
    -- the loop
    refine ⟨_, rfl, b, _, 7, rfl, lp0.bag, by omega, by decide, by decide, fun r G3 r0 r1 k3 hB3 => ⟨_, _, rfl, rfl, _, rfl, by omega, by omega, ?_⟩⟩
    have lp3 := lp0.to k3.kept hB3
    obtain ⟨nn, hnn, hn1, hn7⟩ : ∃ nn : Nat, (1 + r).toNat = nn ∧ 1 ≤ nn ∧ nn ≤ 7 := ⟨_, rfl, by omega, by omega⟩
    rw [hnn]
    refine for_it (walk_rng (n := nn)) (fun i σ G => ∃ rs y3, σ = [some (.ref b), some (.ref L), some (.ref F0), y3, none, none, none] ∧ RD b F0 H G rs (n + 2 + i) ∧ rs.length = i + 1 ∧ ∀ z ∈ rs, z ∈ zs)
      ⟨[z0], none, rfl, lp3.le (by omega), rfl, fun z hz => by rw [List.mem_singleton.mp hz]; exact List.mem_of_getElem? hz0⟩ (fun _ _ _ _ _ => trivial) ?_ ?_
    · rintro i x σ G' G hi ⟨rs, y3, rfl, lp, hl, hin⟩ ⟨rfl, rfl⟩
      have hLG := lp.kept L _ hLb hL
      obtain ⟨last, hla, hlm⟩ := atI_end (xs := rs) (by omega)
      refine ⟨_, rfl, .inl ⟨rfl, _, SqL.of lp.fnd⟩, _, rfl, _, rfl, L, rfl, ⟨_, SqL.of hLG⟩, fun D nD => ?_⟩
      have hDb := lp.bag.ne nD
      refine lc_it (walk_list (K := K) (a := L) (xs := zs.map V.str)) (fun i G2 => G2 D = some (.lst (((zs.take i).filter fun z : Str => decide (z ≠ last)).map V.str)) ∧ Same G G2 ∧ Bag G2 b (n + 2 + _)) ⟨upd_same, same_put nD, lp.bag.put hDb⟩ (fun i G2 _ h => SqL.of (h.2.1 _ _ hLG)) ?_ ?_
      · rintro j x G' G4 hj ⟨hD, s4, hB4⟩ ⟨rfl, hx⟩
        obtain ⟨z, hz, rfl⟩ := Option.map_eq_some_iff.mp ((List.getElem?_map ..).symm.trans hx)
        refine ⟨rfl, _, rfl, _, rfl, _, rfl, F0, _, _, _, rfl, rfl, SqL.of (s4 _ _ lp.fnd), atI_map hla, rfl, _, rfl, ?_⟩
        rw [flt_take hz]
        have ed := ne_dec z last
        refine ite2' (fun c => ?_) (fun c => ?_)
        · have c' := c
          rw [ed] at c'
          rw [if_pos c']
          refine ⟨_, rfl, _, hD, ?_, ?_, fun y o e => ?_, hB4.put hDb⟩
          · rw [List.length_map, sizeLine_eq]
            have := List.length_filter_le (fun z : Str => decide (z ≠ last)) (zs.take j)
            rw [List.length_take] at this
            have := Nat.min_le_right j zs.length
            omega
          · rw [upd_same, List.map_append]
            rfl
          · rw [upd_ne (ne_of_none e nD)]
            exact s4 _ _ e
        · have c' := c
          rw [ed] at c'
          rw [c', if_neg Bool.false_ne_true, List.append_nil]
          exact ⟨hD, s4, hB4⟩
      · rintro G4 ⟨hD, s4, hB4⟩
        rw [List.length_map, List.take_length] at hD
        generalize hfs : zs.filter (fun z : Str => decide (z ≠ last)) = fs at hD
        have hfl : fs.length ≤ zs.length := by rw [← hfs]; exact List.length_filter_le _ _
        have hf0 : 0 < fs.length := by
          obtain ⟨y, hy, hne⟩ := two_unlike hnd h2 last
          rw [← hfs]
          exact List.length_pos_of_mem (List.mem_filter.mpr ⟨hy, decide_eq_true hne⟩)
        have lp4 := lp.to (fun x o _ e => s4 x o e) hB4
        refine ⟨b, D, _, _, rfl, hB4, by omega, hDb, SqL.of hD, by rw [List.length_map]; omega, by rw [List.length_map]; omega, fun q v G5 hv k5 hB5 => ?_⟩
        obtain ⟨z, hz, rfl⟩ := Option.map_eq_some_iff.mp ((List.getElem?_map ..).symm.trans hv)
        have hzz : z ∈ zs := by
          have hm := List.mem_of_getElem? hz
          rw [← hfs] at hm
          exact (List.mem_filter.mp hm).1
        have lp5 := lp4.to k5.kept hB5
        refine ⟨F0, rs.map V.str, _, rfl, rfl, lp5.fnd, (by rw [List.length_map, sizeLine_eq]; omega), ?_⟩
        have e9 : rs.map V.str ++ [V.str z] = (rs ++ [z]).map V.str := by rw [List.map_append]; rfl
        rw [e9]
        refine ⟨rs ++ [z], _, rfl, (lp5.set hFH).le (by omega), by rw [List.length_append, hl]; rfl, fun y hy => ?_⟩
        rcases List.mem_append.mp hy with hy | hy
        · exact hin y hy
        · rw [List.mem_singleton.mp hy]
          exact hzz
    · rintro σ G ⟨rs, y3, rfl, lp, hl, hin⟩
      have lpA := lp.le (m' := n + 10) (by omega)
      have hlA : 2 ≤ rs.length ∧ rs.length ≤ 8 := by omega
      clear lp hl
      dsimp only
      refine seq_by (fun σ G => ∃ rs, σ = [some (.ref b), some (.ref L), some (.ref F0), y3, none, none, none] ∧ RD b F0 H G rs (n + 10) ∧ 1 ≤ rs.length ∧ rs.length ≤ 8 ∧ ∀ z ∈ rs, z ∈ zs) ?_ (fun nxt => ?_)
      · rintro σ G ⟨rs, rfl, lp, hl1, hl8, hin⟩
        have hcut : cutV (rs.map V.str) (some 1) none = (rs.map V.str).drop 1 := cut_from (α := V) (rs.map V.str) 1 (by rw [List.length_map]; exact hl1)
        refine ⟨_, rfl, _, rfl, F0, _, rfl, SqL.of lp.fnd, fun pt npt => ?_⟩
        rw [hcut]
        generalize hys : (rs.map V.str).drop 1 = ys
        have hyl : ys.length = rs.length - 1 := by rw [← hys, List.length_drop, List.length_map]
        have hptb := lp.bag.ne npt
        have lpB : RD b F0 H (upd G pt (.lst ys)) rs (n + 10) := lp.to (fun x o _ e => same_put npt x o e) (lp.bag.put hptb)
        have fpt : upd G pt (.lst ys) pt = some (.lst ys) := upd_same
        generalize upd G pt (.lst ys) = G1 at lpB fpt
        refine ⟨pt, rfl, ⟨_, SqL.of fpt⟩, fun D nD => ?_⟩
        have hDb := lpB.bag.ne nD
        have hDF : F0 ≠ D := ne_of_none lpB.fnd nD
        have hDp : pt ≠ D := ne_of_none fpt nD
        have hDH : H D = none := by
          cases e : H D with
          | none => rfl
          | some o => exact absurd (lpB.kept D o hDb e) (by rw [nD]; exact nofun)
        refine lc_it (walk_list (K := K) (a := pt) (xs := ys)) (fun i G2 => ∃ ws : List Int, G2 D = some (.lst (ws.map V.int)) ∧ ws.length = i ∧ (∀ x ∈ ws, x.natAbs ≤ 10 ^ 28) ∧ RD b F0 H G2 rs (n + 10 + 2 * i) ∧ G2 pt = some (.lst ys))
          ⟨[], upd_same, rfl, (fun _ z => nomatch z), (lpB.to (fun x o _ e => same_put nD x o e) (lpB.bag.put hDb)).le (by omega), same_put nD _ _ fpt⟩ (fun i G2 _ h => h.elim fun _ h => SqL.of h.2.2.2.2) ?_ ?_
        · rintro i x G' G2 hi ⟨ws, hD, hwl, hw, lp2, fp2⟩ ⟨rfl, hx⟩
          refine ⟨rfl, ?_⟩
          dsimp only [tYes]
          rw [if_pos rfl]
          refine ⟨_, rfl, _, rfl, _, rfl, _, _, rfl, rfl, ⟨by decide, by decide, by decide⟩, b, _, _, rfl, lp2.bag, by omega, by decide, by decide, fun d G3 d0 d1 k3 hB3 => ⟨(by show 4 ≤ sizeLine; decide), fun L2 nL2 => ?_⟩⟩
          have hL2b := hB3.ne nL2
          refine ⟨b, L2, _, _, rfl, hB3.put hL2b, by omega, hL2b, SqL.of upd_same, (by show 0 < 4; decide), (by show 4 ≤ 1000; decide), fun j v G4 hv k4 hB4 => ?_⟩
          have kk : Kept b G2 G4 := fun x o nx e => (k4 x nx).trans (same_put nL2 _ _ ((k3 x nx).trans e))
          obtain ⟨m, rfl, hm⟩ : ∃ m : Int, v = .int m ∧ m.natAbs ≤ 10 ^ 28 := by
            match j, hv with
            | 0, e => exact ⟨0, (Option.some.inj e).symm, by decide⟩
            | 1, e => exact ⟨2, (Option.some.inj e).symm, by decide⟩
            | 2, e => exact ⟨-1, (Option.some.inj e).symm, by decide⟩
            | 3, e => exact ⟨d, (Option.some.inj e).symm, by have q : d < 10 ^ 28 := d1; omega⟩
          refine ⟨_, kk D _ hDb hD, (by rw [List.length_map, sizeLine_eq]; omega), ws ++ [m], (by rw [upd_same, List.map_append]; rfl), by rw [List.length_append, hwl]; rfl, fun y hy => ?_, ?_, ?_⟩
          · rcases List.mem_append.mp hy with hy | hy
            · exact hw y hy
            · rw [List.mem_singleton.mp hy]
              exact hm
          · have q := lp2.to kk hB4
            exact ⟨(q.bag.put hDb).mono (by omega), (upd_ne hDF).trans q.fnd, fun x o nx e => (upd_ne (ne_of_none e hDH)).trans (q.kept x o nx e), q.ne⟩
          · exact (upd_ne hDp).trans (kk pt _ hptb fp2)
        · rintro G2 ⟨ws, hD, hwl, hw, lp2, fp2⟩
          rw [hyl] at hwl
          have lp2 := lp2.le (m' := n + 40) (by omega)
          have hsum := sum_le hw
          refine ⟨_, rfl, .inl ⟨rfl, _, SqL.of hD⟩, _, rfl, D, ws, rfl, SqL.of hD, _, rfl, _, _, rfl, rfl, _, rfl, (by show 3 ≤ sizeLine; decide), fun L2 nL2 => ?_⟩
          have hL2b := lp2.bag.ne nL2
          refine ⟨b, L2, _, _, rfl, lp2.bag.put hL2b, by omega, hL2b, SqL.of upd_same, (by show 0 < 3; decide), (by show 3 ≤ 1000; decide), fun j v G4 hv k4 hB4 => ?_⟩
          have kk : Kept b G2 G4 := fun x o nx e => (k4 x nx).trans (same_put nL2 _ _ e)
          obtain ⟨m, rfl, hm⟩ : ∃ m : Int, v = .int m ∧ m.natAbs ≤ 4 := by
            match j, hv with
            | 0, e => exact ⟨0, (Option.some.inj e).symm, by decide⟩
            | 1, e => exact ⟨0, (Option.some.inj e).symm, by decide⟩
            | 2, e => exact ⟨4, (Option.some.inj e).symm, by decide⟩
          have hD4 := kk D _ hDb hD
          have lp4 := lp2.to kk hB4
          refine ⟨_, _, rfl, rfl, D, _, _, rfl, rfl, hD4, (by rw [List.length_map, sizeLine_eq]; omega), ?_⟩
          obtain ⟨ws2, hws2, hwl2, hw2⟩ : ∃ ws2 : List Int, ws.map V.int ++ [V.int (-ws.sum - 1 - m)] = ws2.map V.int ∧ ws2.length = rs.length ∧ ∀ x ∈ ws2, x.natAbs ≤ 10 ^ 29 := by
            refine ⟨ws ++ [-ws.sum - 1 - m], by rw [List.map_append]; rfl, by rw [List.length_append, hwl]; show rs.length - 1 + 1 = _; omega, fun y hy => ?_⟩
            rcases List.mem_append.mp hy with hy | hy
            · have := hw y hy
              omega
            · rw [List.mem_singleton.mp hy]
              have : ws.length * 10 ^ 28 ≤ 7 * 10 ^ 28 := Nat.mul_le_mul_right _ (by omega)
              omega
          rw [hws2]
          have lp5 : RD b F0 H (upd G4 D (.lst (ws2.map V.int))) rs (n + 45) := ⟨(lp4.bag.put hDb).mono (by omega), (upd_ne hDF).trans lp4.fnd, fun x o nx e => (upd_ne (ne_of_none e hDH)).trans (lp4.kept x o nx e), lp4.ne⟩
          have hD5 : upd G4 D (.lst (ws2.map V.int)) D = some (.lst (ws2.map V.int)) := upd_same
          generalize upd G4 D (.lst (ws2.map V.int)) = G5 at lp5 hD5
          refine ⟨_, rfl, _, _, rfl, .inl (SqL.of lp5.fnd), _, rfl, (by omega), (by rw [List.length_map]; omega), fun R nR => ?_⟩
          rw [List.length_map, Int.toNat_natCast]
          have hRb := lp5.bag.ne nR
          have hRF : F0 ≠ R := ne_of_none lp5.fnd nR
          have hRD : D ≠ R := ne_of_none hD5 nR
          have hRH : H R = none := by
            cases e : H R with
            | none => rfl
            | some o => exact absurd (lp5.kept R o hRb e) (by rw [nR]; exact nofun)
          have offR : ∀ {G : Hp} {o : HO} {m : Int}, RD b F0 H G rs m → RD b F0 H (upd G R o) rs m := fun q => ⟨q.bag.put hRb, (upd_ne hRF).trans q.fnd, fun x o nx e => (upd_ne (ne_of_none e hRH)).trans (q.kept x o nx e), q.ne⟩
          refine lc_it (walk_rng (n := rs.length)) (fun i G2 => ∃ (xs : List V) (ts : List Bd), G2 R = some (.lst xs) ∧ Paired (BdT G2) xs ts ∧ ts.length = i ∧ (∀ t ∈ ts, isNm t.1 = true ∧ isNm t.2.1 = true ∧ t.2.2.natAbs ≤ 10 ^ 29) ∧ RD b F0 H G2 rs (n + 45) ∧ G2 D = some (.lst (ws2.map V.int)))
            ⟨[], [], upd_same, .nil, rfl, (fun _ z => nomatch z), offR lp5, (upd_ne hRD).trans hD5⟩ (fun _ _ _ _ => trivial) ?_ ?_
          · rintro i x G' G6 hi ⟨xs, ts, hR, hP, htl, hts, lp6, hD6⟩ ⟨rfl, rfl⟩
            have hxl := pair_len hP
            refine ⟨rfl, ?_⟩
            dsimp only [tYes]
            rw [if_pos rfl]
            obtain ⟨j, hj, hjl⟩ : ∃ j : Nat, ((i : Int) + 1).fmod (((rs.map V.str).length : Nat) : Int) = j ∧ j < rs.length := by
              rw [List.length_map]
              obtain ⟨q1, q2⟩ := fmod_in (x := (i : Int) + 1) (y := ((rs.length : Nat) : Int)) (by omega)
              exact ⟨_, (Int.toNat_of_nonneg q1).symm, by omega⟩
            have eA : (rs.map V.str)[i]? = some (.str rs[i]) := by rw [List.getElem?_map, List.getElem?_eq_getElem hi]; rfl
            have eB : (rs.map V.str)[j]? = some (.str rs[j]) := by rw [List.getElem?_map, List.getElem?_eq_getElem hjl]; rfl
            have hi2 : i < ws2.length := by omega
            have eC : (ws2.map V.int)[i]? = some (.int ws2[i]) := by rw [List.getElem?_map, List.getElem?_eq_getElem hi2]; rfl
            refine ⟨_, rfl, _, rfl, F0, _, _, _, rfl, rfl, SqL.of lp6.fnd, atI_nat eA, ?_⟩
            refine ⟨_, rfl, _, rfl, _, _, rfl, rfl, .inl ⟨_, rfl, _, rfl, _, _, rfl, .inl (SqL.of lp6.fnd), _, _, rfl, rfl, (by rw [List.length_map]; omega), F0, _, _, _, rfl, rfl, SqL.of lp6.fnd, (by rw [hj]; exact atI_nat eB), ?_⟩⟩
            refine ⟨_, rfl, _, rfl, D, _, _, _, rfl, rfl, SqL.of hD6, atI_nat eC, (by show 3 ≤ sizeLine; decide), fun T nT => ?_⟩
            have sT : Same G6 (upd G6 T (.tup [.str rs[i], .str rs[j], .int ws2[i]])) := same_put nT
            have hTb := lp6.bag.ne nT
            have lp7 : RD b F0 H (upd G6 T (.tup [.str rs[i], .str rs[j], .int ws2[i]])) rs (n + 45) := lp6.to (fun x o _ e => sT x o e) (lp6.bag.put hTb)
            have fT : upd G6 T (.tup [.str rs[i], .str rs[j], .int ws2[i]]) T = some (.tup [.str rs[i], .str rs[j], .int ws2[i]]) := upd_same
            generalize upd G6 T (.tup [.str rs[i], .str rs[j], .int ws2[i]]) = G7 at sT lp7 fT
            have hR7 := sT _ _ hR
            refine ⟨xs, hR7, (by rw [sizeLine_eq]; omega), xs ++ [.ref T], ts ++ [(rs[i], rs[j], ws2[i])], upd_same, pair_snoc (BdT.off ⟨T, rfl, fT⟩ hR7) (pair_imp (fun x y h => (h.same sT).off hR7) hP), by rw [List.length_append, htl]; rfl, fun t ht => ?_, offR lp7, (upd_ne hRD).trans (sT _ _ hD6)⟩
            rcases List.mem_append.mp ht with ht | ht
            · exact hts t ht
            · rw [List.mem_singleton.mp ht]
              exact ⟨hnm _ (hin _ (List.getElem_mem hi)), hnm _ (hin _ (List.getElem_mem hjl)), hw2 _ (List.getElem_mem hi2)⟩
          · rintro G6 ⟨xs, ts, hR, hP, htl, hts, lp6, hD6⟩
            refine k R xs (ts.map bdX) G6 hRH hRb lp6.kept (lp6.bag.mono (by omega)) hR (bts_dp hP) (by rw [List.length_map]; omega) (by rw [List.length_map]; omega) fun d hd => ?_
            obtain ⟨t, ht, rfl⟩ := List.mem_map.mp hd
            exact ⟨t.1, t.2.1, t.2.2, rfl, hts t ht⟩
      · obtain ⟨last, hla, hlm⟩ := atI_end (xs := rs) (by omega)
        obtain ⟨fst, hfi, hfm⟩ := atI_zero (xs := rs) (by omega)
        refine ⟨_, rfl, _, rfl, F0, _, _, _, rfl, rfl, SqL.of lpA.fnd, atI_map hla, _, rfl, F0, _, _, _, rfl, rfl, SqL.of lpA.fnd, atI_map hfi, rfl, _, rfl, ite2' (fun c => ?_) (fun c => ?_)⟩
        · have hlt : rs.length - 1 < rs.length := by omega
          refine ⟨_, rfl, .inl ⟨rfl, _, SqL.of lpA.fnd⟩, F0, rs.map V.str, _, rfl, rfl, lpA.fnd, (by rw [List.length_map, List.getElem?_map, List.getElem?_eq_getElem hlt]; rfl), ?_⟩
          rw [← List.map_dropLast]
          exact nxt _ _ ⟨_, rfl, lpA.set hFH, by rw [List.length_dropLast]; omega, by rw [List.length_dropLast]; omega, fun z hz => hin z (List.dropLast_subset _ hz)⟩
        · exact nxt _ _ ⟨rs, rfl, lpA, by omega, hlA.2, hin⟩
end
end K30

set_option Elab.async false
set_option maxRecDepth 100000
set_option maxHeartbeats 2000000
/-! Small odd things: scalars, and lists and tuples of a few of them. -/
namespace KX
open PySem PySem.Spec PyProof.Rows L2
def ScD (m : Nat) : PyData → Prop
  | .none => True
  | .bool _ => True
  | .int i => i.natAbs ≤ m
  | .str z => z.length ≤ 100 ∧ ∀ c ∈ tlc z, c < 1000
  | _ => False
def ElX (m : Nat) (d : PyData) : Prop := ScD m d ∨ ∃ ds, ((d = .list ds ∧ ∃ z r, ds = .str z :: r) ∨ d = .tuple ds) ∧ ds.length ≤ 6 ∧ ∀ e ∈ ds, ScD m e
theorem ScD.mono {m m' : Nat} {d : PyData} (h : m ≤ m') (q : ScD m d) : ScD m' d := by
  cases d <;> first | exact q | exact Nat.le_trans q h
theorem ElX.mono {m m' : Nat} {d : PyData} (h : m ≤ m') (q : ElX m d) : ElX m' d := by
  rcases q with q | ⟨ds, e, hl, q⟩
  · exact .inl (q.mono h)
  · exact .inr ⟨ds, e, hl, fun x hx => (q x hx).mono h⟩
theorem nm_sc {m : Nat} {z : Str} (h : isNm z = true) : ScD m (.str z) := by
  obtain ⟨h1, h2, h3⟩ := nm_inv h
  refine ⟨by omega, fun c hc => ?_⟩
  have q := h3 c hc
  unfold isLet at q
  have := of_decide_eq_true (Bool.and_eq_true_iff.mp q).2
  exact Nat.lt_of_le_of_lt this (by decide)
theorem BdX.el {m : Nat} {d : PyData} (h : BdX m d) : ElX m d := by
  obtain ⟨u, v, c, rfl, hu, hv, hc⟩ := h
  refine .inr ⟨_, .inr rfl, by show 3 ≤ 6; decide, fun e he => ?_⟩
  rcases List.mem_cons.mp he with rfl | he
  · exact nm_sc hu
  rcases List.mem_cons.mp he with rfl | he
  · exact nm_sc hv
  rw [List.mem_singleton.mp he]
  exact hc
theorem sc_okN {m : Nat} {d : PyData} (h : ScD m d) : okN d := by
  rintro z rfl
  have := h.1
  omega
theorem str_ok {z : Str} (h : z.length ≤ 100 ∧ ∀ c ∈ tlc z, c < 1000) : PyData.canLay0 (.str z) = true := by
  show z.cps.all (· < 0x110000) = true
  rw [← Array.all_toList]
  exact List.all_eq_true.mpr fun c hc => decide_eq_true (Nat.lt_trans (h.2 c hc) (by decide))
theorem sc_lay {m : Nat} {d : PyData} (h : ScD m d) : d.canLay0 = true ∧ d.depth ≤ 0 := by
  cases d with
  | none => exact ⟨rfl, Nat.le_refl _⟩
  | bool => exact ⟨rfl, Nat.le_refl _⟩
  | int => exact ⟨rfl, Nat.le_refl _⟩
  | str z => exact ⟨str_ok h, Nat.le_refl _⟩
  | list => exact False.elim h
  | tuple => exact False.elim h
  | dict => exact False.elim h
theorem ElX.okE {m : Nat} {d : PyData} (h : ElX m d) : okE d := by
  rcases h with h | ⟨ds, e, hl, q⟩
  · refine ⟨fun ds e => ?_, (sc_lay h).1, Nat.le_trans (sc_lay h).2 (by decide)⟩
    subst e
    exact False.elim h
  · obtain ⟨l1, l2⟩ := lay_all (k := 0) fun x hx => sc_lay (q x hx)
    rcases e with ⟨rfl, _⟩ | rfl
    · exact ⟨fun es e => (nomatch e), l1, by show PyData.depthAll ds + 1 ≤ 60; omega⟩
    · refine ⟨fun es e => ?_, l1, by show PyData.depthAll ds + 1 ≤ 60; omega⟩
      cases e
      exact ⟨by omega, fun x hx => sc_okN (q x hx)⟩
theorem sc_small {m : Nat} {d : PyData} (hm : m < 10 ^ 40) (h : ScD m d) : Small d 0 1002 := by
  cases d with
  | none => exact ⟨rfl, rfl, Nat.le_refl _, by show ("None" : Str).length ≤ 1002; decide⟩
  | bool b => exact ⟨rfl, rfl, Nat.le_refl _, by cases b <;> (show (_ : Str).length ≤ 1002; decide)⟩
  | int i =>
    have hi : i.natAbs < 10 ^ 40 := Nat.lt_of_le_of_lt h hm
    refine ⟨decide_eq_true ?_, rfl, Nat.le_refl _, ?_⟩
    · have h2 : i.natAbs < 2 ^ 140 := Nat.lt_trans hi (by decide)
      exact Nat.lt_trans (PySem.Flt.log2_lt_of (by decide) h2) (by decide)
    · have q := int_text_length_le10 (k := 40) (by decide) hi
      show (Str.ofString (toString i)).length ≤ 1002
      rw [PySem.ofString_length]
      omega
  | str z =>
    refine ⟨rfl, rfl, Nat.le_refl _, ?_⟩
    have q := PySem.StrLaws.reprText_len z fun c hc => Nat.lt_trans (h.2 c hc) (by decide)
    have := h.1
    show (reprText z).length ≤ 1002
    omega
  | list => exact False.elim h
  | tuple => exact False.elim h
  | dict => exact False.elim h
theorem piled_le {m : Nat} : ∀ {ts : List Str}, (∀ t ∈ ts, t.length ≤ m) → piled ts ≤ ts.length * (m + 2)
  | [], _ => Nat.zero_le _
  | t :: r, h => by
    have h1 := h t List.mem_cons_self
    have h2 := piled_le (ts := r) fun u hu => h u (List.mem_cons_of_mem _ hu)
    rw [List.length_cons, Nat.succ_mul]
    simp only [piled, List.map_cons, List.sum_cons] at h2 ⊢
    omega
theorem tupleText_le {m : Nat} {ts : List Str} (h : ∀ t ∈ ts, t.length ≤ m) : (tupleText ts).length ≤ ts.length * (m + 2) + 4 := by
  unfold tupleText
  have e1 : (("(" : String) : Str).length = 1 := by decide
  have e2 : ((if ts.length == 1 then ",)" else ")" : String) : Str).length ≤ 2 := by split <;> decide
  rw [Str.length_append, Str.length_append]
  cases ts with
  | nil =>
    have : (Str.join ", " ([] : List Str)).length = 0 := rfl
    omega
  | cons x r =>
    have q := join_length_add (x :: r) (by simp)
    have p := piled_le h
    omega
theorem small_tuple {k n m : Nat} {ds : List PyData} (h : ∀ d ∈ ds, Small d k n) (hm : ds.length * (n + 2) + 4 ≤ m) : Small (.tuple ds) (k + 1) m := by
  obtain ⟨h1, h2, h3⟩ := small_all h
  refine ⟨h1, h2, Nat.succ_le_succ h3, Nat.le_trans (tupleText_le (m := n) fun t ht => ?_) (by rw [shownAll_len]; exact hm)⟩
  obtain ⟨d, hd, rfl⟩ := shownAll_mem ht
  exact (h d hd).ln
theorem Small.mono {d : PyData} {k k' n n' : Nat} (h : Small d k n) (hk : k ≤ k') (hn : n ≤ n') : Small d k' n' := ⟨h.sh, h.nd, Nat.le_trans h.dp hk, Nat.le_trans h.ln hn⟩
theorem ElX.small {m : Nat} {d : PyData} (hm : m < 10 ^ 40) (h : ElX m d) : Small d 1 6100 := by
  rcases h with h | ⟨ds, e, hl, q⟩
  · exact (sc_small hm h).mono (by decide) (by decide)
  · have hs : ∀ e ∈ ds, Small e 0 1002 := fun e he => sc_small hm (q e he)
    have hb : ds.length * (1002 + 2) ≤ 6 * 1004 := Nat.mul_le_mul_right _ hl
    rcases e with ⟨rfl, _⟩ | rfl
    · exact small_list hs (by omega)
    · exact small_tuple hs (by omega)
/-- what _law_changed makes -/
def spChg (K : PySem.W.Frag) : Sp := fun vs H Q _ => ∃ (b R L : Addr) (n : Int) (rs : List V) (ds : List PyData) (zs : List Str) (m : Nat), vs = [.ref b, .ref R, .ref L] ∧ Bag H b n ∧ n < 700000 ∧ R ≠ b ∧ L ≠ b ∧ H R = some (.lst rs) ∧ DpAll K H rs ds ∧ 1 ≤ ds.length ∧ ds.length ≤ 100 ∧ (∀ d ∈ ds, BdX m d) ∧
  H L = some (.lst (zs.map V.str)) ∧ 1 ≤ zs.length ∧ zs.length ≤ 100 ∧ (∀ z ∈ zs, isNm z = true) ∧
  ∀ F fs es G, H F = none → F ≠ b → Kept b H G → Bag G b (n + 3) → G F = some (.lst fs) → DpAll K G fs es → es.length ≤ 2 * ds.length → (∀ e ∈ es, ElX (m + 10 ^ 29) e) → Q (.ref F) G
theorem sc_any {K : PySem.W.Frag} {G G' : Hp} {m : Nat} {v : V} {d : PyData} (h : ScD m d) (q : Dp K G v d) : Dp K G' v d := by
  cases q with
  | non => exact .non
  | bl b => exact .bl b
  | int i => exact .int i
  | str x => exact .str x
  | lst => exact False.elim h
  | tup => exact False.elim h
theorem sc_anys {K : PySem.W.Frag} {G G' : Hp} {m : Nat} : ∀ {vs : List V} {ds : List PyData}, (∀ e ∈ ds, ScD m e) → DpAll K G vs ds → DpAll K G' vs ds
  | _, _, _, .nil => .nil
  | _, _, h, .cons a r => .cons (sc_any (h _ List.mem_cons_self) a) (sc_anys (fun e he => h e (List.mem_cons_of_mem _ he)) r)
/-- such a thing stands while all but the bag stands -/
theorem el_kept {K : PySem.W.Frag} {G G' : Hp} {b : Addr} {n : Int} {m : Nat} {v : V} {d : PyData} (hB : Bag G b n) (k : Kept b G G') (h : ElX m d) (q : Dp K G v d) : Dp K G' v d := by
  obtain ⟨bd, bm, bc, eb, _⟩ := hB
  rcases h with h | ⟨ds, e, hl, hs⟩
  · exact sc_any h q
  · rcases e with ⟨rfl, z, r, rfl⟩ | rfl
    · cases q with
      | lst hS hA =>
        refine .lst ?_ (sc_anys hs hA)
        cases hA with
        | cons h1 _ =>
          cases h1
          have hne : ∀ {a : Addr} {u : HO}, G a = some u → (∀ xs, u = .lst (.int bd :: xs) → False) → a ≠ b := by
            rintro a u h1 h2 rfl
            rw [eb] at h1
            exact h2 _ (Option.some.inj h1).symm
          rcases hS with (h | ⟨o2, h⟩) | h
          · exact .inl (.inl (k _ _ (hne h (fun _ z => nomatch z)) h))
          · exact .inl (.inr ⟨o2, k _ _ (hne h (fun _ z => nomatch z)) h⟩)
          · exact .inr h
    · cases q with
      | tup hS hA =>
        refine .tup ?_ (sc_anys hs hA)
        have hne : ∀ {a : Addr} {u : HO}, G a = some u → (∀ xs, u ≠ .lst xs) → a ≠ b := by
          rintro a u h1 h2 rfl
          rw [eb] at h1
          exact h2 _ (Option.some.inj h1).symm
        rcases hS with (h | ⟨o2, h⟩) | h
        · exact .inl (.inl (k _ _ (hne h (fun _ z => nomatch z)) h))
        · exact .inl (.inr ⟨o2, k _ _ (hne h (fun _ z => nomatch z)) h⟩)
        · exact .inr h
theorem els_kept {K : PySem.W.Frag} {G G' : Hp} {b : Addr} {n : Int} {m : Nat} (hB : Bag G b n) (k : Kept b G G') : ∀ {vs : List V} {ds : List PyData}, (∀ e ∈ ds, ElX m e) → DpAll K G vs ds → DpAll K G' vs ds
  | _, _, _, .nil => .nil
  | _, _, h, .cons a r => .cons (el_kept hB k (h _ List.mem_cons_self) a) (els_kept hB k (fun e he => h e (List.mem_cons_of_mem _ he)) r)
theorem el_bd {m : Nat} {d : PyData} (h : ElX m d) (q : bdD d = true) : BdX m d := by
  unfold bdD at q
  cases e : bd3 d with
  | none => rw [e] at q; cases q
  | some t =>
    obtain ⟨rfl, h1, h2, _⟩ := bd3_inv e
    refine ⟨t.1, t.2.1, t.2.2, rfl, h1, h2, ?_⟩
    rcases h with h | ⟨ds, e2, _, hs⟩
    · exact False.elim h
    · rcases e2 with ⟨e2, _⟩ | e2
      · cases e2
      · cases e2
        exact hs (.int t.2.2) (by simp)
end KX

set_option Elab.async false
set_option maxRecDepth 100000
set_option maxHeartbeats 1000000
namespace K30
open PySem PySem.Spec PyProof.Rows L2 KX
abbrev sChg : Stmt := top 15
theorem sqT_off {K : PySem.W.Frag} {G : Hp} {a F : Addr} {xs ys : List V} {o : HO} (h : SqT K G a xs) (e : G F = some (.lst ys)) : SqT K (upd G F o) a xs := by
  have hne : ∀ u, G a = some u → (∀ zs, u ≠ .lst zs) → a ≠ F := by
    rintro u h1 h2 rfl
    rw [e] at h1
    exact h2 _ (Option.some.inj h1).symm
  rcases h with (h | ⟨o2, h⟩) | h
  · exact .inl (.inl ((upd_ne (hne _ h (fun _ z => nomatch z))).trans h))
  · exact .inl (.inr ⟨o2, (upd_ne (hne _ h (fun _ z => nomatch z))).trans h⟩)
  · exact .inr h
theorem sqT_kept {K : PySem.W.Frag} {G G' : Hp} {a b : Addr} {n : Int} {xs : List V} (h : SqT K G a xs) (hB : Bag G b n) (k : Kept b G G') : SqT K G' a xs := by
  obtain ⟨d, m, c, e, _⟩ := hB
  have hne : ∀ u, G a = some u → (∀ zs, u ≠ .lst zs) → a ≠ b := by
    rintro u h1 h2 rfl
    rw [e] at h1
    exact h2 _ (Option.some.inj h1).symm
  rcases h with (h | ⟨o2, h⟩) | h
  · exact .inl (.inl (k _ _ (hne _ h (fun _ z => nomatch z)) h))
  · exact .inl (.inr ⟨o2, k _ _ (hne _ h (fun _ z => nomatch z)) h⟩)
  · exact .inr h
theorem BdAt.off {K : PySem.W.Frag} {G : Hp} {x : V} {t : Bd} {F : Addr} {ys : List V} {o : HO} (h : BdAt K G x t) (e : G F = some (.lst ys)) : BdAt K (upd G F o) x t := h.imp fun a h => ⟨h.1, sqT_off h.2 e⟩
theorem BdAt.kept {K : PySem.W.Frag} {G G' : Hp} {x : V} {t : Bd} {b : Addr} {n : Int} (h : BdAt K G x t) (hB : Bag G b n) (k : Kept b G G') : BdAt K G' x t := h.imp fun a h => ⟨h.1, sqT_kept h.2 hB k⟩
theorem bat_of {K : PySem.W.Frag} {H : Hp} {m : Nat} : ∀ {rs : List V} {ds : List PyData}, DpAll K H rs ds → (∀ d ∈ ds, BdX m d) → ∃ ts : List Bd, ds = ts.map bdX ∧ Paired (BdAt K H) rs ts ∧ ∀ t ∈ ts, isNm t.1 = true ∧ isNm t.2.1 = true ∧ t.2.2.natAbs ≤ m
  | _, _, .nil, _ => ⟨[], rfl, .nil, fun _ z => nomatch z⟩
  | _, _, .cons h r, q => by
    obtain ⟨u, v, c, rfl, h1, h2, h3⟩ := q _ List.mem_cons_self
    obtain ⟨ts, rfl, hp, ht⟩ := bat_of r fun d hd => q d (List.mem_cons_of_mem _ hd)
    refine ⟨(u, v, c) :: ts, rfl, .cons (dp_tup3 h) hp, fun t hm => ?_⟩
    rcases List.mem_cons.mp hm with rfl | hm
    · exact ⟨h1, h2, h3⟩
    · exact ht t hm
theorem bat_one {K : PySem.W.Frag} {G : Hp} {x : V} {t : Bd} (h : BdAt K G x t) : Dp K G x (bdX t) := by
  obtain ⟨a, rfl, hS⟩ := h
  exact .tup hS (.cons (.str _) (.cons (.str _) (.cons (.int _) .nil)))
theorem bat_dp {K : PySem.W.Frag} {G : Hp} : ∀ {xs : List V} {ts : List Bd}, Paired (BdAt K G) xs ts → DpAll K G xs (ts.map bdX)
  | _, _, .nil => .nil
  | _, _, .cons h r => .cons (bat_one h) (bat_dp r)
theorem pair_at {α β : Type} {P : α → β → Prop} : ∀ {xs : List α} {ys : List β} {i : Nat} {x : α}, Paired P xs ys → xs[i]? = some x → ∃ y, ys[i]? = some y ∧ P x y
  | _, _, 0, _, .cons h _, e => ⟨_, rfl, by cases e; exact h⟩
  | _, _, i + 1, _, .cons _ t, e => pair_at (i := i) t e
theorem bdX_el {t : Bd} {m m' : Nat} (h : isNm t.1 = true ∧ isNm t.2.1 = true ∧ t.2.2.natAbs ≤ m) (q : m ≤ m') : ElX m' (bdX t) := BdX.el ⟨t.1, t.2.1, t.2.2, rfl, h.1, h.2.1, Nat.le_trans h.2.2 q⟩
section
variable {P : Program} {w : World} {K : PySem.W.Frag} {mg : Str → Option Value} {base : Heap}
theorem scChg : FnScope ["bag", "rows", "names", "k", "found", "bound", "change"] ["bag", "rows", "names"] (defScope sChg) := ⟨rfl, rfl, rfl, by decide +kernel, rfl, by decide +kernel, by decide +kernel⟩
theorem ok_chg {f fD fO : Addr} {fd fdD fdO : FuncData} (F : FnP K "_law_changed" sChg f fd) (GD : FnOk P w K mg base CX0 1 fD fdD ["bag", "many"] spDraw) (bD : Binds K fdD ["bag", "many"] []) (kD : PySem.W.keepIn K (.ref fD) = true) (gD : mg "_law_draw" = some (.ref fD))
    (GO : FnOk P w K mg base CX0 2 fO fdO ["bag", "some"] (spOf K)) (bO : Binds K fdO ["bag", "some"] []) (kO : PySem.W.keepIn K (.ref fO) = true) (gO : mg "_law_of" = some (.ref fO))
    (n_len : mg "len" = none) (n_list : mg "list" = none) : FnOk P w K mg base CX0 3 f fd ["bag", "rows", "names"] (spChg K) := by
  refine F.ok scChg (fun vs H Q E h => ?_) (fun cdv A outer s H vs Q E hr h => ?_)
  · obtain ⟨b, R, L, n, rs, ds, zs, m, rfl, _⟩ := h
    rfl
  · obtain ⟨b, R, L, n, rs, ds, zs, m, rfl, hB, hn, hRb, hLb, hR, hA, h1, h100, hbd, hL, z1, z100, hnm, k⟩ := h
    have nd := scChg.nd
    have hr1 := hr.mono (j := 1) (by decide)
    obtain ⟨ts, rfl, hP, hts⟩ := bat_of hA hbd
    rw [List.length_map] at h1 h100
    have hxl := pair_len hP
    refine ⟨_, PSs.nox (pss_cons (ps_par (i := 3) (j := 4) (by rfl) nd rfl rfl (by decide) rfl rfl (pa_cons (pe_call GD hr1 (by rfl) gD kD bD .nil pass0 (pa_cons (pv 0) (pa_cons (pe_callB call_len_seq (by rfl) n_len PySem.boot_len (pa_cons (pv 1) pa_nil)) pa_nil))) (pa_cons (pe_callTy call_list_of (by rfl) n_list (by decide +kernel) (pa_cons (pv 1) pa_nil)) pa_nil)) (by rfl))
(pss_cons (ps_par (i := 5) (j := 6) (by rfl) nd rfl rfl (by decide) rfl rfl (pa_cons (pe_ix ix_list (pv 4) (pv 3) (fun _ _ => rfl)) (pa_cons (pe_call GD hr1 (by rfl) gD kD bD .nil pass0 (pa_cons (pv 0) (pa_cons pe_int pa_nil))) pa_nil)) (by rfl))
(pss_cons (ps_if (pt_cmpR op_eq (pv 6) pe_int (nomark _))
(pss_one (ps_asg (pe_tup (pa_cons (pe_ix ix_tup (pv 5) pe_int (fun _ _ => rfl)) (pa_cons (pe_ix ix_tup (pv 5) pe_int (fun _ _ => rfl)) (pa_cons (pe_op op_add (pe_ix ix_tup (pv 5) pe_int (fun _ _ => rfl)) (pe_call GO hr (by rfl) gO kO bO .nil pass0 (pa_cons (pv 0) (pa_cons (pe_lst (pa_cons pe_int (pa_cons pe_int (pa_cons pe_int (pa_cons (pe_op op_pow pe_int pe_int) pa_nil))))) pa_nil)))) pa_nil)))) (pg_sub (pv 4) (pv 3) set_list)))
(pss_one (ps_if (pt_cmpR op_eq (pv 6) pe_int (nomark _))
(pss_one (ps_expr (pe_bm PySem.F.plainAttrs_list PySem.F.slot_list_append PySem.F.type_list_append mt_append (pv 4) (pa_cons (pe_bm PySem.F.plainAttrs_list PySem.F.slot_list_pop PySem.F.type_list_pop mt_popAt (pv 4) (pa_cons (pv 3) pa_nil)) pa_nil))))
(pss_one (ps_if (pt_cmpR op_eq (pv 6) pe_int (nomark _))
(pss_one (ps_asg (pe_tup (pa_cons (pe_call GO hr (by rfl) gO kO bO .nil pass0 (pa_cons (pv 0) (pa_cons (pv 2) pa_nil))) (pa_cons (pe_ix ix_tup (pv 5) pe_int (fun _ _ => rfl)) (pa_cons (pe_ix ix_tup (pv 5) pe_int (fun _ _ => rfl)) pa_nil)))) (pg_sub (pv 4) (pv 3) set_list)))
(pss_one (ps_if (pt_cmpR op_eq (pv 6) pe_int (nomark _))
(pss_one (ps_expr (pe_bm PySem.F.plainAttrs_list PySem.F.slot_list_pop PySem.F.type_list_pop mt_popAt (pv 4) (pa_cons (pv 3) pa_nil))))
(pss_one (ps_if (pt_cmpR op_eq (pv 6) pe_int (nomark _))
(pss_one (ps_set (i := 4) nd rfl (Or.inl rfl) (pe_op op_cat (pv 4) (pv 4))))
(pss_one (ps_if (pt_cmpR op_eq (pv 6) pe_int (nomark _))
(pss_one (ps_expr (pe_bm PySem.F.plainAttrs_list PySem.F.slot_list_insert PySem.F.type_list_insert mt_insert (pv 4) (pa_cons (pv 3) (pa_cons (pv 5) pa_nil)))))
(pss_one (ps_if (pt_cmpR op_eq (pv 6) pe_int (nomark _))
(pss_one (ps_asg (pe_call GO hr (by rfl) gO kO bO .nil pass0 (pa_cons (pv 0) (pa_cons (pe_lst (pa_cons (pe_callTy call_list_of (by rfl) n_list (by decide +kernel) (pa_cons (pv 5) pa_nil)) (pa_cons (pe_slice sl_tupA (pv 5) po_none (po_some pe_int)) (pa_cons (pe_op op_catT (pv 5) (pe_tup (pa_cons pe_int pa_nil))) (pa_cons pe_non (pa_cons pe_str (pa_cons (pe_tup pa_nil) (pa_cons pe_bl (pa_cons pe_int pa_nil))))))))) pa_nil))) (pg_sub (pv 4) (pv 3) set_list)))
(pss_one (ps_asg (pe_call GO hr (by rfl) gO kO bO .nil pass0 (pa_cons (pv 0) (pa_cons (pe_lst (pa_cons (pe_tup (pa_cons (pe_ix ix_tup (pv 5) pe_int (fun _ _ => rfl)) (pa_cons (pe_ix ix_tup (pv 5) pe_int (fun _ _ => rfl)) (pa_cons pe_bl pa_nil)))) (pa_cons (pe_tup (pa_cons (pe_ix ix_tup (pv 5) pe_int (fun _ _ => rfl)) (pa_cons pe_str (pa_cons (pe_ix ix_tup (pv 5) pe_int (fun _ _ => rfl)) pa_nil)))) (pa_cons (pe_tup (pa_cons (pe_ix ix_tup (pv 5) pe_int (fun _ _ => rfl)) (pa_cons pe_int (pa_cons (pe_ix ix_tup (pv 5) pe_int (fun _ _ => rfl)) pa_nil)))) pa_nil)))) pa_nil))) (pg_sub (pv 4) (pv 3) set_list))))))))))))))))
(pss_one (ps_ret (pv 4)))))), ?_⟩
    refine ⟨_, rfl, _, rfl, _, _, rfl, .inl (SqL.of hR), b, n, _, rfl, hB, by omega, by omega, by omega, fun r G1 r0 r1 k1 hB1 => ?_⟩
    have hR1 := (k1 R hRb).trans hR
    refine ⟨_, rfl, R, rs, rfl, .inl (SqL.of hR1), fun F0 nF => ⟨_, _, rfl, ?_⟩⟩
    obtain ⟨j, rfl⟩ : ∃ j : Nat, r = j := ⟨r.toNat, by omega⟩
    have hj : j < rs.length := by omega
    have hFb := hB1.ne nF
    have hFH : H F0 = none := (k1 F0 hFb).symm.trans nF
    have kF : Kept b H (upd G1 F0 (.lst rs)) := fun x o nx e => (upd_ne (ne_of_none e hFH)).trans ((k1 x nx).trans e)
    have hF2 : upd G1 F0 (.lst rs) F0 = some (.lst rs) := upd_same
    have hB2 := hB1.put (o := .lst rs) hFb
    generalize upd G1 F0 (.lst rs) = G2 at kF hF2 hB2
    have hx : rs[j]? = some rs[j] := List.getElem?_eq_getElem hj
    -- bound, change
    refine ⟨_, rfl, _, rfl, F0, _, _, _, rfl, rfl, SqL.of hF2, atI_nat hx, _, rfl, b, _, 8, rfl, hB2, by omega, by decide, by decide, fun ch G3 c0 c1 k3 hB3 => ⟨_, _, rfl, ?_⟩⟩
    have hF3 := (k3 F0 hFb).trans hF2
    have kF3 : Kept b H G3 := fun x o nx e => (k3 x nx).trans (kF x o nx e)
    have hP3 : Paired (BdAt K G3) rs ts := pair_imp (fun x y h => BdAt.kept h hB kF3) hP
    obtain ⟨t0, ht0, hb0⟩ := pair_at hP3 hx
    obtain ⟨a0, ha0, hS0⟩ := hb0
    have ht0m := hts t0 (List.mem_of_getElem? ht0)
    rw [ha0]
    have hFA : a0 ≠ F0 ∨ True := .inr trivial
    -- the end
    have fin : ∀ (F' : Addr) (fs : List V) (es : List PyData) (G' : Hp), H F' = none → F' ≠ b → Kept b H G' → Bag G' b (n + 3) → G' F' = some (.lst fs) → DpAll K G' fs es → es.length ≤ 2 * ts.length → (∀ e ∈ es, ElX (m + 10 ^ 29) e) → Q (.ref F') G' := by
      intro F' fs es G' q1 q2 q3 q4 q5 q6 q7 q8
      exact k F' fs es G' q1 q2 q3 q4 q5 q6 (by rw [List.length_map]; exact q7) q8
    have hel : ∀ e ∈ ts.map bdX, ElX (m + 10 ^ 29) e := fun e he => by
      obtain ⟨t, ht, rfl⟩ := List.mem_map.mp he
      exact bdX_el (hts t ht) (by omega)
    -- found changed at j: by an element that stands whatever F0 holds
    have put1 : ∀ (G : Hp) (v : V) (d : PyData), Kept b G3 G → Bag G b (n + 3) → Dp K (upd G F0 (.lst (rs.set j v))) v d → ElX (m + 10 ^ 29) d → Q (.ref F0) (upd G F0 (.lst (rs.set j v))) := by
      intro G v d q1 q2 q3 q4
      have hFG := q1 F0 _ hFb hF3
      have hPG : Paired (BdAt K (upd G F0 (.lst (rs.set j v)))) rs ts := pair_imp (fun x y h => BdAt.off (BdAt.kept h hB3 q1) hFG) hP3
      refine fin F0 _ ((ts.map bdX).set j d) _ hFH hFb (fun x o nx e => (upd_ne (ne_of_none e hFH)).trans (q1 x o nx (kF3 x o nx e))) (q2.put hFb) upd_same (dpall_set q3 j (bat_dp hPG)) (by rw [List.length_set, List.length_map]; omega) fun e he => ?_
      rcases List.mem_or_eq_of_mem_set he with he | rfl
      · exact hel e he
      · exact q4
    refine ⟨_, rfl, rfl, _, rfl, ite2' (fun c => ?_) (fun c => ?_)⟩
    · -- 0
      refine ⟨_, rfl, a0, _, _, _, rfl, rfl, hS0, rfl, _, rfl, a0, _, _, _, rfl, rfl, hS0, rfl, _, rfl, a0, _, _, _, rfl, rfl, hS0, rfl, _, rfl, _, _, rfl, rfl, ⟨by decide, by decide, by decide⟩, (by show 4 ≤ sizeLine; decide), fun L2 nL2 => ?_⟩
      have hL2b := hB3.ne nL2
      refine ⟨b, L2, _, _, rfl, hB3.put hL2b, by omega, hL2b, SqL.of upd_same, (by show 0 < 4; decide), (by show 4 ≤ 1000; decide), fun q v G4 hv k4 hB4 => ?_⟩
      have kk : Kept b G3 G4 := fun x o nx e => (k4 x nx).trans (same_put nL2 _ _ e)
      obtain ⟨y, rfl, hy⟩ : ∃ y : Int, v = .int y ∧ y.natAbs ≤ 10 ^ 29 := by
        match q, hv with
        | 0, e => exact ⟨1, (Option.some.inj e).symm, by decide⟩
        | 1, e => exact ⟨2, (Option.some.inj e).symm, by decide⟩
        | 2, e => exact ⟨5, (Option.some.inj e).symm, by decide⟩
        | 3, e => exact ⟨10 ^ 29, (Option.some.inj e).symm, by decide⟩
      refine ⟨_, _, rfl, rfl, (by show 3 ≤ sizeLine; decide), fun T nT => ?_⟩
      have hTF : T ≠ F0 := (ne_of_none (kk F0 _ hFb hF3) nT).symm
      refine ⟨_, rfl, _, rfl, F0, rs, _, j, rfl, rfl, same_put nT _ _ (kk F0 _ hFb hF3), ixN_nat hj, _, rfl, ?_⟩
      refine put1 _ _ (bdX (t0.1, t0.2.1, t0.2.2 + y)) (fun x o nx e => same_put nT _ _ (kk x o nx e)) ((hB4.put (hB4.ne nT)).mono (by omega)) (bat_one ⟨T, rfl, SqT.of ((upd_ne hTF).trans upd_same)⟩) (bdX_el (m := m + 10 ^ 29) ⟨ht0m.1, ht0m.2.1, ?_⟩ (Nat.le_refl _))
      have := ht0m.2.2
      show (t0.2.2 + y).natAbs ≤ m + 10 ^ 29
      omega
    refine ⟨_, rfl, rfl, _, rfl, ite2' (fun c => ?_) (fun c => ?_)⟩
    · -- 1
      refine ⟨_, rfl, .inl ⟨rfl, _, SqL.of hF3⟩, _, rfl, .inl ⟨rfl, _, SqL.of hF3⟩, _, rfl, F0, rs, _, j, _, rfl, rfl, hF3, by omega, by omega, (ixN_seq (ixN_nat hj)).1, hx, ?_⟩
      have hle := List.length_eraseIdx_le rs j
      refine ⟨F0, rs.eraseIdx j, _, rfl, rfl, upd_same, (by rw [sizeLine_eq]; omega), _, rfl, ?_⟩
      have hPG : Paired (BdAt K (upd (upd G3 F0 (.lst (rs.eraseIdx j))) F0 (.lst (rs.eraseIdx j ++ [rs[j]])))) rs ts := pair_imp (fun x y h => BdAt.off (BdAt.off h hF3) upd_same) hP3
      obtain ⟨t1, ht1, hb1⟩ := pair_at hPG hx
      have hle2 := List.length_eraseIdx_le (ts.map bdX) j
      rw [List.length_map] at hle2
      refine fin F0 _ ((ts.map bdX).eraseIdx j ++ [bdX t1]) _ hFH hFb (fun x o nx e => (upd_ne (ne_of_none e hFH)).trans ((upd_ne (ne_of_none e hFH)).trans (kF3 x o nx e))) (((hB3.put hFb).put hFb).mono (by omega)) upd_same (dpall_snoc (bat_one hb1) (dpall_erase j (bat_dp hPG))) (by rw [List.length_append]; show _ + 1 ≤ _; omega) fun e he => ?_
      rcases List.mem_append.mp he with he | he
      · exact hel e (List.mem_of_mem_eraseIdx he)
      · rw [List.mem_singleton.mp he]
        exact bdX_el (hts t1 (List.mem_of_getElem? ht1)) (by omega)
    refine ⟨_, rfl, rfl, _, rfl, ite2' (fun c => ?_) (fun c => ?_)⟩
    · -- 2
      have hL3 := kF3 L _ hLb hL
      refine ⟨_, rfl, _, rfl, b, L, _, _, rfl, hB3, by omega, hLb, SqL.of hL3, by rw [List.length_map]; omega, by rw [List.length_map]; omega, fun q v G4 hv k4 hB4 => ?_⟩
      obtain ⟨z, hz, rfl⟩ := Option.map_eq_some_iff.mp ((List.getElem?_map ..).symm.trans hv)
      have hS4 := sqT_kept hS0 hB3 k4.kept
      refine ⟨_, rfl, a0, _, _, _, rfl, rfl, hS4, rfl, _, rfl, a0, _, _, _, rfl, rfl, hS4, rfl, (by show 3 ≤ sizeLine; decide), fun T nT => ?_⟩
      have hF4 := k4.kept F0 _ hFb hF3
      have hTF : T ≠ F0 := (ne_of_none hF4 nT).symm
      refine ⟨_, rfl, _, rfl, F0, rs, _, j, rfl, rfl, same_put nT _ _ hF4, ixN_nat hj, _, rfl, ?_⟩
      exact put1 _ _ (bdX (z, t0.2.1, t0.2.2)) (fun x o nx e => same_put nT _ _ (k4.kept x o nx e)) ((hB4.put (hB4.ne nT)).mono (by omega)) (bat_one ⟨T, rfl, SqT.of ((upd_ne hTF).trans upd_same)⟩) (bdX_el (m := m) ⟨hnm z (List.mem_of_getElem? hz), ht0m.2⟩ (by omega))
    refine ⟨_, rfl, rfl, _, rfl, ite2' (fun c => ?_) (fun c => ?_)⟩
    · -- 3
      refine ⟨_, rfl, .inl ⟨rfl, _, SqL.of hF3⟩, _, rfl, F0, rs, _, j, _, rfl, rfl, hF3, by omega, by omega, (ixN_seq (ixN_nat hj)).1, hx, _, rfl, ?_⟩
      have hPG : Paired (BdAt K (upd G3 F0 (.lst (rs.eraseIdx j)))) rs ts := pair_imp (fun x y h => BdAt.off h hF3) hP3
      have hle2 := List.length_eraseIdx_le (ts.map bdX) j
      rw [List.length_map] at hle2
      exact fin F0 _ ((ts.map bdX).eraseIdx j) _ hFH hFb (fun x o nx e => (upd_ne (ne_of_none e hFH)).trans (kF3 x o nx e)) ((hB3.put hFb).mono (by omega)) upd_same (dpall_erase j (bat_dp hPG)) (by omega) fun e he => hel e (List.mem_of_mem_eraseIdx he)
    refine ⟨_, rfl, rfl, _, rfl, ite2' (fun c => ?_) (fun c => ?_)⟩
    · -- 4
      refine ⟨_, rfl, _, rfl, F0, F0, rs, rs, rfl, rfl, hF3, hF3, (by rw [sizeLine_eq]; omega), fun p np => ⟨_, rfl, ?_⟩⟩
      have hpb := hB3.ne np
      have hpH : H p = none := by
        cases e : H p with
        | none => rfl
        | some o => exact absurd (kF3 p o hpb e) (by rw [np]; exact nofun)
      have s5 := same_put (o := .lst (rs ++ rs)) np
      have hPG : Paired (BdAt K (upd G3 p (.lst (rs ++ rs)))) rs ts := pair_imp (fun x y h => KX.BdAt.same s5 h) hP3
      refine fin p (rs ++ rs) (ts.map bdX ++ ts.map bdX) _ hpH hpb (fun x o nx e => s5 _ _ (kF3 x o nx e)) ((hB3.put hpb).mono (by omega)) upd_same (dpall_app (bat_dp hPG) (bat_dp hPG)) (by rw [List.length_append, List.length_map]; omega) fun e he => ?_
      rcases List.mem_append.mp he with he | he <;> exact hel e he
    refine ⟨_, rfl, rfl, _, rfl, ite2' (fun c => ?_) (fun c => ?_)⟩
    · -- 5
      refine ⟨_, rfl, .inl ⟨rfl, _, SqL.of hF3⟩, _, rfl, _, rfl, F0, rs, _, _, rfl, rfl, hF3, (by rw [sizeLine_eq]; omega), by omega, by omega, _, rfl, ?_⟩
      rw [Int.toNat_natCast]
      have hPG : Paired (BdAt K (upd G3 F0 (.lst (rs.take j ++ [V.ref a0] ++ rs.drop j)))) rs ts := pair_imp (fun x y h => BdAt.off h hF3) hP3
      have hb1 : BdAt K (upd G3 F0 (.lst (rs.take j ++ [V.ref a0] ++ rs.drop j))) (.ref a0) t0 := BdAt.off ⟨a0, rfl, hS0⟩ hF3
      have e1 : ((ts.map bdX).take j).length + ((ts.map bdX).drop j).length = ts.length := by rw [← List.length_append, List.take_append_drop, List.length_map]
      refine fin F0 _ ((ts.map bdX).take j ++ [bdX t0] ++ (ts.map bdX).drop j) _ hFH hFb (fun x o nx e => (upd_ne (ne_of_none e hFH)).trans (kF3 x o nx e)) ((hB3.put hFb).mono (by omega)) upd_same (dpall_app (dpall_drop j (bat_dp hPG)) (dpall_snoc (bat_one hb1) (dpall_take j (bat_dp hPG)))) (by rw [List.length_append, List.length_append]; show _ + 1 + _ ≤ _; omega) fun e he => ?_
      rcases List.mem_append.mp he with he | he
      · rcases List.mem_append.mp he with he | he
        · exact hel e (List.mem_of_mem_take he)
        · rw [List.mem_singleton.mp he]
          exact bdX_el ht0m (by omega)
      · exact hel e (List.mem_of_mem_drop he)
    refine ⟨_, rfl, rfl, _, rfl, ite2' (fun c => ?_) (fun c => ?_)⟩
    · -- 6
      refine ⟨_, rfl, _, rfl, a0, _, rfl, .inr hS0, fun A1 nA1 => ?_⟩
      have s1 := same_put (o := .lst [.str t0.1, .str t0.2.1, .int t0.2.2]) nA1
      have f1 : upd G3 A1 (.lst [.str t0.1, .str t0.2.1, .int t0.2.2]) A1 = some (.lst [.str t0.1, .str t0.2.1, .int t0.2.2]) := upd_same
      have n1F : A1 ≠ F0 := (ne_of_none hF3 nA1).symm
      have n1b := hB3.ne nA1
      have b1 := hB3.put (o := .lst [.str t0.1, .str t0.2.1, .int t0.2.2]) n1b
      generalize upd G3 A1 (.lst [.str t0.1, .str t0.2.1, .int t0.2.2]) = J1 at s1 f1 b1
      refine ⟨_, rfl, _, rfl, a0, _, rfl, sqT_same s1 hS0, (fun z => absurd (show (2 : Nat) = 3 from z.2) (by decide)), fun _ A2 nA2 => ?_⟩
      have s2 := s1.trans (same_put (o := .tup [.str t0.1, .str t0.2.1]) nA2)
      have f1 := same_put (o := .tup [.str t0.1, .str t0.2.1]) nA2 _ _ f1
      have f2 : upd J1 A2 (.tup [.str t0.1, .str t0.2.1]) A2 = some (.tup [.str t0.1, .str t0.2.1]) := upd_same
      have n2F : A2 ≠ F0 := (ne_of_none (s1 _ _ hF3) nA2).symm
      have n2b := b1.ne nA2
      have b2 := b1.put (o := .tup [.str t0.1, .str t0.2.1]) n2b
      show tOp _ _ _ _ (upd J1 A2 (.tup [.str t0.1, .str t0.2.1])) _
      generalize upd J1 A2 (.tup [.str t0.1, .str t0.2.1]) = J2 at s2 f1 f2 b2
      refine ⟨_, rfl, (by show 1 ≤ sizeLine; decide), fun A0 nA0 => ?_⟩
      have s3 := s2.trans (same_put (o := .tup [.int 0]) nA0)
      have f1 := same_put (o := .tup [.int 0]) nA0 _ _ f1
      have f2 := same_put (o := .tup [.int 0]) nA0 _ _ f2
      have f0 : upd J2 A0 (.tup [.int 0]) A0 = some (.tup [.int 0]) := upd_same
      have b3 := b2.put (o := .tup [.int 0]) (b2.ne nA0)
      generalize upd J2 A0 (.tup [.int 0]) = J3 at s3 f1 f2 f0 b3
      refine ⟨a0, A0, _, _, rfl, rfl, sqT_same s3 hS0, SqT.of f0, (fun z => nomatch z), (by show 4 ≤ sizeLine; decide), (fun z => nomatch z), fun _ A3 nA3 => ?_⟩
      have s4 := s3.trans (same_put (o := .tup [.str t0.1, .str t0.2.1, .int t0.2.2, .int 0]) nA3)
      have f1 := same_put (o := .tup [.str t0.1, .str t0.2.1, .int t0.2.2, .int 0]) nA3 _ _ f1
      have f2 := same_put (o := .tup [.str t0.1, .str t0.2.1, .int t0.2.2, .int 0]) nA3 _ _ f2
      have f3 : upd J3 A3 (.tup [.str t0.1, .str t0.2.1, .int t0.2.2, .int 0]) A3 = some (.tup [.str t0.1, .str t0.2.1, .int t0.2.2, .int 0]) := upd_same
      have n3F : A3 ≠ F0 := (ne_of_none (s3 _ _ hF3) nA3).symm
      have n3b := b3.ne nA3
      have b4 := b3.put (o := .tup [.str t0.1, .str t0.2.1, .int t0.2.2, .int 0]) n3b
      show (_ ∧ _)
      dsimp only [List.cons_append, List.nil_append]
      generalize upd J3 A3 (.tup [.str t0.1, .str t0.2.1, .int t0.2.2, .int 0]) = J4 at s4 f1 f2 f3 b4
      refine ⟨(by show 0 ≤ sizeLine; decide), fun A4 nA4 => ?_⟩
      have s5 := s4.trans (same_put (o := .tup []) nA4)
      have f1 := same_put (o := .tup []) nA4 _ _ f1
      have f2 := same_put (o := .tup []) nA4 _ _ f2
      have f3 := same_put (o := .tup []) nA4 _ _ f3
      have f4 : upd J4 A4 (.tup []) A4 = some (.tup []) := upd_same
      have n4F : A4 ≠ F0 := (ne_of_none (s4 _ _ hF3) nA4).symm
      have n4b := b4.ne nA4
      have b5 := b4.put (o := .tup []) n4b
      generalize upd J4 A4 (.tup []) = J5 at s5 f1 f2 f3 f4 b5
      refine ⟨(by show 8 ≤ sizeLine; decide), fun L2 nL2 => ?_⟩
      have hL2b := b5.ne nL2
      refine ⟨b, L2, _, _, rfl, b5.put hL2b, by omega, hL2b, SqL.of upd_same, (by show 0 < 8; decide), (by show 8 ≤ 1000; decide), fun q v G4 hv k4 hB4 => ?_⟩
      have k5 : Kept b J5 G4 := fun x o nx e => (k4 x nx).trans (same_put nL2 _ _ e)
      have kk : Kept b G3 G4 := fun x o nx e => k5 x o nx (s5 _ _ e)
      refine ⟨_, rfl, _, rfl, F0, rs, _, j, rfl, rfl, kk F0 _ hFb hF3, ixN_nat hj, _, rfl, ?_⟩
      have hBf := hB4.mono (n' := n + 3) (by omega)
      have hu := (nm_sc (m := m + 10 ^ 29) ht0m.1)
      have hv2 := (nm_sc (m := m + 10 ^ 29) ht0m.2.1)
      have hc2 : ScD (m + 10 ^ 29) (.int t0.2.2) := Nat.le_trans ht0m.2.2 (by omega)
      match q, hv with
      | 0, e =>
        cases e
        refine put1 G4 _ (.list [.str t0.1, .str t0.2.1, .int t0.2.2]) kk hBf (.lst (SqL.of ((upd_ne n1F).trans (k5 A1 _ n1b f1))) (.cons (.str _) (.cons (.str _) (.cons (.int _) .nil)))) (.inr ⟨_, .inl ⟨rfl, _, _, rfl⟩, by show 3 ≤ 6; decide, fun e he => ?_⟩)
        rcases List.mem_cons.mp he with rfl | he
        · exact hu
        rcases List.mem_cons.mp he with rfl | he
        · exact hv2
        rw [List.mem_singleton.mp he]
        exact hc2
      | 1, e =>
        cases e
        refine put1 G4 _ (.tuple [.str t0.1, .str t0.2.1]) kk hBf (.tup (SqT.of ((upd_ne n2F).trans (k5 A2 _ n2b f2))) (.cons (.str _) (.cons (.str _) .nil))) (.inr ⟨_, .inr rfl, by show 2 ≤ 6; decide, fun e he => ?_⟩)
        rcases List.mem_cons.mp he with rfl | he
        · exact hu
        rw [List.mem_singleton.mp he]
        exact hv2
      | 2, e =>
        cases e
        refine put1 G4 _ (.tuple [.str t0.1, .str t0.2.1, .int t0.2.2, .int 0]) kk hBf (.tup (SqT.of ((upd_ne n3F).trans (k5 A3 _ n3b f3))) (.cons (.str _) (.cons (.str _) (.cons (.int _) (.cons (.int _) .nil))))) (.inr ⟨_, .inr rfl, by show 4 ≤ 6; decide, fun e he => ?_⟩)
        rcases List.mem_cons.mp he with rfl | he
        · exact hu
        rcases List.mem_cons.mp he with rfl | he
        · exact hv2
        rcases List.mem_cons.mp he with rfl | he
        · exact hc2
        rw [List.mem_singleton.mp he]
        exact Nat.zero_le _
      | 3, e =>
        cases e
        exact put1 G4 _ .none kk hBf .non (.inl trivial)
      | 4, e =>
        cases e
        exact put1 G4 _ (.str "zero") kk hBf (.str _) (.inl (nm_sc zero_nm))
      | 5, e =>
        cases e
        exact put1 G4 _ (.tuple []) kk hBf (.tup (SqT.of ((upd_ne n4F).trans (k5 A4 _ n4b f4))) .nil) (.inr ⟨_, .inr rfl, by show 0 ≤ 6; decide, fun e he => nomatch he⟩)
      | 6, e =>
        cases e
        exact put1 G4 _ (.bool true) kk hBf (.bl _) (.inl trivial)
      | 7, e =>
        cases e
        exact put1 G4 _ (.int 3) kk hBf (.int _) (.inl (by show 3 ≤ _; omega))
    · -- 7
      refine ⟨_, rfl, _, rfl, a0, _, _, _, rfl, rfl, hS0, rfl, _, rfl, a0, _, _, _, rfl, rfl, hS0, rfl, (by show 3 ≤ sizeLine; decide), fun A1 nA1 => ?_⟩
      have s1 := same_put (o := .tup [.str t0.1, .str t0.2.1, .bl true]) nA1
      have f1 : upd G3 A1 (.tup [.str t0.1, .str t0.2.1, .bl true]) A1 = some (.tup [.str t0.1, .str t0.2.1, .bl true]) := upd_same
      have n1F : A1 ≠ F0 := (ne_of_none hF3 nA1).symm
      have n1b := hB3.ne nA1
      have b1 := hB3.put (o := .tup [.str t0.1, .str t0.2.1, .bl true]) n1b
      generalize upd G3 A1 (.tup [.str t0.1, .str t0.2.1, .bl true]) = J1 at s1 f1 b1
      have hS1 := sqT_same s1 hS0
      refine ⟨_, rfl, a0, _, _, _, rfl, rfl, hS1, rfl, _, rfl, a0, _, _, _, rfl, rfl, hS1, rfl, (by show 3 ≤ sizeLine; decide), fun A2 nA2 => ?_⟩
      have s2 := s1.trans (same_put (o := .tup [.str t0.1, .str "Zero", .int t0.2.2]) nA2)
      have f1 := same_put (o := .tup [.str t0.1, .str "Zero", .int t0.2.2]) nA2 _ _ f1
      have f2 : upd J1 A2 (.tup [.str t0.1, .str "Zero", .int t0.2.2]) A2 = some (.tup [.str t0.1, .str "Zero", .int t0.2.2]) := upd_same
      have n2F : A2 ≠ F0 := (ne_of_none (s1 _ _ hF3) nA2).symm
      have n2b := b1.ne nA2
      have b2 := b1.put (o := .tup [.str t0.1, .str "Zero", .int t0.2.2]) n2b
      generalize upd J1 A2 (.tup [.str t0.1, .str "Zero", .int t0.2.2]) = J2 at s2 f1 f2 b2
      have hS2 := sqT_same s2 hS0
      refine ⟨_, rfl, a0, _, _, _, rfl, rfl, hS2, rfl, _, rfl, a0, _, _, _, rfl, rfl, hS2, rfl, (by show 3 ≤ sizeLine; decide), fun A3 nA3 => ?_⟩
      have s3 := s2.trans (same_put (o := .tup [.str t0.1, .int 1, .int t0.2.2]) nA3)
      have f1 := same_put (o := .tup [.str t0.1, .int 1, .int t0.2.2]) nA3 _ _ f1
      have f2 := same_put (o := .tup [.str t0.1, .int 1, .int t0.2.2]) nA3 _ _ f2
      have f3 : upd J2 A3 (.tup [.str t0.1, .int 1, .int t0.2.2]) A3 = some (.tup [.str t0.1, .int 1, .int t0.2.2]) := upd_same
      have n3F : A3 ≠ F0 := (ne_of_none (s2 _ _ hF3) nA3).symm
      have n3b := b2.ne nA3
      have b3 := b2.put (o := .tup [.str t0.1, .int 1, .int t0.2.2]) n3b
      generalize upd J2 A3 (.tup [.str t0.1, .int 1, .int t0.2.2]) = J3 at s3 f1 f2 f3 b3
      refine ⟨(by show 3 ≤ sizeLine; decide), fun L2 nL2 => ?_⟩
      have hL2b := b3.ne nL2
      refine ⟨b, L2, _, _, rfl, b3.put hL2b, by omega, hL2b, SqL.of upd_same, (by show 0 < 3; decide), (by show 3 ≤ 1000; decide), fun q v G4 hv k4 hB4 => ?_⟩
      have k5 : Kept b J3 G4 := fun x o nx e => (k4 x nx).trans (same_put nL2 _ _ e)
      have kk : Kept b G3 G4 := fun x o nx e => k5 x o nx (s3 _ _ e)
      refine ⟨_, rfl, _, rfl, F0, rs, _, j, rfl, rfl, kk F0 _ hFb hF3, ixN_nat hj, _, rfl, ?_⟩
      have hBf := hB4.mono (n' := n + 3) (by omega)
      have hu := (nm_sc (m := m + 10 ^ 29) ht0m.1)
      have hv2 := (nm_sc (m := m + 10 ^ 29) ht0m.2.1)
      have hc2 : ScD (m + 10 ^ 29) (.int t0.2.2) := Nat.le_trans ht0m.2.2 (by omega)
      match q, hv with
      | 0, e =>
        cases e
        refine put1 G4 _ (.tuple [.str t0.1, .str t0.2.1, .bool true]) kk hBf (.tup (SqT.of ((upd_ne n1F).trans (k5 A1 _ n1b f1))) (.cons (.str _) (.cons (.str _) (.cons (.bl _) .nil)))) (.inr ⟨_, .inr rfl, by show 3 ≤ 6; decide, fun e he => ?_⟩)
        rcases List.mem_cons.mp he with rfl | he
        · exact hu
        rcases List.mem_cons.mp he with rfl | he
        · exact hv2
        rw [List.mem_singleton.mp he]
        exact trivial
      | 1, e =>
        cases e
        refine put1 G4 _ (.tuple [.str t0.1, .str "Zero", .int t0.2.2]) kk hBf (.tup (SqT.of ((upd_ne n2F).trans (k5 A2 _ n2b f2))) (.cons (.str _) (.cons (.str _) (.cons (.int _) .nil)))) (.inr ⟨_, .inr rfl, by show 3 ≤ 6; decide, fun e he => ?_⟩)
        rcases List.mem_cons.mp he with rfl | he
        · exact hu
        rcases List.mem_cons.mp he with rfl | he
        · refine ⟨by decide, ?_⟩
          decide +kernel
        rw [List.mem_singleton.mp he]
        exact hc2
      | 2, e =>
        cases e
        refine put1 G4 _ (.tuple [.str t0.1, .int 1, .int t0.2.2]) kk hBf (.tup (SqT.of ((upd_ne n3F).trans (k5 A3 _ n3b f3))) (.cons (.str _) (.cons (.int _) (.cons (.int _) .nil)))) (.inr ⟨_, .inr rfl, by show 3 ≤ 6; decide, fun e he => ?_⟩)
        rcases List.mem_cons.mp he with rfl | he
        · exact hu
        rcases List.mem_cons.mp he with rfl | he
        · show 1 ≤ _
          omega
        rw [List.mem_singleton.mp he]
        exact hc2
end
end K30

set_option Elab.async false
set_option maxRecDepth 100000
set_option maxHeartbeats 2000000
namespace K30
open PySem PySem.Spec PyProof.Rows L2 KX
def spLaw (K : PySem.W.Frag) : Sp := fun vs H Q _ => ∃ (a : Addr) (ns : List Int), vs = [.ref a] ∧ SqL K H a (ns.map V.int) ∧ ns.length ≤ 63 ∧ ∀ H', Q (.bl true) H'
/-- the rows of a turn -/
structure Rw (K : PySem.W.Frag) (b R F : Addr) (H G : Hp) (rs : List V) (ds : List PyData) (zs : List Str) (n : Int) (m l : Nat) : Prop where
  same : Same H G
  bag : Bag G b n
  ne : R ≠ b
  fb : F ≠ b
  rows : G R = some (.lst rs)
  nms : G F = some (.lst (zs.map V.str))
  dp : DpAll K G rs ds
  el : ∀ e ∈ ds, ElX m e
  len : ds.length ≤ l
theorem Rw.to {K : PySem.W.Frag} {b R F : Addr} {H G G' : Hp} {rs : List V} {ds : List PyData} {zs : List Str} {n n' : Int} {m l : Nat} (h : Rw K b R F H G rs ds zs n m l) (hb : H b = none) (k : Kept b G G') (hB : Bag G' b n') : Rw K b R F H G' rs ds zs n' m l :=
  ⟨fun x o e => k x o (ne_of_none e hb) (h.same _ _ e), hB, h.ne, h.fb, k _ _ h.ne h.rows, k _ _ h.fb h.nms, els_kept h.bag k h.el h.dp, h.el, h.len⟩
theorem Rw.more {K : PySem.W.Frag} {b R F : Addr} {H G : Hp} {rs : List V} {ds : List PyData} {zs : List Str} {n n' : Int} {m m' l l' : Nat} (h : Rw K b R F H G rs ds zs n m l) (h1 : n ≤ n') (h2 : m ≤ m') (h3 : l ≤ l') : Rw K b R F H G rs ds zs n' m' l' :=
  ⟨h.same, h.bag.mono h1, h.ne, h.fb, h.rows, h.nms, h.dp, fun e he => (h.el e he).mono h2, Nat.le_trans h.len h3⟩
theorem Rw.grow {K : PySem.W.Frag} {b R F : Addr} {H G G' : Hp} {rs : List V} {ds : List PyData} {zs : List Str} {n : Int} {m l : Nat} (h : Rw K b R F H G rs ds zs n m l) (hb : H b = none) (s : Same G G') : Rw K b R F H G' rs ds zs n m l := by
  obtain ⟨d, k, c, e, r⟩ := h.bag
  exact h.to hb (fun x o _ e => s x o e) ⟨d, k, c, s _ _ e, r⟩
theorem odd_none : rgD .none = false := rfl
theorem ok_sc {d : PyData} (h : ∀ ds, d ≠ .list ds ∧ d ≠ .tuple ds) : okRing d := fun ds e => e.elim (fun e => absurd e (h ds).1) fun e => absurd e (h ds).2
theorem rgD_one (d : PyData) (h : bdD d = false) : rgD (.list [d]) = false := by
  show (([d].all bdD) && _) = false
  rw [List.all_cons, h]
  rfl
section
variable {P : Program} {w : World} {K : PySem.W.Frag} {mg : Str → Option Value} {base : Heap}
theorem scLaw : FnScope ["script", "at", "bag", "names", "rows", "turn", "held", "told", "odd", "row", "u", "v", "c", "here", "there", "other", "one"] ["script"] (defScope sLaw) := ⟨rfl, rfl, rfl, by decide +kernel, rfl, by decide +kernel, by decide +kernel⟩
theorem ok_law {f fB fD fO fN fR fC fIr fIb fRg fOp : Addr} {fd fdB fdD fdO fdN fdR fdC fdIr fdIb fdRg fdOp : FuncData} (F : FnP K "law" sLaw f fd)
    (GB : FnOk P w K mg base CX0 1 fB fdB ["script", "at"] (spBag K)) (bB : Binds K fdB ["script", "at"] []) (kB : PySem.W.keepIn K (.ref fB) = true) (gB : mg "_law_bag" = some (.ref fB))
    (GD : FnOk P w K mg base CX0 1 fD fdD ["bag", "many"] spDraw) (bD : Binds K fdD ["bag", "many"] []) (kD : PySem.W.keepIn K (.ref fD) = true) (gD : mg "_law_draw" = some (.ref fD))
    (GO : FnOk P w K mg base CX0 2 fO fdO ["bag", "some"] (spOf K)) (bO : Binds K fdO ["bag", "some"] []) (kO : PySem.W.keepIn K (.ref fO) = true) (gO : mg "_law_of" = some (.ref fO))
    (GN : FnOk P w K mg base CX0 4 fN fdN ["bag", "many"] spLNums) (bN : Binds K fdN ["bag", "many"] []) (kN : PySem.W.keepIn K (.ref fN) = true) (gN : mg "_law_numbers" = some (.ref fN))
    (GR : FnOk P w K mg base CX0 3 fR fdR ["bag", "names"] (spRnd K)) (bR : Binds K fdR ["bag", "names"] []) (kR : PySem.W.keepIn K (.ref fR) = true) (gR : mg "_law_round" = some (.ref fR))
    (GC : FnOk P w K mg base CX0 3 fC fdC ["bag", "rows", "names"] (spChg K)) (bC : Binds K fdC ["bag", "rows", "names"] []) (kC : PySem.W.keepIn K (.ref fC) = true) (gC : mg "_law_changed" = some (.ref fC))
    (GIr : FnOk P w K mg base CX0 3 fIr fdIr ["rows"] (spRound K)) (bIr : Binds K fdIr ["rows"] []) (kIr : PySem.W.keepIn K (.ref fIr) = true) (gIr : mg "_law_is_round" = some (.ref fIr))
    (GIb : FnOk P w K mg base CX0 2 fIb fdIb ["thing"] (spBound K)) (bIb : Binds K fdIb ["thing"] []) (kIb : PySem.W.keepIn K (.ref fIb) = true) (gIb : mg "_law_is_bound" = some (.ref fIb))
    (GRg : FnOk P w K mg base CX0 3 fRg fdRg ["thing"] (spRing K)) (bRg : Binds K fdRg ["thing"] []) (kRg : PySem.W.keepIn K (.ref fRg) = true) (gRg : mg "is_ring" = some (.ref fRg))
    (GOp : FnOk P w K mg base CX0 1 fOp fdOp ["bound"] (spOpp K)) (bOp : Binds K fdOp ["bound"] []) (kOp : PySem.W.keepIn K (.ref fOp) = true) (gOp : mg "opposite" = some (.ref fOp))
    (n_max : mg "max" = none) (n_min : mg "min" = none) (n_len : mg "len" = none) (n_range : mg "range" = none) (n_repr : mg "repr" = none) (n_tuple : mg "tuple" = none) (n_all : mg "all" = none) (n_isinstance : mg "isinstance" = none) (n_bool : mg "bool" = none) : FnG P w K mg base CX0 5 f fd ["script"] (spLaw K) := by
  refine fnG_ok F scLaw (fun vs H Q E h => ?_) (fun cdv A outer s H vs Q E gg hr h => ?_)
  · obtain ⟨a, ns, rfl, _⟩ := h
    rfl
  · obtain ⟨a, ns, rfl, hS, hl, k⟩ := h
    have hr1 := hr.mono (j := 1) (by decide)
    have hr2 := hr.mono (j := 2) (by decide)
    have hr3 := hr.mono (j := 3) (by decide)
    have hu := hr.units
    have nd := scLaw.nd
    refine ⟨_, PSs.nox (pss_cons (ps_for PassesOwn.never rfl (pi_range1 (by rfl) n_range (pa_cons (pe_callB (call_max2 rfl) (by rfl) n_max (by decide +kernel) (pa_cons pe_int (pa_cons (pe_callB (call_min2 rfl) (by rfl) n_min (by decide +kernel) (pa_cons pe_int (pa_cons (pe_callB call_len_seq (by rfl) n_len PySem.boot_len (pa_cons (pv 0) pa_nil)) pa_nil))) pa_nil))) pa_nil)) (pg_name (i := 1) nd rfl (Or.inl rfl))
(pss_cons (ps_set (i := 2) nd rfl (Or.inl rfl) (pe_call GB hr1 (by rfl) gB kB bB .nil pass0 (pa_cons (pv 0) (pa_cons (pv 1) pa_nil))))
(pss_cons (ps_set (i := 3) nd rfl (Or.inl rfl) (pe_call GN hr (by rfl) gN kN bN .nil pass0 (pa_cons (pv 2) (pa_cons pe_int pa_nil))))
(pss_cons (ps_set (i := 3) nd rfl (Or.inl rfl) (pe_ifExp (pt_cmpR op_gt (pe_callB call_len_seq (by rfl) n_len PySem.boot_len (pa_cons (pv 3) pa_nil)) pe_int (nomark _)) (pv 3) (pe_lst (pa_cons pe_str (pa_cons pe_str pa_nil)))))
(pss_cons (ps_set (i := 4) nd rfl (Or.inr rfl) (pe_call GR hr3 (by rfl) gR kR bR .nil pass0 (pa_cons (pv 2) (pa_cons (pv 3) pa_nil))))
(pss_cons (ps_for PassesOwn.never rfl (pi_range1 (by rfl) n_range (pa_cons (pe_call GD hr1 (by rfl) gD kD bD .nil pass0 (pa_cons (pv 2) (pa_cons pe_int pa_nil))) pa_nil)) (pg_name (i := 5) nd rfl (Or.inl rfl))
(pss_one (ps_if (pt_val (pe_call GIr hr3 (by rfl) gIr kIr bIr .nil pass0 (pa_cons (pv 4) pa_nil)))
(pss_one (ps_set (i := 4) nd rfl (Or.inr rfl) (pe_call GC hr3 (by rfl) gC kC bC .nil pass0 (pa_cons (pv 2) (pa_cons (pv 4) (pa_cons (pv 3) pa_nil))))))
pss_nil)))
(pss_cons (ps_par (i := 6) (j := 7) (by rfl) nd rfl rfl (by decide) rfl rfl (pa_cons (pe_callB (call_repr gg (Nat.lt_of_le_of_lt (Nat.add_le_add_left (by decide) _) hu)) (by rfl) n_repr (by decide +kernel) (pa_cons (pv 4) pa_nil)) (pa_cons (pe_lst (pa_cons (pe_call GRg hr3 (by rfl) gRg kRg bRg .nil pass0 (pa_cons (pv 4) pa_nil)) (pa_cons (pe_call GRg hr3 (by rfl) gRg kRg bRg .nil pass0 (pa_cons (pe_callTy call_tuple_of (by rfl) n_tuple (by decide +kernel) (pa_cons (pv 4) pa_nil)) pa_nil)) pa_nil))) pa_nil)) (by rfl))
(pss_cons (ps_if (PW.pt (pw_or (pt_not (pt_val (pe_callB (cr_all rfl) (by rfl) n_all (by decide +kernel) (pa_cons (pe_lc (own := [("one", 16)]) (g := (gName 16)) (tt := tYes) rfl nd (pi_list (pv 7)) (blkOk_by (own := [("one", 16)]) (N := ["script", "at", "bag", "names", "rows", "turn", "held", "told", "odd", "row", "u", "v", "c", "here", "there", "other", "one"]) (sc := defScope sLaw) (by decide +kernel)) (fun _ _ _ _ _ => (pg_name (i := 16) nd rfl (Or.inl rfl))) (fun _ _ _ _ _ => pts_nil) (fun _ _ _ _ _ => (pe_and (pe_callB (show CallR _ _ (rIsi K) from call_isi) (by rfl) n_isinstance (by decide +kernel) (pa_cons (pv 16) (pa_cons (pe_bltn (v := .ty "bool") (by rfl) n_bool (by decide +kernel) rfl) pa_nil))) (pe_one (pe_cmpR op_eq (pv 16) (pe_call GIr hr3 (by rfl) gIr kIr bIr .nil pass0 (pa_cons (pv 4) pa_nil)) (nomark _)))))) pa_nil)))) (pw_or1 (pt_cmpR op_ne (pe_callB (call_repr gg (Nat.lt_of_le_of_lt (Nat.add_le_add_left (by decide) _) hu)) (by rfl) n_repr (by decide +kernel) (pa_cons (pv 4) pa_nil)) (pv 6) (nomark _)))))
(pss_one (ps_ret pe_bl))
pss_nil)
(pss_cons (ps_for PassesOwn.never rfl (pi_tup (pe_tup (pa_cons pe_non (pa_cons pe_bl (pa_cons pe_int (pa_cons pe_str (pa_cons (pe_lst pa_nil) (pa_cons (pe_tup pa_nil) (pa_cons (pe_lst (pa_cons (pv 4) pa_nil)) (pa_cons pe_str (pa_cons (pe_lst (pa_cons (pe_tup pa_nil) pa_nil)) (pa_cons (pe_tup (pa_cons (pe_tup (pa_cons pe_str (pa_cons pe_str (pa_cons (pe_un un_neg pe_int) pa_nil)))) pa_nil)) (pa_cons (pe_lst (pa_cons (pe_tup (pa_cons pe_str (pa_cons pe_str (pa_cons (pe_un un_neg pe_int) pa_nil)))) pa_nil)) pa_nil))))))))))))) (pg_name (i := 8) nd rfl (Or.inl rfl))
(pss_one (ps_if (pt_cmpR op_isnot_bl (pe_call GRg hr3 (by rfl) gRg kRg bRg .nil pass0 (pa_cons (pv 8) pa_nil)) pe_bl (nomark _))
(pss_one (ps_ret pe_bl))
pss_nil)))
(pss_one (ps_for PassesOwn.never rfl (pi_list (pv 4)) (pg_name (i := 9) nd rfl (Or.inl rfl))
(pss_one (ps_if (pt_val (pe_call GIb hr2 (by rfl) gIb kIb bIb .nil pass0 (pa_cons (pv 9) pa_nil)))
(pss_cons (ps_asg (pv 9) (pg_tup rfl (pgs_cons (pg_name (i := 10) nd rfl (Or.inl rfl)) (pgs_cons (pg_name (i := 11) nd rfl (Or.inl rfl)) (pgs_cons (pg_name (i := 12) nd rfl (Or.inl rfl)) pgs_nil)))))
(pss_cons (ps_par (i := 13) (j := 14) (by rfl) nd rfl rfl (by decide) rfl rfl (pa_cons (pe_call GD hr1 (by rfl) gD kD bD .nil pass0 (pa_cons (pv 2) (pa_cons (pe_op op_pow pe_int pe_int) pa_nil))) (pa_cons (pe_call GD hr1 (by rfl) gD kD bD .nil pass0 (pa_cons (pv 2) (pa_cons (pe_op op_pow pe_int pe_int) pa_nil))) pa_nil)) (by rfl))
(pss_cons (ps_set (i := 13) nd rfl (Or.inl rfl) (pe_call GO hr2 (by rfl) gO kO bO .nil pass0 (pa_cons (pv 2) (pa_cons (pe_lst (pa_cons (pv 13) (pa_cons (pe_op op_add (pv 14) (pv 12)) (pa_cons (pe_op op_add (pe_op op_add (pv 14) (pv 12)) pe_int) pa_nil)))) pa_nil))))
(pss_cons (ps_set (i := 15) nd rfl (Or.inl rfl) (pe_call GOp hr1 (by rfl) gOp kOp bOp .nil pass0 (pa_cons (pv 9) pa_nil)))
(pss_cons (ps_if (PW.pt (pw_or (pt_not (pt_val (pe_call GIb hr2 (by rfl) gIb kIb bIb .nil pass0 (pa_cons (pv 15) pa_nil)))) (pw_or (pt_cmpR (op_neD hu) (pe_tup (pa_cons (pe_ix ix_tup (pv 15) pe_int (fun _ _ => rfl)) (pa_cons (pe_ix ix_tup (pv 15) pe_int (fun _ _ => rfl)) pa_nil))) (pe_tup (pa_cons (pv 11) (pa_cons (pv 10) pa_nil))) (nomark _)) (pw_or1 (pt_cmpR (op_neD hu) (pe_call GOp hr1 (by rfl) gOp kOp bOp .nil pass0 (pa_cons (pv 15) pa_nil)) (pv 9) (nomark _))))))
(pss_one (ps_ret pe_bl))
pss_nil)
(pss_one (ps_if (pt_cmpR op_eq (pe_cmpR op_le (pv 13) (pe_op op_add (pv 14) (pv 12)) (nomark _)) (pe_cmpR op_le (pv 14) (pe_op op_add (pv 13) (pe_ix ix_tup (pv 15) pe_int (fun _ _ => rfl))) (nomark _)) (nomark _))
(pss_one (ps_ret pe_bl))
pss_nil)))))))
pss_nil)))))))))))))
(pss_one (ps_ret pe_bl))), ?_⟩
    refine ⟨_, rfl, a, _, rfl, .inl hS, _, _, rfl, _, _, rfl, _, rfl, ?_, ?_, ?_⟩
    · rw [List.length_map]; split <;> (try split) <;> omega
    · rw [List.length_map]; split <;> (try split) <;> omega
    rw [List.length_map]
    have hn3 : (if (if (ns.length : Int) < 3 then (ns.length : Int) else 3) > 1 then (if (ns.length : Int) < 3 then (ns.length : Int) else 3) else 1).toNat ≤ 3 := by
      split <;> (try split) <;> omega
    generalize (if (if (ns.length : Int) < 3 then (ns.length : Int) else 3) > 1 then (if (ns.length : Int) < 3 then (ns.length : Int) else 3) else 1).toNat = nn at hn3
    refine for_it (walk_rng (n := nn)) (fun _ σ G => ∃ v1 v2 v3 v4 v5 v6 v7 v8 v9 v10 v11 v12 v13 v14 v15 v16, σ = [some (.ref a), v1, v2, v3, v4, v5, v6, v7, v8, v9, v10, v11, v12, v13, v14, v15, v16] ∧ Same H G)
      ⟨none, none, none, none, none, none, none, none, none, none, none, none, none, none, none, none, rfl, Same.refl H⟩ (fun _ _ _ _ _ => trivial) ?_ (fun σ G _ => k _)
    rintro i x σ G' G hi ⟨v1, v2, v3, v4, v5, v6, v7, v8, v9, v10, v11, v12, v13, v14, v15, v16, rfl, sG⟩ ⟨rfl, rfl⟩
    refine ⟨_, rfl, _, rfl, a, ns, i, rfl, sG.seq hS, hl, by omega, fun b G1 nb kb eb hB => ?_⟩
    have s1 : Same H G1 := fun x o e => (eb x (ne_of_none (sG _ _ e) nb)).trans (sG _ _ e)
    have hbH : H b = none := sG.free nb
    refine ⟨_, rfl, b, 0, 6, rfl, hB, by decide, by decide, by decide, fun F1 zs1 G2 hN hl1 hl2 => ?_⟩
    obtain ⟨hF1, hF1b, k2, hB2, hfn, hnd, hnm⟩ := hN
    have s2 : Same H G2 := fun x o e => k2 x o (ne_of_none e hbH) (s1 x o e)
    dsimp only [gName, List.set]
    refine seq_by (fun σ G => ∃ (F2 : Addr) (zs : List Str), σ = [some (.ref a), some (.int (i : Int)), some (.ref b), some (.ref F2), v4, v5, v6, v7, v8, v9, v10, v11, v12, v13, v14, v15, v16] ∧ Same H G ∧ Bag G b 120 ∧ F2 ≠ b ∧ G F2 = some (.lst (zs.map V.str)) ∧ zs.Nodup ∧ 2 ≤ zs.length ∧ zs.length ≤ 10 ∧ ∀ z ∈ zs, isNm z = true) ?_ (fun nxt => ?_)
    · rintro σ G ⟨F2, zs, rfl, s3, hB3, hF2b, hF2, hznd, hz2, hz10, hznm⟩
      refine ⟨_, rfl, _, rfl, b, F2, _, zs, rfl, hB3, by decide, hF2b, hF2, hznd, hz2, by omega, hznm, fun R0 rs0 ds0 G4 hR0 hR0b k4 hB4 hR04 hA0 hd1 hd8 hbd => ?_⟩
      have rw0 : Rw K b R0 F2 H G4 rs0 ds0 zs 180 (10 ^ 29) 8 := ⟨fun x o e => k4 x o (ne_of_none e hbH) (s3 _ _ e), hB4, hR0b, hF2b, hR04, k4 _ _ hF2b hF2, hA0, fun e he => (hbd e he).el, hd8⟩
      -- the changes
      refine ⟨_, rfl, b, _, 3, rfl, rw0.bag, by decide, by decide, by decide, fun r G5 r0 r1 k5 hB5 => ⟨_, rfl, by omega, by omega, ?_⟩⟩
      have rw1 := rw0.to hbH k5.kept hB5
      obtain ⟨mm, hmm, hm2⟩ : ∃ mm : Nat, r.toNat = mm ∧ mm ≤ 2 := ⟨_, rfl, by omega⟩
      rw [hmm]
      refine for_it (walk_rng (n := mm)) (fun j σ G => ∃ R rs ds w5, σ = [some (.ref a), some (.int (i : Int)), some (.ref b), some (.ref F2), some (.ref R), w5, v6, v7, v8, v9, v10, v11, v12, v13, v14, v15, v16] ∧ Rw K b R F2 H G rs ds zs (181 + 5 * j) (10 ^ 29 * (j + 1)) (8 * 2 ^ j))
        ⟨R0, rs0, ds0, _, rfl, rw1.more (by omega) (by omega) (by decide)⟩ (fun _ _ _ _ _ => trivial) ?_ ?_
      · rintro j x σ G' G hj ⟨R, rs, ds, w5, rfl, rw⟩ ⟨rfl, rfl⟩
        have hpow : 8 * 2 ^ j ≤ 16 := by
          have : j = 0 ∨ j = 1 := by omega
          rcases this with rfl | rfl <;> decide
        have hlen := rw.len
        have hpow2 : 8 * 2 ^ (j + 1) = 2 * (8 * 2 ^ j) := by rw [Nat.pow_succ]; omega
        refine ⟨_, rfl, R, rs, ds, rfl, SqL.of rw.rows, rw.dp, by omega, fun e he => (rw.el e he).okE, fun G6 s6 => ⟨_, rfl, ?_⟩⟩
        have rw6 := rw.grow hbH s6
        refine ite2' (fun c => ?_) (fun c => ?_)
        · have hall : ds.all bdD = true := by
            unfold rgL at c
            exact (Bool.and_eq_true_iff.mp c).1
          have h1 : 1 ≤ ds.length := by
            cases ds with
            | nil => rw [rg_nil] at c; cases c
            | cons _ _ => rw [List.length_cons]; omega
          refine ⟨_, rfl, _, rfl, _, rfl, b, R, F2, _, rs, ds, zs, _, rfl, rw6.bag, by omega, rw6.ne, hF2b, rw6.rows, rw6.dp, h1, by omega, fun d hd => el_bd (rw6.el d hd) (List.all_eq_true.mp hall d hd), rw6.nms, by omega, by omega, hznm, fun F3 fs es G7 hF3 hF3b k7 hB7 hF7 hA7 hl7 hel7 => ?_⟩
          have e29 : 10 ^ 29 * (j + 1) + 10 ^ 29 = 10 ^ 29 * (j + 1 + 1) := by rw [Nat.mul_add (10 ^ 29) (j + 1) 1]
          refine ⟨F3, fs, es, _, rfl, fun x o e => k7 x o (ne_of_none e hbH) (rw6.same _ _ e), hB7.mono (by omega), hF3b, hF2b, hF7, k7 _ _ hF2b rw6.nms, hA7, fun e he => by rw [← e29]; exact hel7 e he, by omega⟩
        · exact ⟨R, rs, ds, _, rfl, rw6.more (by omega) (Nat.mul_le_mul_left _ (by omega)) (by omega)⟩
      · rintro σ G ⟨R, rs, ds, w5, rfl, rw⟩
        have hpow : 8 * 2 ^ mm ≤ 32 := by
          have : mm = 0 ∨ mm = 1 ∨ mm = 2 := by omega
          rcases this with rfl | rfl | rfl <;> decide
        have rw := rw.more (n' := 200) (m' := 10 ^ 30) (l' := 32) (by omega) (by omega) hpow
        clear hpow
        -- held, told
        have hsm : Small (.list ds) 2 200000 := by
          have hb : ds.length * (6100 + 2) ≤ 32 * 6102 := Nat.mul_le_mul_right _ rw.len
          exact small_list (fun e he => (rw.el e he).small (by decide)) (by omega)
        have hxl := dpall_len rw.dp
        have hsl : (PyData.shown (.list ds)).length ≤ sizeLine := by have := hsm.ln; rw [sizeLine_eq]; omega
        have hok : okRing (.list ds) := by
          rintro es (e | e)
          · cases e
            exact ⟨by have := rw.len; omega, fun e he => (rw.el e he).okE.1⟩
          · cases e
        have hokT : okRing (.tuple ds) := by
          rintro es (e | e)
          · cases e
          · cases e
            exact ⟨by have := rw.len; omega, fun e he => (rw.el e he).okE.1⟩
        have hrr : ∀ e ∈ ds, okE e := fun e he => (rw.el e he).okE
        refine ⟨_, rfl, R, _, rfl, .lst (SqL.of rw.rows) rw.dp, hsm.sh, hsm.nd, Nat.le_trans hsm.dp (by decide), hsl, ?_⟩
        refine ⟨_, rfl, _, _, rfl, .lst (SqL.of rw.rows) rw.dp, hok, fun G6 s6 => ?_⟩
        have rw6 := rw.grow hbH s6
        refine ⟨_, rfl, R, rs, rfl, .inl ⟨SqL.of rw6.rows, fun T nT => ?_⟩⟩
        have rw7 := rw6.grow hbH (same_put (o := .tup rs) nT)
        have fT : upd G6 T (.tup rs) T = some (.tup rs) := upd_same
        generalize upd G6 T (.tup rs) = G7 at rw7 fT
        refine ⟨_, _, rfl, .tup (SqT.of fT) rw7.dp, hokT, fun G8 s8 => ⟨(by show 2 ≤ sizeLine; decide), fun L8 nL8 => ⟨_, _, rfl, ?_⟩⟩⟩
        have rw8 := (rw7.grow hbH s8).grow hbH (same_put (o := .lst [.bl (rgL ds), .bl (rgL ds)]) nL8)
        have f8 : upd G8 L8 (.lst [.bl (rgL ds), .bl (rgL ds)]) L8 = some (.lst [.bl (rgL ds), .bl (rgL ds)]) := upd_same
        show tSeq _ _ _ _ (upd G8 L8 (.lst [.bl (rgL ds), .bl (rgL ds)]))
        generalize upd G8 L8 (.lst [.bl (rgL ds), .bl (rgL ds)]) = G9 at rw8 f8
        -- all(..)
        refine ⟨_, rfl, L8, rfl, ⟨_, SqL.of f8⟩, fun D nD => ?_⟩
        refine lc_it (walk_list (K := K) (a := L8) (xs := [.bl (rgL ds), .bl (rgL ds)])) (fun j G => G D = some (.lst ((List.replicate j true).map V.bl)) ∧ Same G9 G) ⟨upd_same, same_put nD⟩ (fun j G _ h => SqL.of (h.2 _ _ f8)) ?_ ?_
        · rintro j x G' G10 hj ⟨hD, s10⟩ ⟨rfl, hx⟩
          obtain rfl : x = .bl (rgL ds) := by
            match j, hx with
            | 0, e => exact (Option.some.inj e).symm
            | 1, e => exact (Option.some.inj e).symm
          have rw10 := rw8.grow hbH s10
          refine ⟨rfl, ?_⟩
          dsimp only [tYes]
          rw [if_pos rfl]
          refine ⟨_, rfl, _, _, _, _, _, rfl, .ty _, dp_ty (.bl (rgL ds)), kit_bool _, _, rfl, ?_⟩
          refine ⟨_, rfl, _, rfl, R, rs, ds, rfl, SqL.of rw10.rows, rw10.dp, by have := rw.len; omega, hrr, fun G11 s11 => ⟨rfl, ?_⟩⟩
          rw [decide_eq_true rfl]
          refine ⟨_, s11 _ _ hD, ?_, ?_, fun y o e => ?_⟩
          · rw [List.length_map, List.length_replicate, sizeLine_eq]
            have : j < 2 := hj
            omega
          · rw [upd_same, List.replicate_succ', List.map_append]
            rfl
          · rw [upd_ne (ne_of_none e nD)]
            exact s11 _ _ (s10 _ _ e)
        · rintro G10 ⟨hD, s10⟩
          have rw10 := rw8.grow hbH s10
          refine ⟨D, List.replicate 2 true, rfl, SqL.of hD, _, rfl, ?_⟩
          refine ⟨_, rfl, R, _, rfl, .lst (SqL.of rw10.rows) rw10.dp, hsm.sh, hsm.nd, Nat.le_trans hsm.dp (by decide), hsl, _, rfl, rfl, _, rfl, ?_⟩
          rw [decide_eq_true rfl]
          refine ⟨by decide, fun l0 n_l0 => ?_⟩
          have q0 := same_put (o := .lst []) n_l0
          have f_l0 : upd G10 l0 (.lst []) l0 = some (.lst []) := upd_same
          have rw10 := rw10.grow hbH q0
          generalize upd G10 l0 (.lst []) = J0 at rw10 f_l0 
          clear q0 n_l0
          refine ⟨(by show 0 ≤ sizeLine; decide), fun t0 n_t0 => ?_⟩
          have q1 := same_put (o := .tup []) n_t0
          have f_l0 := q1 _ _ f_l0
          have f_t0 : upd J0 t0 (.tup []) t0 = some (.tup []) := upd_same
          have rw10 := rw10.grow hbH q1
          generalize upd J0 t0 (.tup []) = J1 at rw10 f_t0 f_l0
          clear q1 n_t0
          refine ⟨_, rfl, (by show 1 ≤ sizeLine; decide), fun l1 n_l1 => ?_⟩
          have q2 := same_put (o := .lst [.ref R]) n_l1
          have f_l0 := q2 _ _ f_l0
          have f_t0 := q2 _ _ f_t0
          have f_l1 : upd J1 l1 (.lst [.ref R]) l1 = some (.lst [.ref R]) := upd_same
          have rw10 := rw10.grow hbH q2
          generalize upd J1 l1 (.lst [.ref R]) = J2 at rw10 f_l1 f_l0 f_t0
          clear q2 n_l1
          refine ⟨(by show 0 ≤ sizeLine; decide), fun t1 n_t1 => ?_⟩
          have q3 := same_put (o := .tup []) n_t1
          have f_l0 := q3 _ _ f_l0
          have f_t0 := q3 _ _ f_t0
          have f_l1 := q3 _ _ f_l1
          have f_t1 : upd J2 t1 (.tup []) t1 = some (.tup []) := upd_same
          have rw10 := rw10.grow hbH q3
          generalize upd J2 t1 (.tup []) = J3 at rw10 f_t1 f_l0 f_t0 f_l1
          clear q3 n_t1
          refine ⟨(by show 1 ≤ sizeLine; decide), fun l2 n_l2 => ?_⟩
          have q4 := same_put (o := .lst [.ref t1]) n_l2
          have f_l0 := q4 _ _ f_l0
          have f_t0 := q4 _ _ f_t0
          have f_l1 := q4 _ _ f_l1
          have f_t1 := q4 _ _ f_t1
          have f_l2 : upd J3 l2 (.lst [.ref t1]) l2 = some (.lst [.ref t1]) := upd_same
          have rw10 := rw10.grow hbH q4
          generalize upd J3 l2 (.lst [.ref t1]) = J4 at rw10 f_l2 f_l0 f_t0 f_l1 f_t1
          clear q4 n_l2
          refine ⟨_, rfl, (by show 3 ≤ sizeLine; decide), fun t2 n_t2 => ?_⟩
          have q5 := same_put (o := .tup [.str "a", .str "b", .int (-1)]) n_t2
          have f_l0 := q5 _ _ f_l0
          have f_t0 := q5 _ _ f_t0
          have f_l1 := q5 _ _ f_l1
          have f_t1 := q5 _ _ f_t1
          have f_l2 := q5 _ _ f_l2
          have f_t2 : upd J4 t2 (.tup [.str "a", .str "b", .int (-1)]) t2 = some (.tup [.str "a", .str "b", .int (-1)]) := upd_same
          have rw10 := rw10.grow hbH q5
          generalize upd J4 t2 (.tup [.str "a", .str "b", .int (-1)]) = J5 at rw10 f_t2 f_l0 f_t0 f_l1 f_t1 f_l2
          clear q5 n_t2
          refine ⟨(by show 1 ≤ sizeLine; decide), fun t3 n_t3 => ?_⟩
          have q6 := same_put (o := .tup [.ref t2]) n_t3
          have f_l0 := q6 _ _ f_l0
          have f_t0 := q6 _ _ f_t0
          have f_l1 := q6 _ _ f_l1
          have f_t1 := q6 _ _ f_t1
          have f_l2 := q6 _ _ f_l2
          have f_t2 := q6 _ _ f_t2
          have f_t3 : upd J5 t3 (.tup [.ref t2]) t3 = some (.tup [.ref t2]) := upd_same
          have rw10 := rw10.grow hbH q6
          generalize upd J5 t3 (.tup [.ref t2]) = J6 at rw10 f_t3 f_l0 f_t0 f_l1 f_t1 f_l2 f_t2
          clear q6 n_t3
          refine ⟨_, rfl, (by show 3 ≤ sizeLine; decide), fun t4 n_t4 => ?_⟩
          have q7 := same_put (o := .tup [.str "a", .str "a", .int (-1)]) n_t4
          have f_l0 := q7 _ _ f_l0
          have f_t0 := q7 _ _ f_t0
          have f_l1 := q7 _ _ f_l1
          have f_t1 := q7 _ _ f_t1
          have f_l2 := q7 _ _ f_l2
          have f_t2 := q7 _ _ f_t2
          have f_t3 := q7 _ _ f_t3
          have f_t4 : upd J6 t4 (.tup [.str "a", .str "a", .int (-1)]) t4 = some (.tup [.str "a", .str "a", .int (-1)]) := upd_same
          have rw10 := rw10.grow hbH q7
          generalize upd J6 t4 (.tup [.str "a", .str "a", .int (-1)]) = J7 at rw10 f_t4 f_l0 f_t0 f_l1 f_t1 f_l2 f_t2 f_t3
          clear q7 n_t4
          refine ⟨(by show 1 ≤ sizeLine; decide), fun l3 n_l3 => ?_⟩
          have q8 := same_put (o := .lst [.ref t4]) n_l3
          have f_l0 := q8 _ _ f_l0
          have f_t0 := q8 _ _ f_t0
          have f_l1 := q8 _ _ f_l1
          have f_t1 := q8 _ _ f_t1
          have f_l2 := q8 _ _ f_l2
          have f_t2 := q8 _ _ f_t2
          have f_t3 := q8 _ _ f_t3
          have f_t4 := q8 _ _ f_t4
          have f_l3 : upd J7 l3 (.lst [.ref t4]) l3 = some (.lst [.ref t4]) := upd_same
          have rw10 := rw10.grow hbH q8
          generalize upd J7 l3 (.lst [.ref t4]) = J8 at rw10 f_l3 f_l0 f_t0 f_l1 f_t1 f_l2 f_t2 f_t3 f_t4
          clear q8 n_l3
          obtain ⟨items, hitems⟩ : ∃ items : List V, items = [.non, .bl true, .int 0, .str "ring", .ref l0, .ref t0, .ref l1, .str "", .ref l2, .ref t3, .ref l3] := ⟨_, rfl⟩
          refine ⟨(by show 11 ≤ sizeLine; decide), fun T n_T => ?_⟩
          rw [← hitems]
          have q9 := same_put (o := .tup items) n_T
          have f_l0 := q9 _ _ f_l0
          have f_t0 := q9 _ _ f_t0
          have f_l1 := q9 _ _ f_l1
          have f_t1 := q9 _ _ f_t1
          have f_l2 := q9 _ _ f_l2
          have f_t2 := q9 _ _ f_t2
          have f_t3 := q9 _ _ f_t3
          have f_t4 := q9 _ _ f_t4
          have f_l3 := q9 _ _ f_l3
          have f_T : upd J8 T (.tup items) T = some (.tup items) := upd_same
          have rw10 := rw10.grow hbH q9
          generalize upd J8 T (.tup items) = J9 at rw10 f_T f_l0 f_t0 f_l1 f_t1 f_l2 f_t2 f_t3 f_t4 f_l3
          clear q9 n_T
          refine ⟨T, rfl, ⟨_, SqT.of f_T⟩, for_it (walk_tup (K := K) (a := T) (xs := items)) (fun j σ G => ∃ w8, σ = [some (.ref a), some (.int (i : Int)), some (.ref b), some (.ref F2), some (.ref R), w5, some (.str (PyData.shown (.list ds))), some (.ref L8), w8, v9, v10, v11, v12, v13, v14, v15, v16] ∧ Same J9 G) ⟨_, rfl, Same.refl _⟩ (fun j σ G _ h => h.elim fun _ h => SqT.of (h.2 _ _ f_T)) ?_ ?_⟩
          · rintro j x σ G' G11 hj ⟨w8, rfl, s11⟩ ⟨rfl, hx⟩
            obtain ⟨d, hd, hdok, hdr⟩ : ∃ d, Dp K J9 x d ∧ okRing d ∧ rgD d = false := by
              have hm := List.mem_of_getElem? hx
              rw [hitems] at hm
              rcases List.mem_cons.mp hm with rfl | hm
              · exact ⟨.none, .non, ok_sc (fun ds => ⟨nofun, nofun⟩), rfl⟩
              rcases List.mem_cons.mp hm with rfl | hm
              · exact ⟨_, .bl _, ok_sc (fun ds => ⟨nofun, nofun⟩), rfl⟩
              rcases List.mem_cons.mp hm with rfl | hm
              · exact ⟨_, .int _, ok_sc (fun ds => ⟨nofun, nofun⟩), rfl⟩
              rcases List.mem_cons.mp hm with rfl | hm
              · exact ⟨_, .str _, ok_sc (fun ds => ⟨nofun, nofun⟩), rfl⟩
              rcases List.mem_cons.mp hm with rfl | hm
              · exact ⟨_, .lst (SqL.of f_l0) .nil, (fun es e => by rcases e with e | e <;> cases e; exact ⟨by decide, fun _ z => nomatch z⟩), rg_nil⟩
              rcases List.mem_cons.mp hm with rfl | hm
              · exact ⟨_, .tup (SqT.of f_t0) .nil, (fun es e => by rcases e with e | e <;> cases e; exact ⟨by decide, fun _ z => nomatch z⟩), rg_nil⟩
              rcases List.mem_cons.mp hm with rfl | hm
              · refine ⟨_, .lst (SqL.of f_l1) (.cons (.lst (SqL.of rw10.rows) rw10.dp) .nil), (fun es e => ?_), rgD_one _ rfl⟩
                rcases e with e | e <;> cases e
                refine ⟨by show 1 ≤ 1000; decide, fun e he => ?_⟩
                rw [List.mem_singleton.mp he]
                exact fun es z => nomatch z
              rcases List.mem_cons.mp hm with rfl | hm
              · exact ⟨_, .str _, ok_sc (fun ds => ⟨nofun, nofun⟩), rfl⟩
              rcases List.mem_cons.mp hm with rfl | hm
              · refine ⟨_, .lst (SqL.of f_l2) (.cons (.tup (SqT.of f_t1) .nil) .nil), (fun es e => ?_), rgD_one _ (bd_len (by decide))⟩
                rcases e with e | e <;> cases e
                refine ⟨by show 1 ≤ 1000; decide, fun e he => ?_⟩
                rw [List.mem_singleton.mp he]
                intro es z
                cases z
                exact ⟨by decide, fun _ z => nomatch z⟩
              rcases List.mem_cons.mp hm with rfl | hm
              · refine ⟨_, .tup (SqT.of f_t3) (.cons (.tup (SqT.of f_t2) (.cons (.str _) (.cons (.str _) (.cons (.int _) .nil)))) .nil), (fun es e => ?_), (by decide +kernel)⟩
                rcases e with e | e <;> cases e
                refine ⟨by show 1 ≤ 1000; decide, fun e he => ?_⟩
                rw [List.mem_singleton.mp he]
                intro es z
                cases z
                refine ⟨by show 3 ≤ 1000; decide, fun e he => ?_⟩
                rcases List.mem_cons.mp he with rfl | he
                · exact sc_okN (m := 0) ⟨by decide, by decide +kernel⟩
                rcases List.mem_cons.mp he with rfl | he
                · exact sc_okN (m := 0) ⟨by decide, by decide +kernel⟩
                rw [List.mem_singleton.mp he]
                exact fun z e => nomatch e
              · rw [List.mem_singleton.mp hm]
                refine ⟨_, .lst (SqL.of f_l3) (.cons (.tup (SqT.of f_t4) (.cons (.str _) (.cons (.str _) (.cons (.int _) .nil)))) .nil), (fun es e => ?_), (by decide +kernel)⟩
                rcases e with e | e <;> cases e
                refine ⟨by show 1 ≤ 1000; decide, fun e he => ?_⟩
                rw [List.mem_singleton.mp he]
                intro es z
                cases z
                refine ⟨by show 3 ≤ 1000; decide, fun e he => ?_⟩
                rcases List.mem_cons.mp he with rfl | he
                · exact sc_okN (m := 0) ⟨by decide, by decide +kernel⟩
                rcases List.mem_cons.mp he with rfl | he
                · exact sc_okN (m := 0) ⟨by decide, by decide +kernel⟩
                rw [List.mem_singleton.mp he]
                exact fun z e => nomatch e
            refine ⟨_, rfl, x, d, rfl, dp_same s11 _ _ hd, hdok, fun G12 s12 => ?_⟩
            rw [hdr]
            exact ⟨_, _, rfl, rfl, _, rfl, _, rfl, s11.trans s12⟩
          · rintro σ G11 ⟨w8, rfl, s11⟩
            have rw11 := (rw10.grow hbH s11).more (n' := 300) (m' := 10 ^ 30) (l' := 32) (by decide) (Nat.le_refl _) (Nat.le_refl _)
            clear f_T f_l0 f_t0 f_l1 f_t1 f_l2 f_t2 f_t3 f_t4 f_l3 hitems s11
            refine ⟨_, rfl, R, rfl, ⟨_, SqL.of rw11.rows⟩, for_it (walk_list (K := K) (a := R) (xs := rs)) (fun j σ G => ∃ w9 w10 w11 w12 w13 w14 w15, σ = [some (.ref a), some (.int (i : Int)), some (.ref b), some (.ref F2), some (.ref R), w5, some (.str (PyData.shown (.list ds))), some (.ref L8), w8, w9, w10, w11, w12, w13, w14, w15, v16] ∧ Rw K b R F2 H G rs ds zs (300 + 3 * j) (10 ^ 30) 32)
              ⟨_, _, _, _, _, _, _, rfl, rw11.more (by omega) (Nat.le_refl _) (Nat.le_refl _)⟩ (fun j σ G _ h => by obtain ⟨_, _, _, _, _, _, _, _, h⟩ := h; exact SqL.of h.rows) ?_ ?_⟩
            · rintro j x σ G' G12 hj ⟨w9, w10, w11, w12, w13, w14, w15, rfl, rw⟩ ⟨rfl, hx⟩
              have hj32 : j < 32 := by have := rw.len; omega
              obtain ⟨e, he, hde⟩ := dpall_at rw.dp hx
              refine ⟨_, rfl, x, e, rfl, hde, (hrr e (List.mem_of_getElem? he)).1, fun G13 s13 => ⟨_, rfl, ite2' (fun cb => ?_) (fun cb => ?_)⟩⟩
              · have rw13 := rw.grow hbH s13
                obtain ⟨t, het⟩ : ∃ t, bd3 e = some t := Option.isSome_iff_exists.mp cb
                obtain ⟨rfl, tn1, tn2, tne⟩ := bd3_inv het
                obtain ⟨ar, rfl, hSr⟩ := (dp_tup3 hde).same s13
                refine ⟨_, rfl, _, _, rfl, hSr, rfl, _, _, rfl, _, _, rfl, _, _, rfl, rfl, ?_⟩
                refine ⟨_, rfl, _, _, rfl, rfl, ⟨by decide, by decide, by decide⟩, b, _, _, rfl, rw13.bag, by omega, by decide, by decide, fun d1 G14 _ _ k14 hB14 => ?_⟩
                refine ⟨_, rfl, _, _, rfl, rfl, ⟨by decide, by decide, by decide⟩, b, _, _, rfl, hB14, by omega, by decide, by decide, fun d2 G15 _ _ k15 hB15 => ⟨_, _, rfl, ?_⟩⟩
                have rw15 := (rw13.to hbH k14.kept hB14).to hbH k15.kept hB15
                have hS15 : SqT K G15 ar _ := sqT_kept (sqT_kept hSr rw13.bag k14.kept) hB14 k15.kept
                refine ⟨_, rfl, _, rfl, _, rfl, _, rfl, _, _, rfl, rfl, _, rfl, _, rfl, _, _, rfl, rfl, _, _, rfl, rfl, (by show 3 ≤ sizeLine; decide), fun L9 nL9 => ?_⟩
                have hL9b := rw15.bag.ne nL9
                have rw16 := rw15.grow hbH (same_put (o := .lst [.int d1, .int (d2 + t.2.2), .int (d2 + t.2.2 + 1)]) nL9)
                refine ⟨b, L9, _, _, rfl, rw16.bag, by omega, hL9b, SqL.of upd_same, (by show 0 < 3; decide), (by show 3 ≤ 1000; decide), fun q v G17 hv k17 hB17 => ?_⟩
                have rw17 := rw16.to hbH k17.kept hB17
                have hS17 : SqT K G17 ar _ := sqT_kept (sqT_same (same_put nL9) hS15) rw16.bag k17.kept
                obtain ⟨y, rfl⟩ : ∃ y : Int, v = .int y := by
                  match q, hv with
                  | 0, e => exact ⟨_, (Option.some.inj e).symm⟩
                  | 1, e => exact ⟨_, (Option.some.inj e).symm⟩
                  | 2, e => exact ⟨_, (Option.some.inj e).symm⟩
                -- other = opposite(row)
                refine ⟨_, rfl, ar, _, _, _, rfl, hS17, fun p np => ?_⟩
                have s18 := same_put (o := .tup [.str t.2.1, .str t.1, .int (-t.2.2 - 1)]) np
                have rw18 := rw17.grow hbH s18
                have f18 : upd G17 p (.tup [.str t.2.1, .str t.1, .int (-t.2.2 - 1)]) p = some (.tup [.str t.2.1, .str t.1, .int (-t.2.2 - 1)]) := upd_same
                have hS18 := sqT_same s18 hS17
                generalize upd G17 p (.tup [.str t.2.1, .str t.1, .int (-t.2.2 - 1)]) = G18 at rw18 f18 hS18
                have hb2 : bdD (bdX (t.2.1, t.1, -t.2.2 - 1)) = true := by
                  show bdD (.tuple [.str t.2.1, .str t.1, .int _]) = true
                  rw [bd_parts]
                  show (isNm t.2.1 && (isNm t.1 && ((!decide (t.2.1 = t.1)) && true))) = true
                  rw [tn1, tn2, decide_eq_false (fun q => tne q.symm)]
                  rfl
                have okN3 : ∀ (u v : Str) (c : Int), isNm u = true → isNm v = true → okBd (.tuple [.str u, .str v, .int c]) := by
                  intro u v c hu hv es z
                  cases z
                  refine ⟨by show 3 ≤ 1000; decide, fun e he => ?_⟩
                  rcases List.mem_cons.mp he with rfl | he
                  · exact sc_okN (nm_sc (m := 0) hu)
                  rcases List.mem_cons.mp he with rfl | he
                  · exact sc_okN (nm_sc (m := 0) hv)
                  rw [List.mem_singleton.mp he]
                  exact fun z e => nomatch e
                refine ⟨_, rfl, _, bdX (t.2.1, t.1, -t.2.2 - 1), rfl, .tup (SqT.of f18) (.cons (.str _) (.cons (.str _) (.cons (.int _) .nil))), okN3 _ _ _ tn2 tn1, fun G19 s19 => ?_⟩
                have rw19 := rw18.grow hbH s19
                have hS19 := sqT_same s19 hS18
                have f19 := s19 _ _ f18
                rw [hb2]
                refine ⟨_, rfl, ?_⟩
                refine ⟨_, rfl, p, _, _, _, rfl, rfl, SqT.of f19, rfl, _, rfl, p, _, _, _, rfl, rfl, SqT.of f19, rfl, (by show 2 ≤ sizeLine; decide), fun A1 nA1 => ?_⟩
                have s20 := same_put (o := .tup [.str t.2.1, .str t.1]) nA1
                have g20 : upd G19 A1 (.tup [.str t.2.1, .str t.1]) A1 = some (.tup [.str t.2.1, .str t.1]) := upd_same
                have rw20 := rw19.grow hbH s20
                have hS20 := sqT_same s20 hS19
                have f20 := s20 _ _ f19
                generalize upd G19 A1 (.tup [.str t.2.1, .str t.1]) = G20 at rw20 hS20 f20 g20
                refine ⟨_, rfl, _, rfl, (by show 2 ≤ sizeLine; decide), fun A2 nA2 => ?_⟩
                have s21 := same_put (o := .tup [.str t.2.1, .str t.1]) nA2
                have g21 : upd G20 A2 (.tup [.str t.2.1, .str t.1]) A2 = some (.tup [.str t.2.1, .str t.1]) := upd_same
                have rw21 := rw20.grow hbH s21
                have hS21 := sqT_same s21 hS20
                have f21 := s21 _ _ f20
                have g20 := s21 _ _ g20
                generalize upd G20 A2 (.tup [.str t.2.1, .str t.1]) = G21 at rw21 hS21 f21 g20 g21
                have lay2 : PyData.canLay0 (.tuple [.str t.2.1, .str t.1]) = true := (lay_all (k := 0) (ds := [.str t.2.1, .str t.1]) (fun e he => by
                  rcases List.mem_cons.mp he with rfl | he
                  · exact sc_lay (nm_sc (m := 0) tn2)
                  · rw [List.mem_singleton.mp he]
                    exact sc_lay (nm_sc (m := 0) tn1))).1
                have lay3 : ∀ c : Int, PyData.canLay0 (.tuple [.str t.1, .str t.2.1, .int c]) = true := fun c => (lay_all (k := 0) (ds := [.str t.1, .str t.2.1, .int c]) (fun e he => by
                  rcases List.mem_cons.mp he with rfl | he
                  · exact sc_lay (nm_sc (m := 0) tn1)
                  rcases List.mem_cons.mp he with rfl | he
                  · exact sc_lay (nm_sc (m := 0) tn2)
                  · rw [List.mem_singleton.mp he]
                    exact ⟨rfl, Nat.le_refl _⟩)).1
                have shp : ∀ d : PyData, d.canLay0 = true → d.depth ≤ 1 → SeqAt.shaped d = true := fun d h1 h2 => Bool.and_eq_true_iff.mpr ⟨h1, decide_eq_true (by omega)⟩
                refine ⟨_, _, .tup (SqT.of g20) (.cons (.str _) (.cons (.str _) .nil)), .tup (SqT.of g21) (.cons (.str _) (.cons (.str _) .nil)), shp _ lay2 (by show 1 ≤ 1; decide), shp _ lay2 (by show 1 ≤ 1; decide), _, rfl, ?_⟩
                rw [PySem.SeqAt.eqv_refl _ lay2]
                refine ⟨_, rfl, p, _, _, _, rfl, SqT.of f21, fun p2 np2 => ?_⟩
                have s22 := same_put (o := .tup [.str t.1, .str t.2.1, .int (-(-t.2.2 - 1) - 1)]) np2
                have g22 : upd G21 p2 (.tup [.str t.1, .str t.2.1, .int (-(-t.2.2 - 1) - 1)]) p2 = some (.tup [.str t.1, .str t.2.1, .int (-(-t.2.2 - 1) - 1)]) := upd_same
                have rw22 := rw21.grow hbH s22
                have hS22 := sqT_same s22 hS21
                have f22 := s22 _ _ f21
                generalize upd G21 p2 (.tup [.str t.1, .str t.2.1, .int (-(-t.2.2 - 1) - 1)]) = G22 at rw22 hS22 f22 g22
                rw [show -(-t.2.2 - 1) - 1 = t.2.2 by omega] at g22
                refine ⟨_, rfl, _, _, .tup (SqT.of g22) (.cons (.str _) (.cons (.str _) (.cons (.int _) .nil))), .tup hS22 (.cons (.str _) (.cons (.str _) (.cons (.int _) .nil))), shp _ (lay3 _) (by show 1 ≤ 1; decide), shp _ (lay3 _) (by show 1 ≤ 1; decide), _, rfl, ?_⟩
                rw [PySem.SeqAt.eqv_refl _ (lay3 _)]
                refine ⟨_, rfl, _, rfl, _, rfl, _, _, rfl, rfl, _, _, rfl, rfl, ?_⟩
                refine ⟨_, rfl, _, rfl, _, rfl, p, _, _, _, rfl, rfl, SqT.of f22, rfl, _, _, rfl, rfl, _, _, rfl, rfl, rfl, _, rfl, ?_⟩
                have hne : decide (V.bl (decide (y ≤ d2 + t.2.2)) = V.bl (decide (d2 ≤ y + (-t.2.2 - 1)))) = false := by
                  refine decide_eq_false fun q => ?_
                  have q := V.bl.inj q
                  by_cases c : y ≤ d2 + t.2.2
                  · rw [decide_eq_true c] at q
                    have := of_decide_eq_true q.symm
                    omega
                  · rw [decide_eq_false c] at q
                    have := of_decide_eq_false q.symm
                    omega
                rw [hne]
                exact ⟨_, _, _, _, _, _, _, rfl, rw22.more (by omega) (Nat.le_refl _) (Nat.le_refl _)⟩
              · exact ⟨_, _, _, _, _, _, _, rfl, (rw.grow hbH s13).more (by omega) (Nat.le_refl _) (Nat.le_refl _)⟩
            · rintro σ G12 ⟨w9, w10, w11, w12, w13, w14, w15, rfl, rw⟩
              exact ⟨_, _, _, _, _, _, _, _, _, _, _, _, _, _, _, _, rfl, rw.same⟩
    · refine ⟨_, rfl, F1, _, rfl, .inl (SqL.of hfn), _, _, rfl, rfl, _, rfl, ite2' (fun c => ?_) (fun c => ?_)⟩
      · have c2 : 1 < ((zs1.map V.str).length : Int) := of_decide_eq_true c
        rw [List.length_map] at c2
        refine ⟨_, rfl, nxt _ _ ⟨F1, zs1, rfl, s2, hB2, hF1b, hfn, hnd, by omega, by omega, hnm⟩⟩
      · refine ⟨(by show 2 ≤ sizeLine; decide), fun F2 nF2 => nxt _ _ ⟨F2, ["a", "zero"], rfl, fun x o e => same_put nF2 _ _ (s2 _ _ e), hB2.put (hB2.ne nF2), hB2.ne nF2, upd_same, by decide +kernel, by decide, by decide, by decide +kernel⟩⟩
end
end K30

set_option Elab.async false
set_option maxRecDepth 100000
set_option maxHeartbeats 0
namespace K30
open PySem PySem.Spec PyProof.Rows L2 He KX
theorem ba {a b : Bool} (h : (a && b) = true) : a = true ∧ b = true := Bool.and_eq_true_iff.mp h
theorem all_ok {P : Program} {w : World} {K : PySem.W.Frag} {h : Heap} {mg : Str → Option Value} {f : Addr} (X : K.In h) (G : h.Ns mainGlobals mg) (hfa : mg ("law" : Str) = some (.ref f)) (c : SaysX chk fn K) :
    ∃ fd : FuncData, (∀ (s : Shared) (u : Value), BindsTo s fd ⟨[u], []⟩ [("script", u)]) ∧ ∀ base : Heap, K.In base → base.Ns mainGlobals mg → FnG P w K mg base CX0 5 f fd ["script"] (spLaw K) := by
  have S : (frees.all fun x => (Fa.free x).ok K) = true ∧ (gls.all fun x => (Fa.glo x).ok K) = true := ba c.1
  have g : ∀ x ∈ gls, mg x = some (.ref (ga K x)) := fun x hx => glo_ok X G (List.all_eq_true.mp S.2 x hx)
  have fr : ∀ x ∈ frees, mg x = none := fun x hx => free_ok X G (List.all_eq_true.mp S.1 x hx)
  obtain ⟨fd0, F0⟩ := c.fd 0
  obtain ⟨fd1, F1⟩ := c.fd 1
  obtain ⟨fd2, F2⟩ := c.fd 2
  obtain ⟨fd3, F3⟩ := c.fd 3
  obtain ⟨fd4, F4⟩ := c.fd 4
  obtain ⟨fd5, F5⟩ := c.fd 5
  obtain ⟨fd6, F6⟩ := c.fd 6
  obtain ⟨fd7, F7⟩ := c.fd 7
  obtain ⟨fd8, F8⟩ := c.fd 8
  obtain ⟨fd9, F9⟩ := c.fd 9
  obtain ⟨fd10, F10⟩ := c.fd 10
  obtain ⟨fd11, F11⟩ := c.fd 11
  obtain ⟨fd12, F12⟩ := c.fd 12
  obtain ⟨fd13, F13⟩ := c.fd 13
  obtain ⟨fd14, F14⟩ := c.fd 14
  obtain ⟨fd15, F15⟩ := c.fd 15
  obtain ⟨fd16, F16⟩ := c.fd 16
  replace F0 : FnP K "is_integer" sInt (ga K "is_integer") fd0 := F0
  replace F1 : FnP K "is_name" sName (ga K "is_name") fd1 := F1
  replace F2 : FnP K "opposite" sOpp (ga K "opposite") fd2 := F2
  replace F3 : FnP K "is_bound" sBound (ga K "is_bound") fd3 := F3
  replace F4 : FnP K "is_ring" sRing (ga K "is_ring") fd4 := F4
  replace F5 : FnP K "_law_bag" sBag (ga K "_law_bag") fd5 := F5
  replace F6 : FnP K "_law_draw" sDraw (ga K "_law_draw") fd6 := F6
  replace F7 : FnP K "_law_of" sOf (ga K "_law_of") fd7 := F7
  replace F8 : FnP K "_law_name" sLNm (ga K "_law_name") fd8 := F8
  replace F9 : FnP K "_law_names" sLNms (ga K "_law_names") fd9 := F9
  replace F10 : FnP K "_law_numbers" sLNum (ga K "_law_numbers") fd10 := F10
  replace F11 : FnP K "_law_round" sRnd (ga K "_law_round") fd11 := F11
  replace F12 : FnP K "_law_changed" sChg (ga K "_law_changed") fd12 := F12
  replace F13 : FnP K "_law_is_name" sLName (ga K "_law_is_name") fd13 := F13
  replace F14 : FnP K "_law_is_bound" sLBound (ga K "_law_is_bound") fd14 := F14
  replace F15 : FnP K "_law_is_round" sLRound (ga K "_law_is_round") fd15 := F15
  replace F16 : FnP K "law" sLaw (ga K "law") fd16 := F16
  have e := hfa.symm.trans (g "law" (by decide))
  cases e
  refine ⟨fd16, fun s u => FunD.bindsA (ps := ["script"]) F16 (fun _ _ _ _ _ _ us hl => match us, hl with | [_], _ => rfl) s [u] rfl, fun base _ _ => ?_⟩
  have n_isinstance := fr "isinstance" (by decide)
  have n_int := fr "int" (by decide)
  have n_bool := fr "bool" (by decide)
  have n_str := fr "str" (by decide)
  have n_len := fr "len" (by decide)
  have n_all := fr "all" (by decide)
  have n_tuple := fr "tuple" (by decide)
  have n_list := fr "list" (by decide)
  have n_enumerate := fr "enumerate" (by decide)
  have n_sum := fr "sum" (by decide)
  have n_abs := fr "abs" (by decide)
  have n_range := fr "range" (by decide)
  have n_max := fr "max" (by decide)
  have n_min := fr "min" (by decide)
  have n_repr := fr "repr" (by decide)
  have b0 : Binds K fd0 ["thing"] [] := F0.bindsN fun _ _ _ _ _ _ us hl => match us, hl with | [_], _ => rfl
  have g0 := g "is_integer" (by decide)
  have b1 : Binds K fd1 ["thing"] [] := F1.bindsN fun _ _ _ _ _ _ us hl => match us, hl with | [_], _ => rfl
  have g1 := g "is_name" (by decide)
  have b2 : Binds K fd2 ["bound"] [] := F2.bindsN fun _ _ _ _ _ _ us hl => match us, hl with | [_], _ => rfl
  have g2 := g "opposite" (by decide)
  have b3 : Binds K fd3 ["thing"] [] := F3.bindsN fun _ _ _ _ _ _ us hl => match us, hl with | [_], _ => rfl
  have g3 := g "is_bound" (by decide)
  have b4 : Binds K fd4 ["thing"] [] := F4.bindsN fun _ _ _ _ _ _ us hl => match us, hl with | [_], _ => rfl
  have g4 := g "is_ring" (by decide)
  have b5 : Binds K fd5 ["script", "at"] [] := F5.bindsN fun _ _ _ _ _ _ us hl => match us, hl with | [_, _], _ => rfl
  have g5 := g "_law_bag" (by decide)
  have b6 : Binds K fd6 ["bag", "many"] [] := F6.bindsN fun _ _ _ _ _ _ us hl => match us, hl with | [_, _], _ => rfl
  have g6 := g "_law_draw" (by decide)
  have b7 : Binds K fd7 ["bag", "some"] [] := F7.bindsN fun _ _ _ _ _ _ us hl => match us, hl with | [_, _], _ => rfl
  have g7 := g "_law_of" (by decide)
  have b8 : Binds K fd8 ["bag"] [] := F8.bindsN fun _ _ _ _ _ _ us hl => match us, hl with | [_], _ => rfl
  have g8 := g "_law_name" (by decide)
  have b9 : Binds K fd9 ["bag", "many"] [] := F9.bindsN fun _ _ _ _ _ _ us hl => match us, hl with | [_, _], _ => rfl
  have g9 := g "_law_names" (by decide)
  have b10 : Binds K fd10 ["bag", "many"] [] := F10.bindsN fun _ _ _ _ _ _ us hl => match us, hl with | [_, _], _ => rfl
  have g10 := g "_law_numbers" (by decide)
  have b11 : Binds K fd11 ["bag", "names"] [] := F11.bindsN fun _ _ _ _ _ _ us hl => match us, hl with | [_, _], _ => rfl
  have g11 := g "_law_round" (by decide)
  have b12 : Binds K fd12 ["bag", "rows", "names"] [] := F12.bindsN fun _ _ _ _ _ _ us hl => match us, hl with | [_, _, _], _ => rfl
  have g12 := g "_law_changed" (by decide)
  have b13 : Binds K fd13 ["thing"] [] := F13.bindsN fun _ _ _ _ _ _ us hl => match us, hl with | [_], _ => rfl
  have g13 := g "_law_is_name" (by decide)
  have b14 : Binds K fd14 ["thing"] [] := F14.bindsN fun _ _ _ _ _ _ us hl => match us, hl with | [_], _ => rfl
  have g14 := g "_law_is_bound" (by decide)
  have b15 : Binds K fd15 ["rows"] [] := F15.bindsN fun _ _ _ _ _ _ us hl => match us, hl with | [_], _ => rfl
  have g15 := g "_law_is_round" (by decide)
  have G5 : FnOk P w K mg base CX0 1 (ga K "_law_bag") fd5 ["script", "at"] (spBag K) := ok_bag F5 n_len n_abs n_int
  have G6 : FnOk P w K mg base CX0 1 (ga K "_law_draw") fd6 ["bag", "many"] spDraw := ok_draw F6 n_int
  have G7 : FnOk P w K mg base CX0 2 (ga K "_law_of") fd7 ["bag", "some"] (spOf K) := ok_of F7 F6 g6 n_len n_int
  have G3 : FnOk P w K mg base CX0 2 (ga K "is_bound") fd3 ["thing"] (spBound K) := ok_bound F3 F0 F1 g0 g1 n_isinstance n_int n_bool n_str n_tuple n_len n_all
  have G4 : FnOk P w K mg base CX0 3 (ga K "is_ring") fd4 ["thing"] (spRing K) := ok_ring F4 G3 b3 F3 g3 n_isinstance n_list n_tuple n_all n_enumerate n_sum
  have G2 : FnOk P w K mg base CX0 1 (ga K "opposite") fd2 ["bound"] (spOpp K) := ok_opp F2
  have G13 : FnOk P w K mg base CX0 1 (ga K "_law_is_name") fd13 ["thing"] (spName K) := ok_lname F13 n_isinstance n_str n_len n_all
  have G14 : FnOk P w K mg base CX0 2 (ga K "_law_is_bound") fd14 ["thing"] (spBound K) := ok_lbound F14 G13 b13 F13 g13 n_isinstance n_int n_bool n_tuple n_len
  have G15 : FnOk P w K mg base CX0 3 (ga K "_law_is_round") fd15 ["rows"] (spRound K) := ok_lround F15 G14 b14 F14 g14 n_len n_range n_all n_sum
  have G8 : FnOk P w K mg base CX0 2 (ga K "_law_name") fd8 ["bag"] spLName := ok_lnm F8 G6 b6 F6.kp g6 n_range
  have G9 : FnOk P w K mg base CX0 3 (ga K "_law_names") fd9 ["bag", "many"] spLNames := ok_lnms F9 G6 b6 F6.kp g6 G7 b7 F7.kp g7 G8 b8 F8.kp g8 n_range n_len
  have G10 : FnOk P w K mg base CX0 4 (ga K "_law_numbers") fd10 ["bag", "many"] spLNums := ok_lnum F10 G9 b9 F9.kp g9
  have G11 : FnOk P w K mg base CX0 3 (ga K "_law_round") fd11 ["bag", "names"] (spRnd K) := ok_rnd F11 G6 b6 F6.kp g6 G7 b7 F7.kp g7 n_range n_len n_sum n_int
  have G12 : FnOk P w K mg base CX0 3 (ga K "_law_changed") fd12 ["bag", "rows", "names"] (spChg K) := ok_chg F12 G6 b6 F6.kp g6 G7 b7 F7.kp g7 n_len n_list
  exact ok_law F16 G5 b5 F5.kp g5 G6 b6 F6.kp g6 G7 b7 F7.kp g7 G10 b10 F10.kp g10 G11 b11 F11.kp g11 G12 b12 F12.kp g12 G15 b15 F15.kp g15 G14 b14 F14.kp g14 G4 b4 F4.kp g4 G2 b2 F2.kp g2 n_max n_min n_len n_range n_repr n_tuple n_all n_isinstance n_bool
end K30
open PySem PySem.W PySem.Calls PyProof.Rows
set_option maxRecDepth 100000 in
set_option maxHeartbeats 0 in
theorem PySem.Challenge.cw_rowsinplace_k30_rings_holds : PySem.Challenge.rw_rowsinplace_k30_rings.Holds := by
  w_on; o_law
  refine HandSHeadRun.head_any (r := OpenLaw.row PySem.Challenge.rw_rowsinplace_k30_rings) (q := view (OpenLaw.row PySem.Challenge.rw_rowsinplace_k30_rings).prog [19]) (H := K30.hk) (ob := K30.ob) (M := 20000) (loose := K30.loose) (d := HandSHeadRun.topDef (OpenLaw.row PySem.Challenge.rw_rowsinplace_k30_rings).prog 19) (kwd := []) K30.ob_eq
    (by kernel_rfl) (fun s => by kernel_rfl) K30.run (by kernel_rfl) (by kernel_rfl) (by kernel_rfl) (by rfl) (by first | assumption | decide +kernel) (by decide +kernel) ⟨rfl, rfl, rfl, rfl, rfl, by decide +kernel⟩ ?hw ?hc
  case hw => w_witness2
  case hc =>
    refine KX.walk_atG (l := PySem.Challenge.rw_rowsinplace_k30_rings) (n := 63) (k := 5) (x := "script") rfl (by decide) (by kernel_rfl) ⟨rfl, by decide, by decide⟩ ?F
    intro w mg fa h Y G hmg0
    obtain ⟨K, KI, c⟩ := Y
    have hmg : mg ("law" : PySem.Str) = some (.ref fa) := by
      have e : (HandSHeadRun.topDef (OpenLaw.row PySem.Challenge.rw_rowsinplace_k30_rings).prog 19).name = ("law" : PySem.Str) := by kernel_rfl
      rw [← e]
      exact hmg0
    obtain ⟨fd, hb, hF⟩ := K30.all_ok (P := (PySem.Challenge.rw_rowsinplace_k30_rings).prog) (w := w) KI G hmg c
    exact ⟨K, fd, K30.spLaw K, KI, hb, fun H a ns hl _ hS => ⟨a, ns, rfl, hS, hl, fun _ => rfl⟩, hF⟩

