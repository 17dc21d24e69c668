import PyProof.Rows.All
import Wide.All
import OpenK.AllK
import Wide.FinOn
import HandS.ForMost
import HandS.ExcInit
import HandS.Defaults
import HandS.WordsExc
import HandS.Wide
import HandS.EndBits
import HandS.Head0
import HandS.Head1
import HandS.Head2
import HandS.HeadEnd
import HandS.HeadHook1
import HandS.HeadHook2
import KE.KExcInit
import KE.KExcIs
import PyProof.ExcBaseAll.ValueError
import PyProof.ExcBaseAll.LookupError
import PyProof.ReprRoads
import HandS.ExcIs
import HandS.ExcField
import HandS.ExcCtx
import HandS.ExcInitHot
import HandS.HotCalls
import HandS.Star
import KE.GoesMore
import HandS.Walk
import PyProof.FitsInt
import HandS.IsInst
import HandS.Small
import HandS.SortKw
import KE.KOpsOwn
import KE.DataMinMax
import HandS.TupAny
import HandS.SortRule
import HandS.Conv
import HandS.SortOrd
import KE.SortData
import PyProof.Claim2Refuses
import HandS.Flow
import HandS.SortInts
import PySem.Challenge.RW_rowsinplace_k04_whole_faults_of_slides
set_option Elab.async false
set_option maxRecDepth 100000
set_option maxHeartbeats 2000000
/-! A hook of our own: one Bool over the written part, and the defs by their places. -/
namespace KX
open PySem PySem.Spec PyProof.Rows L2 He
def lookX (n : Nat) (chk : PySem.W.Frag → Bool) (fn : List DefD) (g : Addr → Option Obj) : Bool × List FnW :=
  let K := frG g (asD g n)
  (chk K && fn.all fun d => d.ok K, fn.map fun d => fnW K d.at_)
def SaysX (chk : PySem.W.Frag → Bool) (fn : List DefD) (K : PySem.W.Frag) : Prop := chk K = true ∧ (fn.all fun d => d.ok K) = true ∧ fn.map (fun d => fnW K d.at_) = fn.map DefD.val
def hookX (n : Nat) (chk : PySem.W.Frag → Bool) (fn : List DefD) : PySem.W.Hook where
  α := Bool × List FnW
  obs := fun s => lookX n chk fn s.heap.get?
  val := fun _ => (true, fn.map DefD.val)
  says := fun _ h => ∃ K : PySem.W.Frag, K.In h ∧ SaysX chk fn K
  of := fun _ s e => by
    refine ⟨frG s.heap.get? (asD s.heap.get? n), frG_in, ?_⟩
    have e1 := congrArg Prod.fst e
    have e2 := congrArg Prod.snd e
    obtain ⟨a, b⟩ := Bool.and_eq_true_iff.mp e1
    exact ⟨a, b, e2⟩
  keeps := fun _ _ _ h k => by
    obtain ⟨K, hK, c⟩ := h
    exact ⟨K, PySem.W.Frag.In.keeps hK k, c⟩
theorem lookX_eq {n : Nat} {chk : PySem.W.Frag → Bool} {fn : List DefD} {g : Addr → Option Obj} {s : Shared} (h : ∀ a, g a = s.heap.get? a) : lookX n chk fn g = (hookX n chk fn).obs s := by
  obtain rfl : g = s.heap.get? := funext h
  rfl
theorem SaysX.fd {chk : PySem.W.Frag → Bool} {fn : List DefD} {K : PySem.W.Frag} (c : SaysX chk fn K) (i : Nat) {d : DefD} (h : fn[i]? = some d := by rfl) :
    ∃ fd, FunD K d.name d.qual d.params d.body d.scope (d.dvs K) (d.kws K) (fAd K d.at_) fd := by
  obtain ⟨_, c2, c3⟩ := c
  have q : (fn.map fun d => fnW K d.at_)[i]? = (fn.map DefD.val)[i]? := congrArg (·[i]?) c3
  rw [List.getElem?_map, List.getElem?_map, h] at q
  exact DefD.funD (Option.some.inj q) (List.all_eq_true.mp c2 d (List.mem_of_getElem? h))
end KX

set_option Elab.async false
set_option maxRecDepth 100000
set_option maxHeartbeats 2000000
/-! What the written part says of an own exception class with an __init__ of its own, as one Bool. -/
namespace KX
open PySem PySem.Spec PyProof.Rows L2 He
structure ExK (K : PySem.W.Frag) (C : Addr) (bmB : List Value) (newId : String) : Prop where
  init : PySem.W.excInitIn K C bmB newId = true
  over : PySem.W.excOver K C bmB = true
  hd : PySem.W.hasDictIn K C = true
  sa : PySem.W.findIn K (.ref C) "__setattr__" = some (some (.builtin "object.__setattr__"))
  ga : PySem.W.findIn K (.ref C) "__getattribute__" = some (some (.builtin "BaseException.__getattribute__"))
  gg : PySem.W.findIn K (.ref C) "__getattr__" = some none
  exC : PySem.W.subIn K (.ref C) (.type "BaseException") = some true
  kC : PySem.W.keepIn K (.ref C) = true
  ha : PySem.W.findIn K (.ref C) "__class__" = some (some (.builtin "object.__class__"))
  hm : PySem.W.mroIn K C (.type "object") = some true
def exkB (K : PySem.W.Frag) (C : Addr) (bmB : List Value) (newId : String) : Bool :=
  PySem.W.excInitIn K C bmB newId && (PySem.W.excOver K C bmB && (PySem.W.hasDictIn K C && (eqO (PySem.W.findIn K (.ref C) "__setattr__") (some (some (.builtin "object.__setattr__")))
  && (eqO (PySem.W.findIn K (.ref C) "__getattribute__") (some (some (.builtin "BaseException.__getattribute__"))) && (eqO (PySem.W.findIn K (.ref C) "__getattr__") (some none)
  && (decide (PySem.W.subIn K (.ref C) (.type "BaseException") = some true) && (PySem.W.keepIn K (.ref C) && (eqO (PySem.W.findIn K (.ref C) "__class__") (some (some (.builtin "object.__class__"))) && decide (PySem.W.mroIn K C (.type "object") = some true)))))))))
theorem exkB_ok {K : PySem.W.Frag} {C : Addr} {bmB : List Value} {newId : String} (h : exkB K C bmB newId = true) : ExK K C bmB newId := by
  obtain ⟨h1, h⟩ := Bool.and_eq_true_iff.mp h
  obtain ⟨h2, h⟩ := Bool.and_eq_true_iff.mp h
  obtain ⟨h3, h⟩ := Bool.and_eq_true_iff.mp h
  obtain ⟨h4, h⟩ := Bool.and_eq_true_iff.mp h
  obtain ⟨h5, h⟩ := Bool.and_eq_true_iff.mp h
  obtain ⟨h6, h⟩ := Bool.and_eq_true_iff.mp h
  obtain ⟨h7, h⟩ := Bool.and_eq_true_iff.mp h
  obtain ⟨h8, h⟩ := Bool.and_eq_true_iff.mp h
  obtain ⟨h9, hA⟩ := Bool.and_eq_true_iff.mp h
  exact ⟨h1, h2, h3, eqO_ok h4, eqO_ok h5, eqO_ok h6, of_decide_eq_true h7, h8, eqO_ok h9, of_decide_eq_true hA⟩
end KX

set_option Elab.async false
set_option maxRecDepth 100000
set_option maxHeartbeats 2000000
/-! Own exception classes over any built-in base, with an __init__ that stores: made as values, read, asked by isinstance. -/
namespace KX
open PySem PySem.Spec PyProof.Rows L2
/-- what is known of the built-in base -/
def Bs (bmB : List Value) (newId : String) : Prop := ∃ B initId, ExcBaseFacts B newId initId bmB ∧ StoreFacts B bmB "object.__setattr__" "object"
theorem bsV : Bs [.type "ValueError", .type "Exception", .type "BaseException", .type "object"] "ValueError.__new__" := ⟨_, _, PySem.F.excBase_ValueError, PySem.F.store_ValueError⟩
theorem bsL : Bs [.type "LookupError", .type "Exception", .type "BaseException", .type "object"] "LookupError.__new__" := ⟨_, _, PySem.F.excBase_LookupError, PySem.F.store_LookupError⟩
section
open Builtin Builtin.ObjectAttr
variable {prog : Program} {w : World} {A : Around} {R : Result → Shared → Prop} {hp : Heap} {g : Array GenState} {dw : Drawn} {tt : Nat} {os : OsState} {K : PySem.W.Frag} {C x t1 : Addr} {bmB : List Value} {newId : String} {f : Str} {tk : Tok} {v : Value}
/-- the first store lays the dict -/
theorem put_first (T : ExK K C bmB newId) (bs : Bs bmB newId) (X : K.In hp) (hx : hp.get? x = some ({ cls := .ref C, dict := none, data := .fields #[.ref t1, .none, .none, .none, .bool false, .none] } : Obj)) (hno : PySem.W.findIn K (.ref C) f = some none)
    (hq : ∀ h' tk' dx, (∀ b o, b ≠ x → hp.get? b = some o → h'.get? b = some o) → hp.objs.size ≤ dx → dx ≠ x → h'.get? x = some ({ cls := .ref C, dict := some dx, data := .fields #[.ref t1, .none, .none, .none, .bool false, .none] } : Obj) →
      h'.Ns1 dx (fun y => if y = f then some v else none) → R (.ok (.ret .none)) ⟨h', g, dw, tk', os⟩) :
    codeAny (model prog w) A (.call (.builtin "object.__setattr__") ⟨[.ref x, .str f tk, v], []⟩) R ⟨hp, g, dw, tt, os⟩ := by
  obtain ⟨B, iid, _, SF⟩ := bs
  have hxs : x ≠ hp.objs.size := Nat.ne_of_lt (Heap.lt_size hx)
  refine PySem.W.osa_openX (s := ⟨hp, g, dw, tt, os⟩) (od := none) (r := none) SF X ⟨hx, rfl, rfl, trivial⟩ T.over (by unfold PySem.W.takerIn; rw [hno] <;> rfl) fun b => ?_
  obtain ⟨cd, hc, hd⟩ := PySem.W.any_some T.hd
  have hcls : PySem.W.Looks (model prog w) hp (classData C) cd := PySem.W.looks_clsIn X hc
  refine wpAny_bind (wpAny_pure (wpAny_bind (PySem.W.instanceDict_exc (s := ⟨hp, g, dw, tt, os⟩) hx hcls hd ?_)))
  refine HandSPX.store_in_new ?_ ?_
  · exact ⟨_, #[], _, (Heap.get?_update_ne _ _ _ _ hxs.symm).trans (Heap.get?_push_at rfl rfl), rfl, fun e he => absurd he (by simp), fun _ => rfl⟩
  · intro h' tk' hn' hs
    have hx1 : (hp.push { cls := .type "dict", data := .dict #[] }).get? x = _ := Heap.get?_push_of_some _ hx
    refine hq h' tk' hp.objs.size (fun b o hb ho => ?_) (Nat.le_refl _) hxs.symm ?_ hn'
    · have z := hs.2 b (Nat.ne_of_lt (Heap.lt_size ho))
      exact z.trans ((Heap.get?_update_ne _ _ _ _ hb).trans (Heap.get?_push_of_some _ ho))
    · exact (hs.2 x hxs).trans (Heap.get?_update_self _ hx1 rfl)
/-- a later one -/
theorem put_more {dx : Addr} {m0 : Str → Option Value} {nl : List Str} (T : ExK K C bmB newId) (bs : Bs bmB newId) (X : K.In hp) (hx : hp.get? x = some ({ cls := .ref C, dict := some dx, data := .fields #[.ref t1, .none, .none, .none, .bool false, .none] } : Obj))
    (hns : hp.Ns1 dx m0) (hw : Within m0 nl) (hz : nl.length ≤ 1000) (hno : PySem.W.findIn K (.ref C) f = some none)
    (hq : ∀ h' tk', (∀ b o, b ≠ dx → hp.get? b = some o → h'.get? b = some o) → h'.Ns1 dx (fun y => if y = f then some v else m0 y) → R (.ok (.ret .none)) ⟨h', g, dw, tk', os⟩) :
    codeAny (model prog w) A (.call (.builtin "object.__setattr__") ⟨[.ref x, .str f tk, v], []⟩) R ⟨hp, g, dw, tt, os⟩ := by
  obtain ⟨B, iid, _, SF⟩ := bs
  obtain ⟨oD, esD, epD, hoD, hdD, _⟩ := hns.count hw
  refine PySem.W.osa_openX (s := ⟨hp, g, dw, tt, os⟩) (od := some oD) (r := none) SF X ⟨hx, rfl, rfl, hoD⟩ T.over (by unfold PySem.W.takerIn; rw [hno] <;> rfl) fun b => ?_
  obtain ⟨cd, hc, hd⟩ := PySem.W.any_some T.hd
  have hcls : PySem.W.Looks (model prog w) hp (classData C) cd := PySem.W.looks_clsIn X hc
  obtain ⟨c1, c2, c3, c4, c5, c6, c7, c8, c9, cA, cB⟩ := cd
  dsimp only at hd
  subst hd
  show wpAny _ _ (storeInOwnDict _ _ _ _ _ _) _ _ _
  unfold storeInOwnDict ownDictForStores
  repeat (first | with_reducible refine PySem.OEX.store_in_old hns hw hz ?_ | with_reducible refine wpAny_loadPart_at hx ?_ | with_reducible refine hcls.at ?_ | wp_step)
  intro h' tk' hn' hs
  exact hq h' tk' (fun b o hb ho => (hs.2 b hb).trans ho) hn'
end
section
variable {X : Cx} {pins : List (Addr × Obj)} {σ : L2.St} {H : Hp} {s : Shared} {a C dx : Addr} {f : Str} {y : V} {u : Value} {fs : List (Str × V)} {Q : Unit → Shared → Prop} {E : Value → Shared → Prop} {A : Around} {bmB : List Value} {newId : String}
/-- an exception's object gets a dict that is new -/
theorem inv_dict {h' : Heap} {tk : Nat} {t1 : Addr} {od : HO} (I : Inv X pins σ H s) (e : H a = some (exo a C none)) (k : ∀ b o, b ≠ a → s.heap.get? b = some o → h'.get? b = some o) (dn : s.heap.objs.size ≤ dx) (dne : dx ≠ a)
    (hx : h'.get? a = some ({ cls := .ref C, dict := some dx, data := .fields #[.ref t1, .none, .none, .none, .bool false, .none] } : Obj)) (new : ∀ G : Hp, ObjOk X.prog X.w G h' dx od) :
    Inv X pins σ (upd (upd H dx od) a (exo a C (some dx))) { s with heap := h', toks := tk } := by
  have hnd : H dx = none := I.hok.fresh dn
  have hH : ∀ b, b ≠ a → b ≠ dx → upd (upd H dx od) a (exo a C (some dx)) b = H b := fun b n1 n2 => (upd_ne n1).trans (upd_ne n2)
  have na : ∀ b, H b = none → b ≠ a := fun b n z => by
    subst z
    exact nomatch n.symm.trans e
  have nd : ∀ b o, s.heap.get? b = some o → b ≠ dx := fun b o q => Nat.ne_of_lt (Nat.lt_of_lt_of_le (Heap.lt_size q) dn)
  have nk : ∀ b o, H b = some o → o ≠ exo a C none → upd (upd H dx od) a (exo a C (some dx)) b = some o := fun b o q n => by
    rw [hH b (ne_of q e n) (ne_of_none q hnd)]
    exact q
  refine I.un ⟨fun b o q n _ _ => k b o (na b n) q, fun b o q n _ _ => ⟨o.slots, k b o (na b n) q⟩, fun b o q n _ => ?_, fun b o q _ => ?_, fun b xs q => nk b _ q (Ne.symm exo_tup), fun b o v q => nk b _ q (Ne.symm exo_frz), fun b ps q => ⟨#[], ?_⟩⟩ fun b o q => ?_
  · rw [hH b (na b n) (nd b o q)]
    exact n
  · by_cases hb : b = a
    · subst hb
      exact ⟨_, hx⟩
    · exact ⟨o, k b o hb q⟩
  · rw [nk b _ q (Ne.symm exo_tbl)]
    simp
  · by_cases hb : b = a
    · subst hb
      obtain rfl := Option.some.inj (upd_same.symm.trans q)
      exact exo_ok hx
    · rw [upd_ne hb] at q
      by_cases hd : b = dx
      · subst hd
        obtain rfl := Option.some.inj (upd_same.symm.trans q)
        exact new _
      · rw [upd_ne hd] at q
        refine (I.hok b o q).stay (fun c v hc z => k c v ?_ z) (fun c hc => nk c _ hc (Ne.symm exo_own)) fun c xs hc => nk c _ hc (Ne.symm exo_tup)
        rcases hc with rfl | hc
        · exact hb
        · exact ne_of hc e (Ne.symm exo_own)
/-- self.f = y, the first one -/
theorem st_first (T : ExK X.K C bmB newId) (bs : Bs bmB newId) (I : Inv X pins σ H s) (e : H a = some (exo a C none)) (hno : PySem.W.findIn X.K (.ref C) f = some none) (ry : RelV y u)
    (h : ∀ d s', H d = none → d ≠ a → Inv X pins σ (upd (upd H d (exd d [(f, y)])) a (exo a C (some d))) s' → Q () s') : wpAny (model X.prog X.w) A (setAttr (.ref a) f u) Q E s := by
  obtain ⟨t1, ho⟩ := exo_at I.hok e
  obtain ⟨hp, g, d, t, os⟩ := s
  refine PySem.W.set_plain (od := none) I.kIn ⟨ho, rfl, rfl, trivial⟩ T.sa ?_
  refine put_first T bs I.kIn ho hno fun h' tk' dx k dn dne hx hn => ?_
  exact h dx _ (I.hok.fresh dn) dne (inv_dict I e k dn dne hx fun G => exd_ok hn (relO_put (fs := []) ry fun _ => True.intro))
/-- self.f = y, a further one -/
theorem st_more (T : ExK X.K C bmB newId) (bs : Bs bmB newId) (I : Inv X pins σ H s) (e : H a = some (exo a C (some dx))) (ed : H dx = some (exd dx fs)) (hl : fs.length ≤ 900) (hno : PySem.W.findIn X.K (.ref C) f = some none) (ry : RelV y u)
    (h : ∀ s', Inv X pins σ (upd H dx (exd dx ((f, y) :: fs))) s' → Q () s') : wpAny (model X.prog X.w) A (setAttr (.ref a) f u) Q E s := by
  obtain ⟨t1, ho⟩ := exo_at I.hok e
  obtain ⟨mA, hns, rel⟩ := exd_at I.hok ed
  have hw := within_of rel
  obtain ⟨hp, g, d, t, os⟩ := s
  obtain ⟨oD, _, _, hoD, _⟩ := hns.count hw
  refine PySem.W.set_plain (od := some oD) I.kIn ⟨ho, rfl, rfl, hoD⟩ T.sa ?_
  refine put_more T bs I.kIn ho hns hw (by rw [List.length_map]; omega) hno fun h' tk' k hn => ?_
  have hd : ∃ o, h'.get? dx = some o := let ⟨o, _, _, z, _⟩ := hn; ⟨o, z⟩
  exact h _ (I.write (t' := tk') (e := dx) (by rw [ed]; exact True.intro) (.inl rfl) k hd (exd_ok hn (relO_put ry rel)))
end
/-- self.f = e -/
def tSt (K : PySem.W.Frag) (f : Str) (to te : TE) : TS := fun D σ H => te σ H fun y H1 => to σ H1 fun x H2 => ∃ (a C : Addr) (bmB : List Value) (newId : String), x = .ref a ∧ ExK K C bmB newId ∧ Bs bmB newId ∧ PySem.W.findIn K (.ref C) f = some none ∧
  ((H2 a = some (exo a C none) ∧ ∀ d, H2 d = none → d ≠ a → D.nx σ (upd (upd H2 d (exd d [(f, y)])) a (exo a C (some d)))) ∨
    ∃ (d : Addr) (fs : List (Str × V)), H2 a = some (exo a C (some d)) ∧ H2 d = some (exd d fs) ∧ fs.length ≤ 900 ∧ D.nx σ (upd H2 d (exd d ((f, y) :: fs))))
/-- C(e, ..) as a value -/
def tMkV (C : Addr) (sp : Sp) (ta : TA) : TE := fun σ H Q => ta σ H fun vs H1 => vs.length ≤ 1000 ∧ ∀ a, H1 a = none → sp (.ref a :: vs) (upd H1 a (exo a C none)) (fun v H2 => v = .non ∧ Q (.ref a) H2) (fun _ _ _ => False)
/-- e.f of an own exception -/
def tXv (K : PySem.W.Frag) (f : Str) (te : TE) : TE := fun σ H Q => te σ H fun x H1 => ∃ (a C d : Addr) (bmB : List Value) (newId : String) (fs : List (Str × V)) (v : V), x = .ref a ∧ H1 a = some (exo a C (some d)) ∧ H1 d = some (exd d fs) ∧ ExK K C bmB newId ∧ PySem.W.findIn K (.ref C) f = some none ∧ fs.lookup f = some v ∧ Q v H1
section
variable {X : Cx} {o e : Expr} {es : List Expr} {to te : TE} {ta : TA} {f : Str} {p p' p1 p2 pos : Pos}
theorem ps_st (ho : PE X o to) (he : PE X e te) (hs : swapsWith e (some (.Attribute o f p')) pos.line X.env = pure false := by rfl) : PS X (.Assign [.Attribute o f p'] e pos) (tSt X.K f to te) := by
  refine ⟨fun pins s σ H D I h => plainObj_wpAny_Assign_Attribute (thn (he.run pins s σ H _ I h) fun v s1 ⟨y, H1, I1, r1, q1⟩ => thn (ho.run pins s1 σ H1 _ I1 q1) fun u s2 hh => ?_) hs⟩
  obtain ⟨x, H2, I2, r2, a, C, bmB, nid, rfl, T, bs, hno, q⟩ := hh
  obtain rfl : u = Value.ref a := r2
  rcases q with ⟨ea, q⟩ | ⟨d, fs, ea, ed, hl, q⟩
  · exact st_first T bs I2 ea hno r1 fun d s' n ne J => ⟨σ, _, J, q d n ne⟩
  · exact st_more T bs I2 ea ed hl hno r1 fun s' J => ⟨σ, _, J, q⟩
theorem pe_mkv {CX : CXT} {x : Str} {C fI : Addr} {k : Nat} {fd : FuncData} {ps : List Str} {sp : Sp} {bmB : List Value} {newId : String} (T : ExK X.K C bmB newId) (bs : Bs bmB newId) (iC : PySem.W.findIn X.K (.ref C) "__init__" = some (some (.ref fI))) (tI : PySem.W.isFn X.K (.ref fI) = true)
    (G : FnOk X.prog X.w X.K X.mg X.base CX k fI fd ps sp) (hr : Room (k + 1) X.A) (hb : Binds X.K fd ps []) (hx : Passes CX X (fun _ _ _ => False)) (hg : Gl X x) (hm : X.mg x = some (.ref C)) (ha : PA X (e :: es) ta)
    (hdb : (x == ("__debug__" : Str)) = false := by decide) (he : starEach (e :: es) X.env = (false, eval e X.env) :: starEach es X.env := by rfl) (hpl : (backTo pos (starEach es X.env)).any (·.1) = false := by rfl) :
    PE X (.Call (.Name x p) (e :: es) [] pos) (tMkV C sp ta) := by
  refine ⟨fun pins s σ H Q I h => ?_⟩
  refine wpAny_Call_Name_kw (ld_glob I hg hm ?_ hdb)
  refine PySem.W.callWith_K (h₀ := X.base) I.ok.mod.kin T.kC (thn (ha.run pos pins s σ H _ I h) fun us s1 hh => ?_) he hpl
  obtain ⟨vs, H1, I1, r1, hz, q1⟩ := hh
  refine ⟨I1.kIn, ?_⟩
  obtain ⟨B, iid, FB, SF⟩ := bs
  obtain ⟨nm, N', qn, bs', bm, hdct, sn, sub, ab, col, dd, k0, k1, k2, k3, k5, hC, hT⟩ := PySem.W.excInit_of I1.kIn T.init
  obtain ⟨oI, hoI, hcI⟩ : ∃ oI, s1.heap.get? fI = some oI ∧ oI.cls = .type "function" := by
    obtain ⟨oo, h1, h2⟩ := Option.map_eq_some_iff.mp (show (X.K.lookup fI).map (·.cls) = some (.type "function") from beq_iff_eq.mp tI)
    exact ⟨oo, I1.kIn _ _ h1, h2⟩
  obtain ⟨hp, g, dr, tk, os⟩ := s1
  have kk : ∀ b u, hp.get? b = some u → ((hp.push (PySem.W.kdv_tup us)).push (PySem.HandSPX.excO C hp.objs.size)).get? b = some u := fun b u z => Heap.get?_push_of_some _ (Heap.get?_push_of_some _ z)
  have hget : ((hp.push (PySem.W.kdv_tup us)).push (PySem.HandSPX.excO C hp.objs.size)).get? (hp.objs.size + 1) = some (PySem.HandSPX.excO C hp.objs.size) := by heap_get
  have I2 : Inv X pins σ (upd H1 (hp.objs.size + 1) (exo (hp.objs.size + 1) C none)) ⟨(hp.push (PySem.W.kdv_tup us)).push (PySem.HandSPX.excO C hp.objs.size), g, dr, tk, os⟩ := I1.laid (t' := tk) kk (Nat.le_succ _) (exo_ok hget)
  have hq := q1 (hp.objs.size + 1) (I1.hok.fresh (Nat.le_succ _))
  have r2 : Vals (V.ref (hp.objs.size + 1) :: vs) (Value.ref (hp.objs.size + 1) :: us) := .cons rfl r1
  have hl : (Value.ref (hp.objs.size + 1) :: us ++ []).length = ps.length := by
    rw [List.append_nil, ← r2.length]
    exact G.len _ _ _ _ hq
  have hus : us.length ≤ sizeLine := by
    rw [← Paired.length r1, sizeLine_eq]
    omega
  have hbi := hb _ (Value.ref (hp.objs.size + 1) :: us) I2.kIn hl
  rw [List.append_nil] at hbi
  refine wpAny_call (PySem.HandSPX.call_own FB hT hC (PySem.W.looks_findIn I1.kIn iC) (fun self => PySem.W.exc_bind hoI hcI self) hus (codeAny_mono (G.run _ X.stack _ _ _ _ _ _ (fun _ _ _ => False) (hr.make C us []) (I2.env0.make C us []) hbi r2 hq) fun r s' hq' => ?_))
  cases r with
  | error er => exact hx pins σ _ _ er s' I2 hq'
  | ok fl =>
    cases fl with
    | ret u =>
      obtain ⟨v, H2, os2, bare2, un2, hok2, rv, rfl, q2⟩ := hq'
      exact ⟨rv, .ref (hp.objs.size + 1), H2, I2.call' (ch := []) os2 un2 hok2 bare2 (fun b z => absurd z (by simp)), rfl, q2⟩
    | next => exact False.elim hq'
    | brk => exact False.elim hq'
    | cont => exact False.elim hq'
theorem pe_xv (he : PE X e te) (hb : attributeBase e f X.env (eval e X.env) = eval e X.env := by rfl) : PE X (.Attribute e f pos) (tXv X.K f te) := by
  refine ⟨fun pins s σ H Q I h => attr_of hb (thn (he.run pins s σ H _ I h) fun u s1 hh => ?_)⟩
  obtain ⟨x, H1, I1, rx, a, C, d, bmB, nid, fs, v, rfl, ea, ed, T, hno, l, q⟩ := hh
  obtain rfl : u = Value.ref a := rx
  obtain ⟨t1, ho⟩ := exo_at I1.hok ea
  obtain ⟨mA, hns, rel⟩ := exd_at I1.hok ed
  obtain ⟨od, h1, h2⟩ := lookIn_ns hns
  obtain ⟨u, hu, ru⟩ := RelO.some_of (v := v) (o := mA f) (by rw [← l]; exact rel f)
  exact HandSPX.exc_get I1.kIn ⟨ho, rfl, rfl, h1⟩ T.ga T.gg T.exC (PySem.W.findObj_own T.hd hno rfl (by rw [h2, hu])) (handed_of ru) ⟨v, H1, I1.tok _, ru, q⟩
end
end KX

set_option Elab.async false
set_option maxRecDepth 100000
set_option maxHeartbeats 2000000
/-! repr of nested data where no repr is running yet; isinstance of an own exception; defs that want to know that no repr is running. -/
namespace KX
open PySem PySem.Spec PyProof.Rows L2
/-- repr(data) -/
def rRepr (K : PySem.W.Frag) : List V → Hp → VK → Prop := fun xs H Q => ∃ (a : Addr) (d : PyData), xs = [.ref a] ∧ Dp K H (.ref a) d ∧ d.showable = true ∧ d.hasDict = false ∧ d.depth ≤ 8 ∧ d.shown.length ≤ sizeLine ∧ Q (.str d.shown) H
theorem call_repr {X : Cx} (hg : X.A.guards = some []) (hu : X.A.units + 10 < cLine) : CallR X (.builtin "repr") (rRepr X.K) := by
  intro pins s σ H xs us Q I r h
  obtain ⟨a, d, rfl, hd, h1, h2, h3, h4, q⟩ := h
  obtain ⟨u, rfl, ru⟩ := vals1 r
  obtain rfl : u = Value.ref a := ru
  obtain ⟨as, rd⟩ := Dp.reads I d _ _ hd rfl
  exact repr_of_reads' rd h1 (PyData.noDict_hsm h2) hg (by omega) (fun _ _ e => e) (fun h' u tk hk => ⟨.str d.shown, H, I.kept (t' := tk) hk, ⟨_, rfl⟩, q⟩) h4
/-- isinstance(e, c) of an own exception e -/
def rIsX (K : PySem.W.Frag) : List V → Hp → VK → Prop := fun xs H Q => ∃ (a C d : Addr) (bmB : List Value) (nid : String) (fs : List (Str × V)) (c : V) (cv : Value) (b : Bool), xs = [.ref a, c] ∧ H a = some (exo a C (some d)) ∧ H d = some (exd d fs) ∧ ExK K C bmB nid ∧
  PySem.W.specialIn K (.builtin "object.__class__") "__get__" = some (some (.builtin "getset_descriptor.__get__")) ∧ PySem.W.takesIn K (.builtin "object.__class__") = some true ∧ (∀ u, RelV c u → u = cv) ∧ PySem.W.kitOne K (.ref C) cv = some b ∧ Q (.bl b) H
theorem call_isX {X : Cx} : CallR X (.builtin "isinstance") (rIsX X.K) := by
  intro pins s σ H xs us Q I r h
  obtain ⟨a, C, d, bmB, nid, fs, c, cv, b, rfl, ea, ed, T, sp, tk, hcv, e, q⟩ := h
  cases r with
  | cons rx rr => cases rr with
    | cons rt rr =>
      cases rr
      cases rx
      obtain rfl := hcv _ rt
      obtain ⟨t1, ho⟩ := exo_at I.hok ea
      obtain ⟨mA, hns, rel⟩ := exd_at I.hok ed
      obtain ⟨od, h1, _⟩ := lookIn_ns hns
      obtain ⟨cd, hc, _⟩ := PySem.W.any_some T.hd
      exact PySem.W.kia_one (PySem.W.kitx_exc (od := some od) (by rw [hc] <;> rfl) T.ga T.gg T.exC T.ha sp tk T.hm) I.kIn ⟨ho, rfl, rfl, h1⟩ e (fun z => nomatch z) fun tk' => ⟨.bl b, H, I.kept (t' := tk') fun _ _ z => z, rfl, q⟩
end KX

set_option Elab.async false
set_option maxRecDepth 100000
set_option maxHeartbeats 2000000
/-! Own exceptions raised with what they keep, caught with the context None; isinstance of a caught one that has a dict; defs called in the suite; C() of a class with *rest. -/
namespace KX
open PySem PySem.Spec PyProof.Rows L2 StX
theorem mk_endN {X : Cx} {pins : List (Addr × Obj)} {σ : L2.St} {H1 H2 : Hp} {Q : XK} {hp hp2 h2 : Heap} {g1 g2 : Array GenState} {d1 d2 : Drawn} {t1 t2 : Nat} {os1 os2 : OsState} {a C d : Addr} {fs : List (Str × V)} (T : Raises X (.ref C)) (I1 : Inv X pins σ H1 ⟨hp, g1, d1, t1, os1⟩)
    (ha : hp.objs.size ≤ a) (k : ∀ b o, hp.get? b = some o → hp2.get? b = some o) (un : Un (frs X.stack) [] (upd H1 a (exo a C none)) H2 hp2 h2) (hok : HOk X.prog X.w H2 h2) (ho : os2 = os1) (hb : AllBare g2)
    (ea : H2 a = some (exo a C (some d))) (ed : H2 d = some (exd d fs)) (hd1 : H1 d = none) (q : Q (.ref C) (some d) (upd (del H2 a) d (.xd fs))) : L2N.MkP X pins σ Q (.ref a) ⟨h2, g2, d2, t2, os2⟩ := by
  obtain ⟨t0, G, J, kG, ge, hoe, na⟩ := mk_end0 (d2 := d2) (t2 := t2) I1 ha k un hok ho hb ea ed hd1
  exact ⟨a, _, _, ⟨G, g2, d2, t2, os2⟩, _, .ref C, some d, rfl, J, kG, ge, hoe, ⟨rfl, rfl, fun vs e => by cases e; rfl⟩, rfl, rfl, na, rfl, hb, T, q⟩
section
variable {X : Cx} {CX : CXT} {x : Str} {C fI : Addr} {k : Nat} {fd : FuncData} {ps : List Str} {sp : Sp} {e : Expr} {es : List Expr} {ta : TA} {p pos : Pos}
theorem pmk_x {bmB : List Value} {newId : String} (T : ExK X.K C bmB newId) (tyC : PySem.W.typeIn X.K (.ref C) = some (.type "type")) (bs : Bs bmB newId) (iC : PySem.W.findIn X.K (.ref C) "__init__" = some (some (.ref fI))) (tI : PySem.W.isFn X.K (.ref fI) = true)
    (G : FnOk X.prog X.w X.K X.mg X.base CX k fI fd ps sp) (hr : Room (k + 1) X.A) (hb : Binds X.K fd ps []) (hx : Passes CX X (fun _ _ _ => False)) (hg : Gl X x) (hm : X.mg x = some (.ref C)) (ha : PA X (e :: es) ta)
    (hdb : (x == ("__debug__" : Str)) = false := by decide) (he : starEach (e :: es) X.env = (false, eval e X.env) :: starEach es X.env := by rfl) (hpl : (backTo pos (starEach es X.env)).any (·.1) = false := by rfl) :
    L2N.PMk X (.Call (.Name x p) (e :: es) [] pos) (tMkO C sp [] ta) := by
  intro pins s σ H Q I h
  refine wpAny_Call_Name_kw (ld_glob I hg hm ?_ hdb)
  refine PySem.W.callWith_K (h₀ := X.base) I.ok.mod.kin T.kC (thn (ha.run pos pins s σ H _ I h) fun us s1 hh => ?_) he hpl
  obtain ⟨vs, H1, I1, r1, hz, q1⟩ := hh
  refine ⟨I1.kIn, ?_⟩
  obtain ⟨B, iid, FB, SF⟩ := bs
  obtain ⟨nm, N', qn, bs', bm, hdct, sn, sub, ab, col, dd, k0, k1, k2, k3, k5, hC, hT⟩ := PySem.W.excInit_of I1.kIn T.init
  obtain ⟨oI, hoI, hcI⟩ : ∃ oI, s1.heap.get? fI = some oI ∧ oI.cls = .type "function" := by
    obtain ⟨oo, h1, h2⟩ := Option.map_eq_some_iff.mp (show (X.K.lookup fI).map (·.cls) = some (.type "function") from beq_iff_eq.mp tI)
    exact ⟨oo, I1.kIn _ _ h1, h2⟩
  obtain ⟨hp, g, dr, tk, os⟩ := s1
  have kk : ∀ b u, hp.get? b = some u → ((hp.push (PySem.W.kdv_tup us)).push (PySem.HandSPX.excO C hp.objs.size)).get? b = some u := fun b u z => Heap.get?_push_of_some _ (Heap.get?_push_of_some _ z)
  have hget : ((hp.push (PySem.W.kdv_tup us)).push (PySem.HandSPX.excO C hp.objs.size)).get? (hp.objs.size + 1) = some (PySem.HandSPX.excO C hp.objs.size) := by heap_get
  have I2 : Inv X pins σ (upd H1 (hp.objs.size + 1) (exo (hp.objs.size + 1) C none)) ⟨(hp.push (PySem.W.kdv_tup us)).push (PySem.HandSPX.excO C hp.objs.size), g, dr, tk, os⟩ := I1.laid (t' := tk) kk (Nat.le_succ _) (exo_ok hget)
  have hq := q1 (hp.objs.size + 1) (I1.hok.fresh (Nat.le_succ _))
  rw [List.append_nil] at hq
  have r2 : Vals (V.ref (hp.objs.size + 1) :: vs) (Value.ref (hp.objs.size + 1) :: us) := .cons rfl r1
  have hl : (Value.ref (hp.objs.size + 1) :: us ++ []).length = ps.length := by
    rw [List.append_nil, ← r2.length]
    exact G.len _ _ _ _ hq
  have hus : us.length ≤ sizeLine := by
    rw [← Paired.length r1, sizeLine_eq]
    omega
  have hbi := hb _ (Value.ref (hp.objs.size + 1) :: us) I2.kIn hl
  rw [List.append_nil] at hbi
  refine wpAny_call (PySem.HandSPX.call_own FB hT hC (PySem.W.looks_findIn I1.kIn iC) (fun self => PySem.W.exc_bind hoI hcI self) hus (codeAny_mono (G.run _ X.stack _ _ _ _ _ _ (fun _ _ _ => False) (hr.make C us []) (I2.env0.make C us []) hbi r2 hq) fun r s' hq' => ?_))
  cases r with
  | error er => exact hx pins σ _ _ er s' I2 hq'
  | ok fl =>
    cases fl with
    | ret u =>
      obtain ⟨v, H2, os2, bare2, un2, hok2, rv, ev, d, fs, ea, ed, hd1, q2⟩ := hq'
      subst ev
      obtain ⟨h2, g2, d2, t2, os'⟩ := s'
      exact ⟨rv, mk_endN (raises_own T.exC tyC) I1 (Nat.le_succ _) kk un2 hok2 os2 bare2 ea ed hd1 q2⟩
    | next => exact False.elim hq'
    | brk => exact False.elim hq'
    | cont => exact False.elim hq'
end
/-- isinstance(e, c), e the exception that the suite holds -/
theorem call_isEd {X : Cx} {a D d : Addr} {oe : Obj} {pn : List (Addr × Obj)} {bmB : List Value} {nid : String} (T : ExK X.K D bmB nid) (sp : PySem.W.specialIn X.K (.builtin "object.__class__") "__get__" = some (some (.builtin "getset_descriptor.__get__"))) (tk : PySem.W.takesIn X.K (.builtin "object.__class__") = some true)
    (hz : Zc (.ref D) (some d) oe) (hf : ∃ vs, oe.data = .fields vs) : CallR (X.suite a ((a, oe) :: pn)) (.builtin "isinstance") (fun xs H Q => (∃ fs, H d = some (.xd fs)) ∧ rIsE X.K D a xs H Q) := by
  intro pins s σ H xs us Q I r h
  obtain ⟨⟨fs, hd⟩, c, cv, b, rfl, hcv, e, q⟩ := h
  cases r with
  | cons rx rr =>
    cases rr with
    | cons rt rr =>
      cases rr
      cases rx
      have ec := hcv _ rt
      subst ec
      obtain ⟨hget, _⟩ := I.pin (a, oe) (List.mem_append.mpr (.inl List.mem_cons_self))
      obtain ⟨vs, hv⟩ := hf
      have hx : ObjOk X.prog X.w H s.heap d (.xd fs) := I.hok d _ hd
      obtain ⟨mA, hns, rel⟩ := hx
      obtain ⟨od, ho, _⟩ := lookIn_ns hns
      obtain ⟨cd, hc, _⟩ := PySem.W.any_some T.hd
      have J : PySem.W.InstAt s.heap a oe D (some od) := ⟨hget, hz.1, by unfold PySem.W.notCls; rw [hv] <;> rfl, by rw [hz.2]; exact ho⟩
      exact PySem.W.kia_one (PySem.W.kitx_exc (od := some od) (by rw [hc] <;> rfl) T.ga T.gg T.exC T.ha sp tk T.hm) I.kIn J e (fun z => nomatch z) fun tk' => ⟨.bl b, H, I.kept (t' := tk') fun _ _ z => z, rfl, q⟩
theorem cxUpN {P : Program} {w : World} : CXUp (L2N.CX P w) := by
  rintro outer s H s2 H2 E e s' un kp ho ⟨a, B, H', cls, d, ea, fl, hok, ub, na, os, ag, he⟩
  refine ⟨a, B, H', cls, d, ea, fl, hok, ⟨fun b o q n hb => ub.keep b o (kp b o q) (un.free b o q n (by simp)) hb, fun b o q hb => ub.slot b o (kp b o q) hb, fun b o q n => ub.free b o (kp b o q) (un.free b o q n (by simp)),
    fun b o q hb => ub.there b o (kp b o q) hb, fun b xs q => ub.tups b xs (un.tups b xs q), fun b o xs q => ub.frzs b o xs (un.frzs b o xs q), fun b ps q => ?_⟩, na, os.trans ho, ag, he⟩
  obtain ⟨m1, e1⟩ := un.tbls b ps q
  obtain ⟨m2, e2⟩ := ub.tbls b _ e1
  exact ⟨m1 ++ m2, by rw [e2, Array.append_assoc]⟩
theorem fnH_ok {P : Program} {w : World} {K : PySem.W.Frag} {mg : Str → Option Value} {base : Heap} {f : Addr} {x qual : Str} {params : Arguments} {body : List Stmt} {scope : Scope} {dvs : List V} {kws : List (Str × V)} {fd : FuncData} {CX : CXT} {N ps : List Str} {k : Nat} {sp : Sp}
    (F : FunD K x qual params body scope dvs kws f fd) (S : FnScope N ps scope) (len : ∀ vs H Q E, sp vs H Q E → vs.length = ps.length)
    (hbody : ∀ (cdv : Value) (A : Around) (outer : List Env) (s : Shared) (H : Hp) (vs : List V) (Q : VK) (E : XK) (p : Addr × Obj), L2H.Hot1 A p → L2H.RoomH k (A.deeper (envOfC qual scope s.heap.objs.size f cdv)) → sp vs H Q E →
      ∃ t, PSs (L2H.cxH CX P w K mg base N qual scope f cdv A outer s H E p) body t ∧ t { nx := fun _ H' => Q .non H', rt := Q } (start N vs) H) : L2H.FnH P w K mg base CX (k + 1) f fd ps sp := by
  obtain ⟨oc, od, dV, kV, doc, pm, an, cdv, ct, osl, rfl, lk, hcd, _, _⟩ := F.ex
  exact L2H.fn_ofH lk hcd S len fun A outer s H vs Q E p hot hr hsp => hbody cdv A outer s H vs Q E p hot hr hsp
theorem pe_makeR0 {X : Cx} {CX : CXT} {k : Nat} {f C : Addr} {sp : Sp} {E : XK} {x : Str} {p pos : Pos} (M : Mk X.K C f) (F : FnR X.prog X.w X.K X.mg X.base CX k f sp) (hr : Room (k + 1) X.A) (hg : Gl X x) (hm : X.mg x = some (.ref C)) (hx : Passes CX X E)
    (hdb : (x == ("__debug__" : Str)) = false := by decide) : PE X (.Call (.Name x p) [] [] pos) (tMakeR C sp E tNil) := by
  refine ⟨fun pins s σ H Q I h => ?_⟩
  refine wpAny_Call_Name_kw (ld_glob I hg hm ?_ hdb)
  exact PySem.W.callWith_K0 I.kIn M.kp (run_makeR (us := []) M F hr hx I .nil h)
end KX

set_option Elab.async false
set_option maxRecDepth 100000
set_option maxHeartbeats 2000000
/-! for i, x in enumerate(t), t a tuple. -/
namespace KX
open PySem PySem.Spec PyProof.Rows L2
open Sem (wp)
open AutoSeq1 (wpAny_loadPart')
/-- enumerate's maker, told of whatever begins to be walked -/
theorem enum_new1 {v : Value} {o : Obj} {G : Heap → Prop} (B : Begins v o G) :
    Meets (Builtin.«enumerate.__new__» ⟨[.type "enumerate", v], []⟩) (fun _ R s => G s.heap ∧ R (.ok (.ret (.ref (s.heap.push o).objs.size)))
        { s with heap := (s.heap.push o).push { cls := .type "enumerate", data := .fields #[.none, .bool false, .ref s.heap.objs.size, rawInt 0, .none, .none] } }) :=
  .of_wp fun prog w A R s hh => by
    obtain ⟨hp, g, d, tk, os⟩ := s
    have hsub := sub_enumerate
    have it : ∀ {A' : Around} {E Q : Value → Shared → Prop}, Q (.ref hp.objs.size) ⟨hp.push o, g, d, tk, os⟩ → wpAny (model prog w) A' (pyIter v) Q E ⟨hp, g, d, tk, os⟩ := fun q => B.iter _ _ _ _ ⟨hp, g, d, tk, os⟩ _ hh.1 q
    wp_walk using it
    refine wpAny_stack_any fun _ => wpAny_pure ?_
    split
    case h_1 c _ _ _ _ _ => cases (c == Value.type "enumerate") <;> (wp_walk using it; exact ⟨_, rfl, hh.2⟩)
    all_goals (wp_walk using it; exact ⟨_, rfl, hh.2⟩)
section
variable {prog : Program} {w : World} {A : Around} {E : Value → Shared → Prop} {s : Shared}
theorem enum_tup {t : Addr} {its : Array Value} {Q : Value → Shared → Prop} (ht : s.heap.IsTuple t its)
    (q : ∀ h', IsEnum h' (s.heap.objs.size + 1) s.heap.objs.size 0 .none → h'.IsTupleIter s.heap.objs.size t 0 → (∀ b u, s.heap.get? b = some u → h'.get? b = some u) → Q (.ref (s.heap.objs.size + 1)) { s with heap := h' }) :
    wpAny (model prog w) A (call (.type "enumerate") [.ref t]) Q E s := by
  refine callType_new F.called_enumerate (by decide) (F.typeCall_enumerate_1 _) (F.newCall_enumerate_1 _) (fun obj => F.args_object_init_2 obj _) F.entry_enumerate_new (enum_new1 (begins_tuple t its)) ⟨ht, ?_⟩
  generalize ho : ({ cls := .type "tuple_iterator", data := .fields #[.ref t, .int 0 0] } : Obj) = o
  have hf : o.isFreed = false := by rw [← ho]; rfl
  have hz : (s.heap.push o).objs.size = s.heap.objs.size + 1 := Heap.size_push ..
  show _ ∧ _
  rw [hz]
  have e1 : ((s.heap.push o).push { cls := .type "enumerate", data := .fields #[.none, .bool false, .ref s.heap.objs.size, rawInt 0, .none, .none] }).get? (s.heap.objs.size + 1) = some { cls := .type "enumerate", data := .fields #[.none, .bool false, .ref s.heap.objs.size, rawInt 0, .none, .none] } := by
    rw [← hz]
    exact Heap.get?_push_size _ rfl
  have e2 := Heap.get?_push_of_some ({ cls := .type "enumerate", data := .fields #[.none, .bool false, .ref s.heap.objs.size, rawInt 0, .none, .none] }) (Heap.get?_push_size s.heap hf)
  exact ⟨⟨_, e1, rfl⟩, q _ e1 ⟨o, e2, by rw [← ho], by rw [← ho]; rfl⟩ fun b u z => Heap.get?_push_of_some _ (Heap.get?_push_of_some _ z)⟩
end
/-- the tuple at a as it stands at each turn, each item in a new pair -/
def ItE (K : PySem.W.Frag) (a : Addr) : It where
  go := fun i H => ∃ (xs : List V) (x : V), SqT K H a xs ∧ xs[i]? = some x
  yld := fun i H v H' => ∃ T x, v = .ref T ∧ H T = none ∧ H' = upd H T (.tup [.int (i : Nat), x]) ∧ ∀ xs, SqT K H a xs → xs[i]? = some x
  stop := fun i H => ∃ xs : List V, SqT K H a xs ∧ xs.length = i
theorem tup_ne {h : Heap} {a it : Addr} {i : Nat} {its : Array Value} (hi : h.IsTupleIter it a i) (ht : h.IsTuple a its) : a ≠ it := by
  rintro rfl
  obtain ⟨o, ho, hc, _⟩ := hi
  obtain ⟨u, hu, uc, _⟩ := ht
  rw [ho] at hu
  cases hu
  rw [hc] at uc
  exact absurd (Value.type.inj uc) (by decide)
theorem turn_enumT {P : Program} {w : World} {K : PySem.W.Frag} {elts : List Expr} {kk : Nat} {tpos : Pos} (a e it : Addr) :
    Turn P w K (.Tuple elts kk tpos) (ItE K a) [e, it] e (fun i h => (∃ old, IsEnum h e it ((i : Nat) : Int) old) ∧ h.IsTupleIter it a i ∧ e ≠ it) where
  mem := by simp
  obj := fun i h st b hb => by
    obtain ⟨⟨old, he⟩, ⟨o, ho, hc, hd⟩, _⟩ := st
    rcases List.mem_cons.mp hb with rfl | hb
    · exact ⟨_, he, fun v q => nomatch q⟩
    · rw [List.mem_singleton.mp hb]
      exact ⟨o, ho, fun v q => by rw [hd] at q; cases q⟩
  keep := fun i h h' st k => ⟨st.1.imp fun old he => k e (by simp) _ he, st.2.1.at fun o q => k it (by simp) o q, st.2.2⟩
  item := by
    intro X hP hw hK hc i pins s σ H E I hf st hg
    subst hP hw hK
    obtain ⟨⟨old, he⟩, hit, hne⟩ := st
    obtain ⟨xs, x, hq, hx⟩ := hg
    obtain ⟨its, rv, p, hz⟩ := I.tuple hq
    obtain ⟨u, hu, ru⟩ := rv.get hx
    have p' : s.heap.IsTuple a its.toArray := p
    have hel : e < s.heap.objs.size := Heap.lt_size he
    have hil : it < s.heap.objs.size := by obtain ⟨_, q, _⟩ := hit; exact Heap.lt_size q
    have hlt : i < its.toArray.size := by
      have := (List.getElem?_eq_some_iff.mp hu).1
      simpa using this
    have hea : e ≠ a := by
      rintro rfl
      obtain ⟨o2, ho2, uc, _⟩ := p'
      rw [he] at ho2
      cases ho2
      exact absurd (Value.type.inj uc) (by decide)
    refine wpAny_pyNext_enum_itemD (Draws.tuple (A := X.A.in1) (I.ok.hd hc) it a (tup_ne hit p') its.toArray) he ⟨hit, p'⟩ hlt hne (by simp [hne, hea]) fun x2 h' tk hx2 ho st2 hT hsz hk => ?_
    obtain rfl : x2 = u := by
      have e1 : its.toArray[i]? = some u := by simpa using hu
      exact Option.some.inj (hx2.symm.trans e1)
    refine ⟨_, rfl, wpAny_letOwnedTupleGo_enum (s := { s with heap := h', toks := tk + 1 }) ho fun h'' he' sb => ?_⟩
    have hT2 : h''.get? s.heap.objs.size = some { cls := .type "tuple", data := .seq #[.int i tk, x2] } := (sb.2 _ (Nat.ne_of_gt hel)).trans hT
    have new : ObjOk X.prog X.w (upd H s.heap.objs.size (.tup [.int (i : Nat), x])) h'' s.heap.objs.size (.tup [.int (i : Nat), x]) :=
      ⟨by show 2 ≤ sizeLine; decide, [.int i tk, x2], .cons ⟨_, rfl⟩ (.cons ru .nil), ⟨_, hT2, rfl, _, rfl⟩⟩
    have I1 : Inv X pins σ (upd H s.heap.objs.size (.tup [.int (i : Nat), x])) { s with heap := h'', toks := tk + 1 } :=
      I.turnedNew (ch := [e, it]) (fun b ob hb q => (sb.2 b (fun z => hb (by simp [z]))).trans (hk b ob (fun z => hb (by simp [z])) (fun z => hb (by simp [z])) q)) hf (Nat.le_refl _) new
    refine ⟨.ref s.heap.objs.size, _, I1, rfl, ⟨_, x, rfl, I.hok.fresh (Nat.le_refl _), rfl, fun ys hy => by rw [I.tuple_inj hy hq]; exact hx⟩, ⟨⟨x2, ?_⟩, st2.1.at fun o q => (sb.2 it (Ne.symm hne)).trans q, hne⟩, fun b hb => ?_⟩
    · rw [show ((i + 1 : Nat) : Int) = (i : Int) + 1 by omega]
      exact he'
    · have hb' : b < s.heap.objs.size := by
        rcases List.mem_cons.mp hb with rfl | hb
        · exact hel
        · rw [List.mem_singleton.mp hb]
          exact hil
      rw [upd_ne (Nat.ne_of_lt hb')]
      exact (hf b hb).1
  done := by
    intro X hP hw hK hc i pins s σ H E I hf st hg
    subst hP hw hK
    obtain ⟨⟨old, he⟩, hit, hne⟩ := st
    obtain ⟨xs, hq, hx⟩ := hg
    obtain ⟨its, rv, p, hz⟩ := I.tuple hq
    have p' : s.heap.IsTuple a its.toArray := p
    obtain ⟨f0, f1, f2, f3, f4, f5⟩ := hf it (by simp)
    have hl := rv.length
    obtain rfl : i = its.toArray.size := by simp; omega
    exact wpAny_pyNext_enum_endD (Draws.tuple (A := X.A.in1) (I.ok.hd hc) it a (tup_ne hit p') its.toArray) he ⟨hit, p'⟩ fun h' eb => ⟨rfl, I.turned (t' := s.toks) (fun b o hb q => eb b o hb q) f0 f1 f3 f4 f5⟩
  self := fun A i s Q E st h => let ⟨⟨_, he⟩, _⟩ := st; wpAny_pyIter_enum he h
def iEnumT (K : PySem.W.Frag) (ta : TA) : TI := fun σ H R => ta σ H fun vs H1 => ∃ a xs, vs = [.ref a] ∧ SqT K H1 a xs ∧ R (ItE K a) H1
theorem pi_enumT {X : Cx} {e : Expr} {ta : TA} {p pos tpos : Pos} {elts : List Expr} {kk : Nat} (hg : Gl X "enumerate") (hm : X.mg "enumerate" = none) (ha : PA X [e] ta) (hs : starEach [e] X.env = [(false, eval e X.env)] := by rfl) :
    PI X (.Tuple elts kk tpos) (.Call (.Name "enumerate" p) [e] [] pos) (iEnumT X.K ta) := by
  refine ⟨fun pins s σ H R I h => Call_ (ld_blt I hg hm boot_enumerate (PyProof.Rows.callWith_type1 (thn (ha.run pos pins s σ H _ I h) fun us s1 hh => ?_) hs rfl))⟩
  obtain ⟨vs, H1, I1, r1, a, xs, rfl, hq, q⟩ := hh
  obtain rfl := Vals.ref1 r1
  obtain ⟨its, rv, p', hz⟩ := I1.tuple hq
  refine enum_tup p' fun h' he hit hk => wpAny_pyIter_enum he ?_
  have I2 : Inv X pins σ H1 { s1 with heap := h' } := I1.kept (t' := s1.toks) hk
  refine ⟨s1.heap.objs.size + 1, [s1.heap.objs.size + 1, s1.heap.objs.size], _, _, H1, rfl, I2, turn_enumT a (s1.heap.objs.size + 1) s1.heap.objs.size, ⟨⟨.none, he⟩, hit, Nat.succ_ne_self _⟩, fun b hb => ?_, q⟩
  have hle : s1.heap.objs.size ≤ b := by
    rcases List.mem_cons.mp hb with rfl | hb
    · exact Nat.le_succ _
    · rw [List.mem_singleton.mp hb]
      exact Nat.le_refl _
  exact I1.fpOk hle (I1.hok.fresh hle)
theorem walk_enumT {K : PySem.W.Frag} {a : Addr} {xs : List V} : Walk (ItE K a) xs.length (fun H => SqT K H a xs) (YPair (fun i => some (.int (i : Nat))) (fun i => xs[i]?)) :=
  ⟨fun i _ hi q => ⟨xs, xs[i], q, by simp [hi]⟩, fun _ q => ⟨xs, q, rfl⟩, fun i H v H' _ q y => y.elim fun T y => y.elim fun x y => ⟨T, .int (i : Nat), x, y.1, y.2.1, y.2.2.1, rfl, y.2.2.2 xs q⟩⟩
end KX

set_option Elab.async false
set_option maxRecDepth 100000
set_option maxHeartbeats 2000000
namespace KX
open PySem PySem.Spec PyProof.Rows L2
/-- a def's promise where no repr is running -/
structure FnG (P : Program) (w : World) (K : PySem.W.Frag) (mg : Str → Option Value) (base : Heap) (CX : CXT) (k : Nat) (f : Addr) (fd : FuncData) (ps : List Str) (sp : Sp) : Prop where
  len : ∀ vs H Q E, sp vs H Q E → vs.length = ps.length
  run : ∀ (A : Around) (outer : List Env) (s : Shared) (H : Hp) (args : Args) (us : List Value) (vs : List V) (Q : VK) (E : XK), A.guards = some [] → Room k A →
    Env0 P w K mg base A outer s H → BindsTo s fd args (ps.zip us) → Vals vs us → sp vs H Q E → codeAny (model P w) A (.call (.ref f) args) (CR CX outer P w H s Q E) s
section
variable {P : Program} {w : World} {K : PySem.W.Frag} {mg : Str → Option Value} {base : Heap} {CX : CXT} {k : Nat} {f : Addr} {fd : FuncData} {ps : List Str} {sp : Sp}
theorem FnG.of (F : FnOk P w K mg base CX k f fd ps sp) : FnG P w K mg base CX k f fd ps sp :=
  ⟨F.len, fun A outer s H args us vs Q E _ => F.run A outer s H args us vs Q E⟩
/-- the rule for a def whose body may use that no repr is running -/
theorem fnG_ok {x qual : Str} {params : Arguments} {body : List Stmt} {scope : Scope} {dvs : List V} {kws : List (Str × V)} {N : List Str} (F : FunD K x qual params body scope dvs kws f fd) (S : FnScope N ps scope)
    (len : ∀ vs H Q E, sp vs H Q E → vs.length = ps.length)
    (hbody : ∀ (cdv : Value) (A : Around) (outer : List Env) (s : Shared) (H : Hp) (vs : List V) (Q : VK) (E : XK),
      A.guards = some [] → Room k (A.deeper (envOfC qual scope s.heap.objs.size f cdv)) → sp vs H Q E →
      ∃ t, PSs (cxOf CX P w K mg base N qual scope f cdv A outer s H E) body t ∧ t { nx := fun _ G => Q .non G, rt := Q } (start N vs) H) :
    FnG P w K mg base CX (k + 1) f fd ps sp := by
  obtain ⟨oc, od, dV, kV, doc, pm, an, cdv, ct, osl, rfl, lk, hcd, _, _⟩ := F.ex
  constructor
  · exact len
  intro A outer s H args us vs Q E hg hr e0 hb r hsp
  have hn := len _ _ _ _ hsp
  have keep : ∀ b o, base.get? b = some o → s.heap.get? b = some o := fun b o z => (e0.bs b o z).1
  have hK : K.In s.heap := e0.mod.kin.keeps keep
  have hL : s.heap.NoLimit := e0.mod.nolimit.keeps keep
  refine codeAny_call_function hr.depth (hK _ _ lk) rfl S.co S.gen rfl (PySem.W.codeRec_of hK hcd) (hb _ _ _ _ ?_)
  refine wpAny_newFunctionEnv_cells S.kind (fun y hy => ?_) fun env he s1 x => ?_
  · rcases S.par y.1 (List.of_mem_zip (show (y.1, y.2) ∈ ps.zip us from hy)).1 with z | z
    · exact Or.inl z
    · exact Or.inr ⟨z, PySem.W.cellsFrom_some _ _ _ (Or.inl z)⟩
  · subst he
    refine ⟨hL.keeps x.toInCall.keep, codeAny_func ?_⟩
    obtain ⟨t, ht, hq⟩ := hbody cdv A outer s H vs Q E hg (hr.deeper _) hsp
    have I0 := inv_start (CX := CX) (E := E) S hr.hd e0 hn r x
    refine wpAny_mono (ht.run [] s1 (start N vs) H _ I0 hq) (fun fl s' z => ?_) fun _ _ z => z
    match fl, z with
    | .ret u, ⟨v, σ', G, J, rv, qv⟩ => exact ⟨v, G, J.os, J.bare, J.base, J.hok, rv, qv⟩
    | .next, ⟨σ', G, J, qv⟩ => exact ⟨.non, G, J.os, J.bare, J.base, J.hok, rfl, qv⟩
    | .brk, ⟨_, _, _, qv⟩ => exact False.elim qv
    | .cont, ⟨_, _, _, qv⟩ => exact False.elim qv
end
section
variable {X : Cx} {CX : CXT} {k : Nat} {f : Addr} {fd : FuncData} {ps : List Str} {sp : Sp} {dvs : List V} {ds : List Value} {E : XK} {x : Str} {p pos : Pos} {e : Expr} {es : List Expr} {t : TA}
/-- f(e, ..) where no repr is running -/
theorem pe_callG (F : FnG X.prog X.w X.K X.mg X.base CX k f fd ps sp) (gg : X.A.guards = some []) (hr : Room k X.A) (hg : Gl X x) (hm : X.mg x = some (.ref f)) (hk : PySem.W.keepIn X.K (.ref f) = true) (hb : Binds X.K fd ps ds) (hd : Vals dvs ds)
    (hx : Passes CX X E) (ha : PA X (e :: es) t) (hdb : (x == ("__debug__" : Str)) = false := by decide) (he : starEach (e :: es) X.env = (false, eval e X.env) :: starEach es X.env := by rfl)
    (hpl : (backTo pos (starEach es X.env)).any (·.1) = false := by rfl) : PE X (.Call (.Name x p) (e :: es) [] pos) (tCall sp dvs E t) := by
  constructor
  intro pins s σ H Q I h
  refine wpAny_Call_Name_kw (ld_glob I hg hm ?_ hdb)
  refine PySem.W.callWith_K (h₀ := X.base) I.ok.mod.kin hk (thn (ha.run pos pins s σ H _ I h) fun us s1 hh => ?_) he hpl
  obtain ⟨vs, H1, I1, r, q⟩ := hh
  refine ⟨I1.kIn, ?_⟩
  have r2 : Vals (vs ++ dvs) (us ++ ds) := r.append hd
  have hl : (us ++ ds).length = ps.length := r2.length.symm.trans (F.len _ _ _ _ q)
  refine wpAny_call (codeAny_mono (F.run X.A X.stack s1 H1 ⟨us, []⟩ _ _ Q E gg hr I1.env0 (hb s1 us I1.kIn hl) r2 q) fun res s' z => ?_)
  match res, z with
  | .error er, z => exact hx pins σ H1 s1 er s' I1 z
  | .ok (.ret u), z => exact I1.after z
  | .ok .next, z => exact False.elim z
  | .ok .brk, z => exact False.elim z
  | .ok .cont, z => exact False.elim z
end
/-! ### the law's own call -/
theorem law_atG {P : Program} {w : World} {K : PySem.W.Frag} {mg mb : Str → Option Value} {k : Nat} {fa a : Addr} {fd : FuncData} {x : Str} {sp : Sp} {s1 : Shared} {vs : List Value} {ns : List Int}
    (KI : K.In s1.heap) (hns : s1.heap.Ns mainGlobals mg) (hb : s1.heap.Ns builtinsNs mb) (hbb : ∀ x : Str, x ≠ "__name__" → mb x = bootBuiltins x) (hlim : s1.heap.NoLimit) (hg : s1.gens = #[])
    (ha : s1.heap.get? a = some { cls := .type "list", data := .seq vs.toArray }) (hi : IntsAre vs ns) (hl : ns.length ≤ sizeLine) (hr : Room k callerA)
    (F : ∀ base : Heap, K.In base → base.Ns mainGlobals mg → FnG P w K mg base CX0 k fa fd [x] sp) (hbind : ∀ (s : Shared) (u : Value), BindsTo s fd ⟨[u], []⟩ [(x, u)])
    (hsp : ∀ H : Hp, SqL K H a (ns.map V.int) → sp [.ref a] H (fun v _ => v = .bl true) E0) :
    codeAny (model P w) callerA (.call (.ref fa) ⟨[.ref a], []⟩) (fun r s' => r = .ok (.ret (.bool true)) ∧ PySem.OldK s1.heap s'.heap ∧ s'.os = s1.os ∧ AllBare s'.gens) s1 := by
  have rv := vals_ints hi
  have frozen : ∀ H : Hp, (∀ b u, H b = some u → b = a ∧ u = .frz { cls := .type "list", data := .seq vs.toArray } (.lst (ns.map V.int)) ∧ K.lookup a = none) → SqL K H a (ns.map V.int) →
      codeAny (model P w) callerA (.call (.ref fa) ⟨[.ref a], []⟩) (fun r s' => r = .ok (.ret (.bool true)) ∧ PySem.OldK s1.heap s'.heap ∧ s'.os = s1.os ∧ AllBare s'.gens) s1 := by
    intro H hH hS
    have free : ∀ b o, s1.heap.get? b = some o → (b = a → K.lookup a ≠ none ∨ (∀ its n, o.data ≠ .seq its n)) → H b = none := by
      intro b o e n
      cases q : H b with
      | none => rfl
      | some u =>
        obtain ⟨rfl, _, z3⟩ := hH b u q
        rw [ha] at e
        obtain rfl := Option.some.inj e
        rcases n rfl with n | n
        · exact absurd z3 n
        · exact absurd rfl (n vs.toArray _)
    have inK : K.In (hidT s1.heap H) := fun b o e => hidT_get (KI b o e) (free b o (KI b o e) fun z => .inl (by rw [← z, e]; simp))
    have nsOk : ∀ {b : Addr} {m : Str → Option Value}, s1.heap.Ns b m → (hidT s1.heap H).Ns b m := by
      rintro b m ⟨o, es, ep, e, d, r⟩
      exact ⟨o, es, ep, hidT_get e (free b o e fun _ => .inr fun its n z => by rw [d] at z; cases z), d, r⟩
    have hok : HOk P w H s1.heap := by
      intro b u q
      obtain ⟨rfl, rfl, _⟩ := hH b u q
      exact ⟨ha, by rw [List.length_map]; exact hl, vs, _, rv, ha⟩
    have md : Mod K mg (hidT s1.heap H) := ⟨inK, nsOk hns, ⟨mb, nsOk hb, hbb⟩, by
      obtain ⟨mc, h1, h2⟩ := hlim
      exact ⟨mc, nsOk h1, h2⟩⟩
    have e0 : Env0 P w K mg (hidT s1.heap H) callerA [] s1 H :=
      ⟨rfl, md, fun b o e => of_hidT e, Nat.le_of_eq (hidT_size _ _), trivial, fun b z => absurd (show b ∈ ([] : List Addr) from z) (by simp), hok, .of_eq hg⟩
    have go := (F _ inK (nsOk hns)).run callerA [] s1 H ⟨[.ref a], []⟩ [.ref a] [.ref a] _ _ rfl hr e0 (hbind s1 (.ref a)) (.cons rfl .nil) (hsp H hS)
    refine codeAny_mono go fun r s' z => ?_
    match r, z with
    | .error _, z => exact False.elim z
    | .ok .next, z => exact False.elim z
    | .ok .brk, z => exact False.elim z
    | .ok .cont, z => exact False.elim z
    | .ok (.ret u), ⟨v, G, os, bare, un, hok', rr, qv⟩ =>
      obtain rfl : v = .bl true := qv
      obtain rfl : u = Value.bool true := rr
      refine ⟨rfl, PySem.OldK.of_keep fun b o e => ?_, os, bare⟩
      cases q : H b with
      | none => exact un.keep b o e q (fun z => absurd (show b ∈ ([] : List Addr) from z) (by simp)) (by simp)
      | some t =>
        obtain ⟨rfl, rfl, _⟩ := hH b t q
        obtain ⟨e2, _⟩ := hok' _ _ (un.frzs _ _ _ q)
        exact e2.trans (ha.symm.trans e)
  cases hk : K.lookup a with
  | none =>
    refine frozen (fun b => if b = a then some (.frz { cls := .type "list", data := .seq vs.toArray } (.lst (ns.map V.int))) else none) (fun b u z => ?_) (.inl (.inr ⟨_, if_pos rfl⟩))
    by_cases hba : b = a
    · exact ⟨hba, (Option.some.inj ((if_pos hba).symm.trans z)).symm, hk⟩
    · exact nomatch (if_neg hba).symm.trans z
  | some o =>
    have e := KI a o hk
    rw [ha] at e
    obtain rfl := Option.some.inj e
    exact frozen (fun _ => none) (fun b u z => nomatch (show (none : Option HO) = some u from z))
      (.inr ⟨_, vs.toArray, _, hk, rfl, rfl, rfl, by rw [List.size_toArray, hi.length]; exact hl, by simpa using rv⟩)
/-- the goal that a head leaves, by the law's promise -/
theorem walk_atG {l : PySem.W.OpenLaw} {n k : Nat} {q : Program} {loose : List Str} {XP : (Str → Option Value) → Heap → Prop} {YP : World → Heap → Prop} {d : DefRec} {x : Str}
    (hn : l.most = some n) (hn2 : n ≤ sizeLine) (hdf : d.params.defaults = []) (hr : Room k callerA)
    (F : ∀ (w : World) (mg : Str → Option Value) (fa : Addr) (h : Heap), YP w h → h.Ns mainGlobals mg → mg d.name = some (.ref fa) →
      ∃ (K : PySem.W.Frag) (fd : FuncData) (sp : Sp), K.In h ∧ (∀ (s : Shared) (u : Value), BindsTo s fd ⟨[u], []⟩ [(x, u)]) ∧
        (∀ (H : Hp) (a : Addr) (ns : List Int), ns.length ≤ n → (∀ z ∈ ns, Builtin.Int.intBits z ≤ 1048576) → SqL K H a (ns.map V.int) → sp [.ref a] H (fun v _ => v = .bl true) E0) ∧
        ∀ base : Heap, K.In base → base.Ns mainGlobals mg → FnG l.prog w K mg base CX0 k fa fd [x] sp) :
    PySem.W.WalkO q loose XP YP l.row.toRowW d [] (fun f vs => PySem.call f vs) := by
  refine Att.attach_callB hn hdf fun w s₀ s₁ mg mb fa o pm cd doc a vs ns G Y ho hd hcd hmg hobj hints hlen hbits hg => ?_
  obtain ⟨K, fd, sp, KI, hb, hsp, hF⟩ := F w mg fa _ Y G.T.g hmg
  exact law_atG KI G.T.g G.T.b G.T.builtins G.T.nolimit hg hobj hints (Nat.le_trans hlen hn2) hr hF hb fun H hS => hsp H a ns hlen hbits hS
end KX

set_option Elab.async false
set_option maxRecDepth 100000
set_option maxHeartbeats 2000000
/-! The bag that a law draws from: what stands in it, what is promised of a draw. -/
namespace KX
open PySem PySem.Spec PyProof.Rows L2
/-- the bag at b: digits, a seed, a count of at most n -/
def Bag (H : Hp) (b : Addr) (n : Int) : Prop := ∃ d m c : Int, H b = some (.lst [.int d, .int m, .int c]) ∧ 0 ≤ d ∧ 0 ≤ m ∧ m < 2 ^ 61 ∧ 0 ≤ c ∧ c ≤ n
/-- all but b is as it was -/
def But (b : Addr) (H H' : Hp) : Prop := ∀ x, x ≠ b → H' x = H x
/-- what was tracked is as it was, but b -/
def Kept (b : Addr) (H H' : Hp) : Prop := ∀ x o, x ≠ b → H x = some o → H' x = some o
theorem But.kept {b : Addr} {H H' : Hp} (h : But b H H') : Kept b H H' := fun x o n e => (h x n).trans e
theorem Kept.refl (b : Addr) (H : Hp) : Kept b H H := fun _ _ _ e => e
theorem Kept.trans {b : Addr} {H H1 H2 : Hp} (h : Kept b H H1) (k : Kept b H1 H2) : Kept b H H2 := fun x o n e => k x o n (h x o n e)
theorem Kept.new {b p : Addr} {H : Hp} {o : HO} (h : H p = none) : Kept b H (upd H p o) := fun x u _ e => by
  rw [upd_ne (ne_of_none e h)]
  exact e
theorem Kept.seq {K : PySem.W.Frag} {b a : Addr} {H H' : Hp} {xs : List V} (k : Kept b H H') (n : a ≠ b) (h : SqL K H a xs) : SqL K H' a xs := by
  rcases h with (h | ⟨o, h⟩) | h
  · exact .inl (.inl (k _ _ n h))
  · exact .inl (.inr ⟨o, k _ _ n h⟩)
  · exact .inr h
theorem Bag.some {H : Hp} {b : Addr} {n : Int} (h : Bag H b n) : ∃ o, H b = some o := let ⟨_, _, _, e, _⟩ := h; ⟨_, e⟩
theorem Bag.ne {H : Hp} {b p : Addr} {n : Int} (h : Bag H b n) (hp : H p = none) : p ≠ b := by
  obtain ⟨o, e⟩ := h.some
  exact (ne_of_none e hp).symm
theorem Bag.put {H : Hp} {b p : Addr} {n : Int} {o : HO} (h : Bag H b n) (hp : p ≠ b) : Bag (upd H p o) b n := by
  obtain ⟨d, m, c, e, r⟩ := h
  exact ⟨d, m, c, (upd_ne hp.symm).trans e, r⟩
theorem Bag.mono {H : Hp} {b : Addr} {n n' : Int} (h : Bag H b n) (hn : n ≤ n') : Bag H b n' := by
  obtain ⟨d, m, c, e, r1, r2, r3, r4, r5⟩ := h
  exact ⟨d, m, c, e, r1, r2, r3, r4, by omega⟩
/-- _law_bag -/
def spBag (K : PySem.W.Frag) : Sp := fun vs H Q _ => ∃ (a : Addr) (ns : List Int) (i : Nat), vs = [.ref a, .int i] ∧ SqL K H a (ns.map V.int) ∧ ns.length ≤ 63 ∧ i ≤ 63 ∧ ∀ b H', H b = none → Kept b H H' → (∀ x, x ≠ b → H' x = H x) → Bag H' b 0 → Q (.ref b) H'
/-- _law_draw -/
def spDraw : Sp := fun vs H Q _ => ∃ (b : Addr) (n many : Int), vs = [.ref b, .int many] ∧ Bag H b n ∧ n < 1000000 ∧ 0 < many ∧ many.natAbs < 2 ^ 200 ∧ ∀ (r : Int) (H' : Hp), 0 ≤ r → r < many → But b H H' → Bag H' b (n + 1) → Q (.int r) H'
/-- _law_of -/
def spOf (K : PySem.W.Frag) : Sp := fun vs H Q _ => ∃ (b l : Addr) (n : Int) (xs : List V), vs = [.ref b, .ref l] ∧ Bag H b n ∧ n < 1000000 ∧ l ≠ b ∧ SqL K H l xs ∧ 0 < xs.length ∧ xs.length ≤ 1000 ∧
  ∀ (i : Nat) (v : V) (H' : Hp), xs[i]? = some v → But b H H' → Bag H' b (n + 1) → Q v H'
/-- the numbers of a draw -/
theorem draw_pow {m c : Int} (hm0 : 0 ≤ m) (hm : m < 2 ^ 61) (hc0 : 0 ≤ c) (hc : c ≤ 1000000) : CPow (m + 611953 * (c + 1)) 2 := by
  refine ⟨by decide, by decide, ?_⟩
  omega
theorem draw_pow3 {x c : Int} (hx0 : 0 ≤ x) (hx : x < 1152921504606846869) (hc0 : 0 ≤ c) (hc : c ≤ 1000000) : CPow (x + 15485863 * (c + 1)) 3 := by
  refine ⟨by decide, by decide, ?_⟩
  omega
theorem fmod_in {x y : Int} (h : 0 < y) : 0 ≤ x.fmod y ∧ x.fmod y < y := by
  rw [Int.fmod_eq_emod_of_nonneg x (Int.le_of_lt h)]
  exact ⟨Int.emod_nonneg x (by omega), Int.emod_lt_of_pos x h⟩
end KX

set_option Elab.async false
set_option maxRecDepth 100000
set_option maxHeartbeats 2000000
/-! Nested data on the abstract heap: it stays while what is tracked stays; bounds of its text. -/
namespace KX
open PySem PySem.Spec PyProof.Rows L2
theorem sqT_same {K : PySem.W.Frag} {H H' : Hp} {a : Addr} {xs : List V} (s : Same H H') (h : SqT K H a xs) : SqT K H' a xs := by
  rcases h with (h | ⟨o, h⟩) | h
  · exact .inl (.inl (s _ _ h))
  · exact .inl (.inr ⟨o, s _ _ h⟩)
  · exact .inr h
mutual
theorem dp_same {K : PySem.W.Frag} {H H' : Hp} (s : Same H H') : ∀ (d : PyData) (v : V), Dp K H v d → Dp K H' v d
  | .none, _, .non => .non
  | .bool _, _, .bl b => .bl b
  | .int _, _, .int i => .int i
  | .str _, _, .str x => .str x
  | .list ds, _, .lst hS ha => .lst (s.seq hS) (dps_same s ds _ ha)
  | .tuple ds, _, .tup hS ha => .tup (sqT_same s hS) (dps_same s ds _ ha)
  | .dict _, _, h => nomatch h
theorem dps_same {K : PySem.W.Frag} {H H' : Hp} (s : Same H H') : ∀ (ds : List PyData) (vs : List V), DpAll K H vs ds → DpAll K H' vs ds
  | [], _, .nil => .nil
  | d :: ds, _, .cons h hs => .cons (dp_same s d _ h) (dps_same s ds _ hs)
end
/-- what may be shown in little room -/
structure Small (d : PyData) (k n : Nat) : Prop where
  sh : d.showable = true
  nd : d.hasDict = false
  dp : d.depth ≤ k
  ln : d.shown.length ≤ n
/-- v is small data on H -/
def Good (K : PySem.W.Frag) (H : Hp) (v : V) : Prop := ∃ d, Dp K H v d ∧ Small d 2 100
theorem Good.same {K : PySem.W.Frag} {H H' : Hp} {v : V} (s : Same H H') (h : Good K H v) : Good K H' v := let ⟨d, h1, h2⟩ := h; ⟨d, dp_same s d v h1, h2⟩
theorem good_int {K : PySem.W.Frag} {H : Hp} {i : Int} (h : i.natAbs < 10 ^ 30) : Good K H (.int i) := by
  refine ⟨.int i, .int i, ⟨decide_eq_true ?_, rfl, Nat.zero_le _, ?_⟩⟩
  · have h2 : i.natAbs < 2 ^ 100 := Nat.lt_trans h (by decide)
    exact Nat.lt_trans (PySem.Flt.log2_lt_of (by decide) h2) (by decide)
  · have q := int_text_length_le10 (k := 30) (by decide) h
    show (Str.ofString (toString i)).length ≤ 100
    rw [PySem.ofString_length]
    omega
theorem textFrom_le {m : Nat} : ∀ (ts : List Str) (k : Nat) (acc : Str), (∀ t ∈ ts, t.length ≤ m) → (textFrom k acc ts).length ≤ acc.length + ts.length * (m + 2)
  | [], k, acc, _ => Nat.le_add_right _ _
  | t :: r, k, acc, h => by
    have q := textFrom_le r (k + 1) (acc ++ (if k > 0 then ", " else "" : String) ++ t) (fun u hu => h u (List.mem_cons_of_mem _ hu))
    have ht := h t List.mem_cons_self
    have e : (acc ++ (if k > 0 then ", " else "" : String) ++ t).length ≤ acc.length + 2 + t.length := by
      rw [Str.length_append, Str.length_append]
      have z : ((if k > 0 then ", " else "" : String) : Str).length ≤ 2 := by
        split <;> decide
      omega
    have f : (t :: r).length * (m + 2) = r.length * (m + 2) + (m + 2) := by rw [List.length_cons, Nat.succ_mul]
    show (textFrom (k + 1) _ r).length ≤ _
    omega
theorem listText_le {m : Nat} {ts : List Str} (h : ∀ t ∈ ts, t.length ≤ m) : (listText ts).length ≤ ts.length * (m + 2) + 2 := by
  have q := textFrom_le ts 0 ("[" : String) h
  unfold listText
  rw [Str.length_append]
  have e1 : (("[" : String) : Str).length = 1 := by decide
  have e2 : (("]" : String) : Str).length = 1 := by decide
  omega
theorem shownAll_mem : ∀ {ds : List PyData} {t : Str}, t ∈ PyData.shownAll ds → ∃ d ∈ ds, t = d.shown
  | [], _, h => nomatch h
  | d :: r, t, h => by
    rcases List.mem_cons.mp (show t ∈ d.shown :: PyData.shownAll r from h) with h | h
    · exact ⟨d, List.mem_cons_self, h⟩
    · obtain ⟨e, he, q⟩ := shownAll_mem h
      exact ⟨e, List.mem_cons_of_mem _ he, q⟩
theorem shownAll_len : ∀ ds : List PyData, (PyData.shownAll ds).length = ds.length
  | [] => rfl
  | d :: r => congrArg (· + 1) (shownAll_len r)
theorem small_all {k n : Nat} : ∀ {ds : List PyData}, (∀ d ∈ ds, Small d k n) → PyData.showableAll ds = true ∧ PyData.hasDictAll ds = false ∧ PyData.depthAll ds ≤ k
  | [], _ => ⟨rfl, rfl, Nat.zero_le _⟩
  | d :: r, h => by
    obtain ⟨h1, h2, h3⟩ := small_all (ds := r) fun e he => h e (List.mem_cons_of_mem _ he)
    have z := h d List.mem_cons_self
    refine ⟨?_, ?_, ?_⟩
    · show (d.showable && PyData.showableAll r) = true
      rw [z.sh, h1]
      rfl
    · show (d.hasDict || PyData.hasDictAll r) = false
      rw [z.nd, h2]
      rfl
    · exact Nat.max_le.mpr ⟨z.dp, h3⟩
/-- a list of small data is small, one deeper -/
theorem small_list {k n m : Nat} {ds : List PyData} (h : ∀ d ∈ ds, Small d k n) (hm : ds.length * (n + 2) + 2 ≤ m) : Small (.list ds) (k + 1) m := by
  obtain ⟨h1, h2, h3⟩ := small_all h
  refine ⟨h1, h2, Nat.succ_le_succ h3, Nat.le_trans (listText_le (m := n) fun t ht => ?_) (by rw [shownAll_len]; exact hm)⟩
  obtain ⟨d, hd, rfl⟩ := shownAll_mem ht
  exact (h d hd).ln
end KX

set_option Elab.async false
set_option maxRecDepth 100000
set_option maxHeartbeats 2000000
/-! What a piece is, in plain words; what may stand in the place of one. -/
namespace K04
open PySem PySem.Spec PyProof.Rows L2 KX
abbrev Pc := Option Int × Option Int × Int
def endV : Option Int → V
  | none => .non
  | some i => .int i
def endOf : V → Option (Option Int)
  | .non => some none
  | .int i => some (some i)
  | _ => none
def okP : Option Int → Option Int → Bool
  | some a, some b => decide (a ≤ b)
  | _, _ => true
def byOf : V → Option Int
  | .int i => some i
  | _ => none
def pc3 : List V → Option Pc
  | [x, y, z] => (byOf z).bind fun b => (endOf x).bind fun l => (endOf y).bind fun h => if okP l h then some (l, h, b) else none
  | _ => none
def Sc : V → Prop
  | .non => True
  | .bl _ => True
  | .int _ => True
  | .str _ => True
  | _ => False
/-- what stands in the place of a piece; the piece, if it is one -/
inductive Thing (K : PySem.W.Frag) (H : Hp) : V → Option Pc → Prop
  | sc {x : V} (h : Sc x) : Thing K H x none
  | tup {a : Addr} {xs : List V} (h : H a = some (.tup xs)) (c : ∀ y ∈ xs, Sc y) : Thing K H (.ref a) (pc3 xs)
  | lst {a : Addr} {xs : List V} (h : SqL K H a xs) (c : ∀ y ∈ xs, Sc y) : Thing K H (.ref a) none
def isI : V → Bool
  | .int _ => true
  | _ => false
def isB : V → Bool
  | .bl _ => true
  | _ => false
def isEnd : V → Bool
  | .non => true
  | .int _ => true
  | _ => false
theorem isEnd_of {x : V} : isEnd x = (endOf x).isSome := by cases x <;> rfl
theorem isI_of {x : V} : isI x = (byOf x).isSome := by cases x <;> rfl
/-- the type of such a thing -/
inductive Kd (K : PySem.W.Frag) (H : Hp) : V → String → Prop
  | non : Kd K H .non "NoneType"
  | bl (b : Bool) : Kd K H (.bl b) "bool"
  | int (i : Int) : Kd K H (.int i) "int"
  | str (z : Str) : Kd K H (.str z) "str"
  | tup {a : Addr} {xs : List V} (h : SqT K H a xs) : Kd K H (.ref a) "tuple"
  | lst {a : Addr} {xs : List V} (h : SqL K H a xs) : Kd K H (.ref a) "list"
theorem Kd.ty {K : PySem.W.Frag} {H : Hp} {x : V} {t : String} (h : Kd K H x t) : TyX K H x (.type t) := by
  cases h with
  | non => exact .base .non
  | bl b => exact .base (.bl b)
  | int i => exact .base (.int i)
  | str z => exact .base (.str z)
  | tup h =>
    rcases h with h | ⟨o, its, n, h1, h2, _⟩
    · rcases h with h | ⟨o, h⟩
      · exact .base (.tup h)
      · exact .fTuple h
    · exact .kTuple h1 h2
  | lst h =>
    rcases h with h | ⟨o, its, n, h1, h2, _⟩
    · rcases h with h | ⟨o, h⟩
      · exact .base (.lst h)
      · exact .base (.frz h)
    · exact .kList h1 h2
theorem sc_kd {K : PySem.W.Frag} {H : Hp} {x : V} (h : Sc x) : ∃ t, Kd K H x t := by
  cases x with
  | non => exact ⟨_, .non⟩
  | bl b => exact ⟨_, .bl b⟩
  | int i => exact ⟨_, .int i⟩
  | str z => exact ⟨_, .str z⟩
  | _ => exact False.elim h
theorem Thing.kd {K : PySem.W.Frag} {H : Hp} {x : V} {o : Option Pc} (h : Thing K H x o) : ∃ t, Kd K H x t := by
  cases h with
  | sc h => exact sc_kd h
  | tup h _ => exact ⟨_, .tup (SqT.of h)⟩
  | lst h _ => exact ⟨_, .lst h⟩
def isTp : String → Bool := fun t => t == "tuple"
theorem Kd.kInt {K : PySem.W.Frag} {H : Hp} {x : V} {t : String} (h : Kd K H x t) : PySem.W.kitOne K (.type t) (.type "int") = some (isI x || isB x) := by
  cases h <;> kernel_rfl
theorem Kd.kBool {K : PySem.W.Frag} {H : Hp} {x : V} {t : String} (h : Kd K H x t) : PySem.W.kitOne K (.type t) (.type "bool") = some (isB x) := by
  cases h <;> kernel_rfl
theorem Kd.kTup {K : PySem.W.Frag} {H : Hp} {x : V} {t : String} (h : Kd K H x t) : PySem.W.kitOne K (.type t) (.type "tuple") = some (isTp t) := by
  cases h <;> kernel_rfl
theorem same_put {H : Hp} {p : Addr} {o : HO} (hp : H p = none) : Same H (upd H p o) := fun x u e => (upd_ne (ne_of_none e hp)).trans e
theorem sqL_same {K : PySem.W.Frag} {H H' : Hp} {a : Addr} {xs : List V} (s : Same H H') (h : SqL K H a xs) : SqL K H' a xs := by
  rcases h with (h | ⟨o, h⟩) | h
  · exact .inl (.inl (s _ _ h))
  · exact .inl (.inr ⟨o, s _ _ h⟩)
  · exact .inr h
theorem Thing.same {K : PySem.W.Frag} {H H' : Hp} {x : V} {o : Option Pc} (s : Same H H') (h : Thing K H x o) : Thing K H' x o := by
  cases h with
  | sc h => exact .sc h
  | tup h c => exact .tup (s _ _ h) c
  | lst h c => exact .lst (sqL_same s h) c
end K04

set_option Elab.async false
set_option maxRecDepth 100000
set_option maxHeartbeats 2000000
/-! Nested data: its type, what isinstance says of it; items of it; small walks. -/
namespace KX
open PySem PySem.Spec PyProof.Rows L2
def tyD : PyData → String
  | .none => "NoneType"
  | .bool _ => "bool"
  | .int _ => "int"
  | .str _ => "str"
  | .list _ => "list"
  | .tuple _ => "tuple"
  | .dict _ => "dict"
def isIntD : PyData → Bool
  | .int _ => true
  | _ => false
def isBoolD : PyData → Bool
  | .bool _ => true
  | _ => false
def isStrD : PyData → Bool
  | .str _ => true
  | _ => false
def isTupD : PyData → Bool
  | .tuple _ => true
  | _ => false
def isLstD : PyData → Bool
  | .list _ => true
  | _ => false
theorem dp_ty {K : PySem.W.Frag} {H : Hp} {v : V} {d : PyData} (h : Dp K H v d) : TyX K H v (.type (tyD d)) := by
  cases h with
  | non => exact .base .non
  | bl b => exact .base (.bl b)
  | int i => exact .base (.int i)
  | str z => exact .base (.str z)
  | tup h _ =>
    rcases h with h | ⟨o, its, n, h1, h2, _⟩
    · rcases h with h | ⟨o, h⟩
      · exact .base (.tup h)
      · exact .fTuple h
    · exact .kTuple h1 h2
  | lst h _ =>
    rcases h with h | ⟨o, its, n, h1, h2, _⟩
    · rcases h with h | ⟨o, h⟩
      · exact .base (.lst h)
      · exact .base (.frz h)
    · exact .kList h1 h2
theorem kit_int {K : PySem.W.Frag} (d : PyData) : PySem.W.kitOne K (.type (tyD d)) (.type "int") = some (isIntD d || isBoolD d) := by cases d <;> kernel_rfl
theorem kit_bool {K : PySem.W.Frag} (d : PyData) : PySem.W.kitOne K (.type (tyD d)) (.type "bool") = some (isBoolD d) := by cases d <;> kernel_rfl
theorem kit_str {K : PySem.W.Frag} (d : PyData) : PySem.W.kitOne K (.type (tyD d)) (.type "str") = some (isStrD d) := by cases d <;> kernel_rfl
theorem kit_tup {K : PySem.W.Frag} (d : PyData) : PySem.W.kitOne K (.type (tyD d)) (.type "tuple") = some (isTupD d) := by cases d <;> kernel_rfl
theorem kit_lst {K : PySem.W.Frag} (d : PyData) : PySem.W.kitOne K (.type (tyD d)) (.type "list") = some (isLstD d) := by cases d <;> kernel_rfl
theorem kit_seq {K : PySem.W.Frag} (d : PyData) : PySem.W.kitAny K (.type (tyD d)) [.type "list", .type "tuple"] = some (isLstD d || isTupD d) := by
  unfold PySem.W.kitAny PySem.W.kitAny PySem.W.kitAny
  rw [kit_lst, kit_tup]
  cases d <;> rfl
theorem ite2' {b : Bool} {A B : Prop} (h1 : b = true → A) (h2 : b = false → B) : if b = true then A else B := by
  cases b
  · exact h2 rfl
  · exact h1 rfl
theorem same_put {H : Hp} {p : Addr} {o : HO} (hp : H p = none) : Same H (upd H p o) := fun x u e => (upd_ne (ne_of_none e hp)).trans e
theorem sqL_same {K : PySem.W.Frag} {H H' : Hp} {a : Addr} {xs : List V} (s : Same H H') (h : SqL K H a xs) : SqL K H' a xs := by
  rcases h with (h | ⟨o, h⟩) | h
  · exact .inl (.inl (s _ _ h))
  · exact .inl (.inr ⟨o, s _ _ h⟩)
  · exact .inr h
theorem dpall_len {K : PySem.W.Frag} {H : Hp} : ∀ {xs : List V} {ds : List PyData}, DpAll K H xs ds → xs.length = ds.length
  | _, _, .nil => rfl
  | _, _, .cons _ h => congrArg (· + 1) (dpall_len h)
theorem dpall_at {K : PySem.W.Frag} {H : Hp} : ∀ {xs : List V} {ds : List PyData} {i : Nat} {x : V}, DpAll K H xs ds → xs[i]? = some x → ∃ d, ds[i]? = some d ∧ Dp K H x d
  | _, _, 0, _, .cons h _, e => ⟨_, rfl, by cases e; exact h⟩
  | _, _, i + 1, _, .cons _ t, e => dpall_at (i := i) t e
theorem dpall_snoc {K : PySem.W.Frag} {H : Hp} {x : V} {d : PyData} (h : Dp K H x d) : ∀ {xs : List V} {ds : List PyData}, DpAll K H xs ds → DpAll K H (xs ++ [x]) (ds ++ [d])
  | _, _, .nil => .cons h .nil
  | _, _, .cons h1 t => .cons h1 (dpall_snoc h t)
theorem dpall_app {K : PySem.W.Frag} {H : Hp} {ys : List V} {es : List PyData} (k : DpAll K H ys es) : ∀ {xs : List V} {ds : List PyData}, DpAll K H xs ds → DpAll K H (xs ++ ys) (ds ++ es)
  | _, _, .nil => k
  | _, _, .cons h1 t => .cons h1 (dpall_app k t)
theorem dpall_take {K : PySem.W.Frag} {H : Hp} : ∀ {xs : List V} {ds : List PyData} (i : Nat), DpAll K H xs ds → DpAll K H (xs.take i) (ds.take i)
  | _, _, 0, _ => .nil
  | _, _, _ + 1, .nil => .nil
  | _, _, i + 1, .cons h t => .cons h (dpall_take i t)
theorem dpall_drop {K : PySem.W.Frag} {H : Hp} : ∀ {xs : List V} {ds : List PyData} (i : Nat), DpAll K H xs ds → DpAll K H (xs.drop i) (ds.drop i)
  | _, _, 0, h => h
  | _, _, _ + 1, .nil => .nil
  | _, _, i + 1, .cons _ t => dpall_drop i t
theorem dpall_set {K : PySem.W.Frag} {H : Hp} {x : V} {d : PyData} (h : Dp K H x d) : ∀ {xs : List V} {ds : List PyData} (i : Nat), DpAll K H xs ds → DpAll K H (xs.set i x) (ds.set i d)
  | _, _, _, .nil => .nil
  | _, _, 0, .cons _ t => .cons h t
  | _, _, i + 1, .cons h1 t => .cons h1 (dpall_set h i t)
theorem dpall_erase {K : PySem.W.Frag} {H : Hp} : ∀ {xs : List V} {ds : List PyData} (i : Nat), DpAll K H xs ds → DpAll K H (xs.eraseIdx i) (ds.eraseIdx i)
  | _, _, _, .nil => .nil
  | _, _, 0, .cons _ t => t
  | _, _, i + 1, .cons h t => .cons h (dpall_erase i t)
theorem dpall_3 {K : PySem.W.Frag} {H : Hp} : ∀ {xs : List V} {ds : List PyData}, DpAll K H xs ds → xs.length = 3 → ∃ x y z a b c, xs = [x, y, z] ∧ ds = [a, b, c] ∧ Dp K H x a ∧ Dp K H y b ∧ Dp K H z c
  | _, _, .cons h1 (.cons h2 (.cons h3 .nil)), _ => ⟨_, _, _, _, _, _, rfl, rfl, h1, h2, h3⟩
  | _, _, .nil, e => nomatch e
  | _, _, .cons _ .nil, e => nomatch e
  | _, _, .cons _ (.cons _ .nil), e => nomatch e
  | _, _, .cons _ (.cons _ (.cons _ (.cons _ _))), e => absurd e (by simp)
/-- a text's data -/
theorem dpall_strs {K : PySem.W.Frag} {H : Hp} : ∀ zs : List Str, DpAll K H (zs.map V.str) (zs.map PyData.str)
  | [] => .nil
  | z :: zs => .cons (.str z) (dpall_strs zs)
/-- one of two walks -/
theorem pi_or {X : Cx} {tg e : Expr} {A B : TI} (ha : PI X tg e A) (hb : PI X tg e B) : PI X tg e (fun σ H R => A σ H R ∨ B σ H R) :=
  ⟨fun pins s σ H R I h => h.elim (ha.run pins s σ H R I) (hb.run pins s σ H R I)⟩
theorem take_at {α : Type} {xs : List α} {i : Nat} {x : α} (h : xs[i]? = some x) : xs.take (i + 1) = xs.take i ++ [x] := by
  rw [List.take_add_one, h]
  rfl
theorem ixN_nat {n j : Nat} (h : j < n) : ixN n (j : Int) = some j := by
  unfold ixN
  rw [if_pos (by omega), if_pos (by omega)]
  rfl
theorem len_is {α : Type} {xs : List α} (j : Nat) (c : decide (V.int ((xs.length : Nat) : Int) = V.int (j : Int)) = true) : xs.length = j := by
  have q := V.int.inj (of_decide_eq_true c)
  omega
theorem len_not {α : Type} {xs : List α} (j : Nat) (c : decide (V.int ((xs.length : Nat) : Int) = V.int (j : Int)) = false) : xs.length ≠ j := fun e => of_decide_eq_false c (by rw [e])
theorem len_isN {α : Type} {xs : List α} (j : Nat) (c : (!decide (V.int ((xs.length : Nat) : Int) = V.int (j : Int))) = false) : xs.length = j := by
  refine len_is j ?_
  revert c
  cases decide (V.int ((xs.length : Nat) : Int) = V.int (j : Int)) <;> intro q
  · cases q
  · rfl
theorem len_notN {α : Type} {xs : List α} (j : Nat) (c : (!decide (V.int ((xs.length : Nat) : Int) = V.int (j : Int))) = true) : xs.length ≠ j := by
  rintro e
  rw [e, decide_eq_true rfl] at c
  cases c
theorem lay_all {k : Nat} : ∀ {ds : List PyData}, (∀ d ∈ ds, d.canLay0 = true ∧ d.depth ≤ k) → PyData.canLayAll0 ds = true ∧ PyData.depthAll ds ≤ k
  | [], _ => ⟨rfl, Nat.zero_le _⟩
  | d :: ds, h => by
    obtain ⟨h1, h2⟩ := h d List.mem_cons_self
    obtain ⟨h3, h4⟩ := lay_all fun e he => h e (List.mem_cons_of_mem _ he)
    refine ⟨?_, ?_⟩
    · show (d.canLay0 && PyData.canLayAll0 ds) = true
      rw [h1, h3]
      rfl
    · show max d.depth (PyData.depthAll ds) ≤ k
      exact Nat.max_le.mpr ⟨h2, h4⟩
theorem list_shaped {ds : List PyData} (h : ∀ d ∈ ds, d.canLay0 = true ∧ d.depth ≤ 60) : SeqAt.shaped (.list ds) = true := by
  obtain ⟨h1, h2⟩ := lay_all h
  unfold SeqAt.shaped
  refine Bool.and_eq_true_iff.mpr ⟨h1, decide_eq_true ?_⟩
  show PyData.depthAll ds + 1 ≤ 64
  omega
end KX

set_option Elab.async false
set_option maxRecDepth 100000
set_option maxHeartbeats 2000000
/-! A walk over a thing that is a list or a tuple. -/
namespace KX
open PySem PySem.Spec PyProof.Rows L2
section
variable {X : Cx} {tg : Expr}
def Sq (K : PySem.W.Frag) (H : Hp) (a : Addr) (xs : List V) : Prop := SqL K H a xs ∨ SqT K H a xs
theorem Sq.same {K : PySem.W.Frag} {H H' : Hp} {a : Addr} {xs : List V} (s : Same H H') (h : Sq K H a xs) : Sq K H' a xs := h.imp (sqL_same s) (sqT_same s)
def iSeq (K : PySem.W.Frag) (tl : TE) : TI := fun σ H R => tl σ H fun x H1 => ∃ a xs, x = .ref a ∧ Sq K H1 a xs ∧ ∀ J, Walk J xs.length (fun G => Same H1 G) (YAt xs) → R J H1
theorem pi_seq {l : Expr} {tl : TE} (hl : PE X l tl) : PI X tg l (iSeq X.K tl) := by
  refine ⟨fun pins s σ H R I h => ?_⟩
  refine thn (hl.run pins s σ H _ I h) fun v s1 ⟨x, H1, I1, r1, q1⟩ => ?_
  obtain ⟨a, xs, e, hq, q⟩ := q1
  subst e
  cases r1
  rcases hq with hq | hq
  · obtain ⟨its, rv, p, hz⟩ := I1.list hq
    refine wpAny_pyIter_list p.isList ?_
    refine ⟨s1.heap.objs.size, [s1.heap.objs.size], _, _, H1, rfl, I1.kept (t' := s1.toks) fun b o e => Heap.get?_push_of_some _ e, turn_list a _, ⟨_, Heap.get?_push_size _ rfl, rfl, rfl⟩, fun b hb => ?_, q _ (walk_list.mono (fun G z => sqL_same z hq) fun _ _ _ _ _ _ y => y)⟩
    have e : b = s1.heap.objs.size := by simpa using hb
    subst e
    exact I1.fpOk (Nat.le_refl _) (I1.hok.fresh (Nat.le_refl _))
  · obtain ⟨its, rv, p, hz⟩ := I1.tuple hq
    refine wpAny_pyIter_tuple (show s1.heap.IsTuple a its.toArray from p) ?_
    refine ⟨s1.heap.objs.size, [s1.heap.objs.size], _, _, H1, rfl, I1.kept (t' := s1.toks) fun b o e => Heap.get?_push_of_some _ e, turn_tuple a _, ⟨_, Heap.get?_push_size _ rfl, rfl, rfl⟩, fun b hb => ?_, q _ (walk_tup.mono (fun G z => sqT_same z hq) fun _ _ _ _ _ _ y => y)⟩
    have e : b = s1.heap.objs.size := by simpa using hb
    subst e
    exact I1.fpOk (Nat.le_refl _) (I1.hok.fresh (Nat.le_refl _))
def iEnumS (K : PySem.W.Frag) (ta : TA) : TI := fun σ H R => ta σ H fun vs H1 => ∃ a xs, vs = [.ref a] ∧ Sq K H1 a xs ∧ ∀ J, Walk J xs.length (fun G => Same H1 G) (YPair (fun i => some (.int (i : Nat))) (fun i => xs[i]?)) → R J H1
theorem pi_enumS {e : Expr} {ta : TA} {p pos tpos : Pos} {elts : List Expr} {kk : Nat} (hg : Gl X "enumerate") (hm : X.mg "enumerate" = none) (ha : PA X [e] ta) (hs : starEach [e] X.env = [(false, eval e X.env)] := by rfl) :
    PI X (.Tuple elts kk tpos) (.Call (.Name "enumerate" p) [e] [] pos) (iEnumS X.K ta) := by
  refine ⟨fun pins s σ H R I h => Call_ (ld_blt I hg hm boot_enumerate (PyProof.Rows.callWith_type1 (thn (ha.run pos pins s σ H _ I h) fun us s1 hh => ?_) hs rfl))⟩
  obtain ⟨vs, H1, I1, r1, a, xs, rfl, hq, q⟩ := hh
  obtain rfl := Vals.ref1 r1
  rcases hq with hq | hq
  · obtain ⟨its, rv, p', hz⟩ := I1.list hq
    refine call_enumerate_list p'.isList fun h' he hit hsz hk => wpAny_pyIter_enum he ?_
    have I2 : Inv X pins σ H1 { s1 with heap := h' } := I1.kept (t' := s1.toks) hk
    refine ⟨s1.heap.objs.size + 1, [s1.heap.objs.size + 1, s1.heap.objs.size], _, _, H1, rfl, I2, turn_enum a (s1.heap.objs.size + 1) s1.heap.objs.size, ⟨⟨.none, he⟩, hit, Nat.succ_ne_self _⟩, fun b hb => ?_, q _ (walk_enum.mono (fun G z => sqL_same z hq) fun _ _ _ _ _ _ y => y)⟩
    have hle : s1.heap.objs.size ≤ b := by
      rcases List.mem_cons.mp hb with rfl | hb
      · exact Nat.le_succ _
      · rw [List.mem_singleton.mp hb]
        exact Nat.le_refl _
    exact I1.fpOk hle (I1.hok.fresh hle)
  · obtain ⟨its, rv, p', hz⟩ := I1.tuple hq
    refine enum_tup p' fun h' he hit hk => wpAny_pyIter_enum he ?_
    have I2 : Inv X pins σ H1 { s1 with heap := h' } := I1.kept (t' := s1.toks) hk
    refine ⟨s1.heap.objs.size + 1, [s1.heap.objs.size + 1, s1.heap.objs.size], _, _, H1, rfl, I2, turn_enumT a (s1.heap.objs.size + 1) s1.heap.objs.size, ⟨⟨.none, he⟩, hit, Nat.succ_ne_self _⟩, fun b hb => ?_, q _ (walk_enumT.mono (fun G z => sqT_same z hq) fun _ _ _ _ _ _ y => y)⟩
    have hle : s1.heap.objs.size ≤ b := by
      rcases List.mem_cons.mp hb with rfl | hb
      · exact Nat.le_succ _
      · rw [List.mem_singleton.mp hb]
        exact Nat.le_refl _
    exact I1.fpOk hle (I1.hok.fresh hle)
/-- xs[i] of a list or a tuple -/
theorem atI_len {α β : Type} (f : α → β) (xs : List α) (i : Int) : atI (xs.map f) i = (atI xs i).map f := by
  unfold atI
  rw [List.length_map]
  cases ixN xs.length i with
  | none => rfl
  | some j =>
    show (xs.map f)[j]? = (xs[j]?).map f
    rw [List.getElem?_map]
end
end KX
namespace KX
open PySem PySem.Spec PyProof.Rows L2
theorem ix_of {K : PySem.W.Frag} {H : Hp} {a : Addr} {xs : List V} {i : Int} {v : V} {Q : VK} (h : Sq K H a xs) (e : atI xs i = some v) (q : Q v H) : rIx K (.ref a) (.int i) H Q :=
  h.elim (fun h => .inl ⟨a, xs, i, v, rfl, rfl, h, e, q⟩) fun h => .inr (.inl ⟨a, xs, i, v, rfl, rfl, h, e, q⟩)
/-- the place ahead of i, around -/
def pred (n i : Nat) : Nat := if i = 0 then n - 1 else i - 1
theorem pred_lt {n i : Nat} (h : i < n) : pred n i < n := by unfold pred; split <;> omega
theorem ixN_pred {n i : Nat} (h : i < n) : ixN n ((i : Int) - 1) = some (pred n i) := by
  unfold ixN pred
  by_cases h0 : i = 0
  · subst h0
    rw [if_neg (by omega), if_pos (by omega), if_pos rfl]
    congr 1
    omega
  · rw [if_pos (by omega), if_pos (by omega), if_neg h0]
    congr 1
    omega
theorem atI_pred {α : Type} {xs : List α} {i : Nat} (h : i < xs.length) : atI xs ((i : Int) - 1) = xs[pred xs.length i]? := by
  unfold atI
  rw [ixN_pred h]
  rfl
theorem range_at {n i : Nat} : (List.range n).take n = List.range n := by rw [List.take_of_length_le (by rw [List.length_range]; exact Nat.le_refl _)]
theorem map_range_succ {α : Type} (f : Nat → α) (i : Nat) : (List.range (i + 1)).map f = (List.range i).map f ++ [f i] := by
  rw [List.range_succ, List.map_append]
  rfl
theorem walk_rng {n : Nat} : Walk (Itr 0 n) n (fun _ => True) (fun i H x H' => H' = H ∧ x = .int ((i : Nat) : Int)) :=
  walk_range.mono (fun _ h => h) fun i H x H' _ _ y => ⟨y.1, by rw [y.2]; show V.int (0 + (i : Int)) = _; rw [Int.zero_add]⟩
def rLenQ (K : PySem.W.Frag) : List V → Hp → VK → Prop := fun xs H Q => ∃ p ys, xs = [.ref p] ∧ (SqL K H p ys ∨ SqT K H p ys) ∧ Q (.int ys.length) H
end KX

set_option Elab.async false
set_option maxRecDepth 100000
set_option maxHeartbeats 2000000
/-! len, bool, abs, in, ==, >>, + of own instances, by own methods; max(.., default=). -/
namespace KX
open PySem PySem.Spec PySem.Calls PyProof.Rows L2
section
variable {X : Cx} {pins : List (Addr × Obj)} {σ : L2.St} {H : Hp} {s : Shared} {CX : CXT} {k : Nat} {f C : Addr} {fd : FuncData} {ps : List Str} {sp : Sp} {E : XK}
/-- f called by a built-in, one call deep -/
theorem run_in1 {us : List Value} {vs : List V} {Q : VK} (F : FnOk X.prog X.w X.K X.mg X.base CX k f fd ps sp) (hr : Room (k + 1) X.A) (hb : Binds X.K fd ps []) (hx : Passes CX X E) (I : Inv X pins σ H s) (r : Vals vs us) (h : sp vs H Q E) :
    wpAny (model X.prog X.w) X.A.in1 (call (.ref f) us) (EP X pins σ Q) X.xe s := by
  have hl : (us ++ []).length = ps.length := by
    rw [List.append_nil, ← r.length]
    exact F.len _ _ _ _ h
  have hbi := hb s us I.kIn hl
  rw [List.append_nil] at hbi
  refine wpAny_call (codeAny_mono (F.run X.A.in1 X.stack s H ⟨us, []⟩ us vs Q E hr.in1 I.env0.in1 hbi r h) fun res s' z => ?_)
  match res, z with
  | .error e, z => exact hx pins σ H s e s' I z
  | .ok (.ret u), z => exact I.after z
  | .ok .next, z => exact False.elim z
  | .ok .brk, z => exact False.elim z
  | .ok .cont, z => exact False.elim z
theorem run_in0 {us : List Value} {vs : List V} {Q : VK} (F : FnOk X.prog X.w X.K X.mg X.base CX k f fd ps sp) (hr : Room k X.A) (hb : Binds X.K fd ps []) (hx : Passes CX X E) (I : Inv X pins σ H s) (r : Vals vs us) (h : sp vs H Q E) :
    wpAny (model X.prog X.w) X.A (call (.ref f) us) (EP X pins σ Q) X.xe s :=
  run_fn (dvs := []) F hr hb .nil hx I r (by rw [List.append_nil]; exact h)
/-- an instance of C that H tracks -/
abbrev InsT (H : Hp) (a C : Addr) : Prop := ∃ dx fs, H a = some (.ins C dx fs)
theorem insT_at (I : Inv X pins σ H s) {a : Addr} (h : InsT H a C) : ∃ ox od, PySem.W.InstAt s.heap a ox C od := by
  obtain ⟨dx, fs, h⟩ := h
  obtain ⟨mA, O, _⟩ := ins_get I.hok h
  obtain ⟨od, J, _⟩ := O.look
  exact ⟨_, _, J⟩
/-- len(o) -/
theorem call_lenO (m : Meth X.K C "__len__" f) (F : FnOk X.prog X.w X.K X.mg X.base CX k f fd ps sp) (hr : Room (k + 1) X.A) (hb : Binds X.K fd ps []) (hx : Passes CX X E) :
    CallR X (.builtin "len") (fun xs H Q => ∃ a, xs = [.ref a] ∧ InsT H a C ∧ sp [.ref a] H (fun v H' => ∃ n : Nat, v = .int n ∧ n < 2 ^ 62 ∧ Q (.int n) H') E) := by
  intro pins s σ H xs us Q I r h
  obtain ⟨a, rfl, hi, q⟩ := h
  obtain rfl := Vals.ref1 r
  obtain ⟨ox, od, J⟩ := insT_at I hi
  obtain ⟨m', fr⟩ := I.fr
  refine PySem.W.len_K fr I.mod.kin J m.at_ m.fn (wpAny_mono (run_in1 F hr hb hx I r q) (fun u s' z => ?_) fun _ _ z => z)
  obtain ⟨v, H', I', rv, n, rfl, hn, q'⟩ := z
  obtain ⟨t, rfl⟩ := rv
  exact ⟨⟨by omega, by omega⟩, .int n, H', I'.tok _, ⟨_, rfl⟩, q'⟩
/-- the truth of o -/
theorem truthy_O (m : Meth X.K C "__bool__" f) (F : FnOk X.prog X.w X.K X.mg X.base CX k f fd ps sp) (hr : Room k X.A) (hb : Binds X.K fd ps []) (hx : Passes CX X E) {a : Addr} {Q : Bool → Hp → Prop} (I : Inv X pins σ H s) (hi : InsT H a C)
    (q : sp [.ref a] H (fun v H' => ∃ b, v = .bl b ∧ Q b H') E) : wpAny (model X.prog X.w) X.A (truthy (.ref a)) (TP X pins σ Q) X.xe s := by
  obtain ⟨ox, od, J⟩ := insT_at I hi
  obtain ⟨m', fr⟩ := I.fr
  refine PySem.W.truthy_K fr I.mod.kin J m.at_ m.fn (wpAny_mono (run_in0 F hr hb hx I (us := [.ref a]) (vs := [.ref a]) (.cons rfl .nil) q) (fun u s' z => ?_) fun _ _ z => z)
  obtain ⟨v, H', I', rv, b, rfl, q'⟩ := z
  cases (show u = Value.bool b from rv)
  exact ⟨H', I', q'⟩
/-- x in o -/
theorem op_inO (m : Meth X.K C "__contains__" f) (F : FnOk X.prog X.w X.K X.mg X.base CX k f fd ps sp) (hr : Room k X.A) (hb : Binds X.K fd ps []) (hx : Passes CX X E) :
    OpR X (compareOp .In) (fun x y H Q => ∃ a, y = .ref a ∧ InsT H a C ∧ sp [.ref a, x] H (fun v H' => ∃ b, v = .bl b ∧ Q (.bl b) H') E) := by
  intro pins s σ H x y v u Q I rx ry h
  obtain ⟨a, rfl, hi, q⟩ := h
  cases (show u = Value.ref a from ry)
  obtain ⟨ox, od, J⟩ := insT_at I hi
  obtain ⟨m', fr⟩ := I.fr
  refine PySem.W.in_K fr I.mod.kin J m.at_ m.fn (wpAny_mono (run_in0 F hr hb hx I (us := [.ref a, v]) (vs := [.ref a, x]) (.cons rfl (.cons rx .nil)) q) (fun u s' z => ?_) fun _ _ z => z)
  obtain ⟨v', H', I', rv, b, rfl, q'⟩ := z
  cases (show u = Value.bool b from rv)
  exact wpAny_truthy_bool ⟨.bl b, H', I', rfl, q'⟩
theorem op_notInO (m : Meth X.K C "__contains__" f) (F : FnOk X.prog X.w X.K X.mg X.base CX k f fd ps sp) (hr : Room k X.A) (hb : Binds X.K fd ps []) (hx : Passes CX X E) :
    OpR X (compareOp .NotIn) (fun x y H Q => ∃ a, y = .ref a ∧ InsT H a C ∧ sp [.ref a, x] H (fun v H' => ∃ b, v = .bl b ∧ Q (.bl (!b)) H') E) := by
  intro pins s σ H x y v u Q I rx ry h
  obtain ⟨a, rfl, hi, q⟩ := h
  cases (show u = Value.ref a from ry)
  obtain ⟨ox, od, J⟩ := insT_at I hi
  obtain ⟨m', fr⟩ := I.fr
  refine PySem.W.notIn_K fr I.mod.kin J m.at_ m.fn (wpAny_mono (run_in0 F hr hb hx I (us := [.ref a, v]) (vs := [.ref a, x]) (.cons rfl (.cons rx .nil)) q) (fun u s' z => ?_) fun _ _ z => z)
  obtain ⟨v', H', I', rv, b, rfl, q'⟩ := z
  cases (show u = Value.bool b from rv)
  exact wpAny_truthy_bool ⟨.bl (!b), H', I', rfl, q'⟩
/-- abs(o) -/
theorem call_absO (m : Meth X.K C "__abs__" f) (F : FnOk X.prog X.w X.K X.mg X.base CX k f fd ps sp) (hr : Room (k + 1) X.A) (hb : Binds X.K fd ps []) (hx : Passes CX X E) :
    CallR X (.builtin "abs") (fun xs H Q => ∃ a, xs = [.ref a] ∧ InsT H a C ∧ sp [.ref a] H Q E) := by
  intro pins s σ H xs us Q I r h
  obtain ⟨a, rfl, hi, q⟩ := h
  obtain rfl := Vals.ref1 r
  obtain ⟨ox, od, J⟩ := insT_at I hi
  refine call_function_entry kind_abs plain_abs entry_abs (args_abs _) ?_
  unfold Builtin.«abs»
  refine wpAny_bind (m := oneArg "abs" _) (wpAny_pure ?_)
  refine wpAny_bind (m := callSpecial? (.ref a) (Str.ofString "__abs__")) ?_
  refine PySem.W.special_fn I.kIn J m.at_ (beq_iff_eq.mp m.fn) ?_
  exact wpAny_mono (run_in1 F hr hb hx I r q) (fun u s' z => wpAny_pure ⟨u, rfl, z⟩) fun _ _ z => z
/-- max(xs, default=d), of whole numbers -/
def rMaxD (K : PySem.W.Frag) : List V → List V → Hp → VK → Prop := fun xs zs H Q => ∃ (a : Addr) (ns : List Int) (d : Int), xs = [.ref a] ∧ zs = [.int d] ∧ SqL K H a (ns.map V.int) ∧
  Q (.int (match ns with | [] => d | n :: r => r.foldl max n)) H
theorem cr_maxD (hc : X.calm = true) (hu : X.A.units + 64 < cLine) : CallRK X (.builtin "max") [Str.ofString "default"] (rMaxD X.K) := by
  intro pins s σ H xs zs us ws Q I r rz h
  obtain ⟨a, ns, d, rfl, rfl, hs, q⟩ := h
  obtain rfl := Vals.ref1 r
  obtain ⟨ud, rfl, td, rfl⟩ := vals1 rz
  obtain ⟨its, rv, hl, _⟩ := I.list hs
  obtain ⟨as, ra⟩ : ∃ as, ReadsAll s.heap its (ns.map PyData.int) as := by
    clear hs hl q
    rename_i hlen
    clear hlen
    induction ns generalizing its with
    | nil => cases rv; exact ⟨_, .nil⟩
    | cons n r ih =>
      cases rv with
      | cons h t =>
        obtain ⟨tk, rfl⟩ := h
        obtain ⟨as, ra⟩ := ih _ t
        exact ⟨_, .cons (.int _ _) ra⟩
  have dep : PyData.depthAll (ns.map PyData.int) = 0 := by
    clear ra hs q rv hl
    rename_i hlen
    clear hlen
    induction ns with
    | nil => rfl
    | cons n r ih => exact Nat.le_zero.mp (Nat.max_le.mpr ⟨Nat.le_refl _, Nat.le_of_eq ih⟩)
  refine PySem.W.max_list_default (I.ok.hd hc) hl.isList (by simpa using ra) ⟨fun x hx y hy => by
    obtain ⟨i, _, rfl⟩ := List.mem_map.mp hx
    obtain ⟨j, _, rfl⟩ := List.mem_map.mp hy
    rfl, fun x hx => by
    obtain ⟨i, _, rfl⟩ := List.mem_map.mp hx
    exact nofun⟩ (by rw [dep]; omega) (fun e h' tk kp => ?_) (fun y ys i v h' tk bs e hv hr kp => ?_)
  · have e0 : ns = [] := List.map_eq_nil_iff.mp e
    subst e0
    exact ⟨.int d, H, I.kept (t' := tk) kp, ⟨_, rfl⟩, q⟩
  · cases ns with
    | nil => cases e
    | cons n r =>
      cases e
      rw [PySem.W.maxD_ints] at hr
      cases hr
      exact ⟨.int _, H, I.kept (t' := tk) kp, ⟨_, rfl⟩, q⟩
/-- bool(o) -/
theorem bool_in {prog : Program} {w : World} (x : Value) : MeetsIn prog w (Builtin.«bool.__new__» ⟨[.type "bool", x], []⟩) (fun A R s => wpAny (model prog w) A.in1 (truthy x) (fun b s' => R (.ok (.ret (.bool b))) s') (fun e s' => R (.error e) s') s) :=
  .of_wp fun A R s h => by
    have f1 := F.conv_sub_bool
    obtain ⟨hp, g, d, tk, os⟩ := s
    repeat (any_goals (first | assumption | (with_reducible refine wpAny_bind (wpAny_mono h (fun b s' z => ?_) fun _ _ e => e)) | wp_step))
    exact ⟨_, rfl, z⟩
theorem op_eqO (m : Meth X.K C "__eq__" f) (F : FnOk X.prog X.w X.K X.mg X.base CX k f fd ps sp) (hr : Room k X.A) (hb : Binds X.K fd ps []) (hx : Passes CX X E) (hu : X.A.units < cLine) :
    OpR X (compareOp .Eq) (fun x y H Q => ∃ (a : Addr) (t : Value), x = .ref a ∧ InsT H a C ∧ TyX X.K H y t ∧ PySem.W.notFirst X.K C t = true ∧ sp [.ref a, y] H (fun v H' => ∃ b, v = .bl b ∧ Q (.bl b) H') E) := by
  intro pins s σ H x y v u Q I rx ry h
  obtain ⟨a, t, rfl, hi, ty, hn, q⟩ := h
  cases (show v = Value.ref a from rx)
  obtain ⟨ox, od, J⟩ := insT_at I hi
  obtain ⟨m', fr⟩ := I.fr
  obtain ⟨P, Z, p, _⟩ := kit_of I ry ty
  show wpAny _ _ (richCompare .Eq (.ref a) u) _ _ _
  refine PySem.W.cmp_K (op := .Eq) hu fr I.mod.kin J (Z.ty _ _ I.kIn p) hn m.at_ m.fn (wpAny_mono (run_in0 F hr hb hx I (us := [.ref a, u]) (vs := [.ref a, y]) (.cons rfl (.cons ry .nil)) q) (fun w s' z => ?_) fun _ _ z => z)
  obtain ⟨v', H', I', rv, b, rfl, q'⟩ := z
  cases (show w = Value.bool b from rv)
  exact ⟨.bl b, H', I', rfl, q'⟩
/-- bool(x), by the truth of x -/
theorem bool_of {x : Value} {Q : Bool → Hp → Prop} {R : VK} (h : wpAny (model X.prog X.w) X.A.in1.in1 (truthy x) (TP X pins σ Q) X.xe s) (q : ∀ b H', Q b H' → R (.bl b) H') : wpAny (model X.prog X.w) X.A (call (.type "bool") [x]) (EP X pins σ R) X.xe s :=
  callType_newIn F.called_bool F.newNe_bool (F.typeCall_bool_1 x) (F.newCall_bool_1 x) (fun obj => F.args_object_init_2 obj x) F.entry_bool_new (bool_in x) (wpAny_mono h (fun b s' z => by
    obtain ⟨H', I', q'⟩ := z
    exact ⟨PySem.typeIs_bool _ _, .bl b, H', I', rfl, q b H' q'⟩) fun _ _ z => z)
theorem run_in22 {us : List Value} {vs : List V} {Q : VK} (F : FnOk X.prog X.w X.K X.mg X.base CX k f fd ps sp) (hr : Room (k + 2) X.A) (hb : Binds X.K fd ps []) (hx : Passes CX X E) (I : Inv X pins σ H s) (r : Vals vs us) (h : sp vs H Q E) :
    wpAny (model X.prog X.w) X.A.in1.in1 (call (.ref f) us) (EP X pins σ Q) X.xe s := by
  have hl : (us ++ []).length = ps.length := by
    rw [List.append_nil, ← r.length]
    exact F.len _ _ _ _ h
  have hbi := hb s us I.kIn hl
  rw [List.append_nil] at hbi
  refine wpAny_call (codeAny_mono (F.run X.A.in1.in1 X.stack s H ⟨us, []⟩ us vs Q E hr.in1.in1 I.env0.in1.in1 hbi r h) fun res s' z => ?_)
  match res, z with
  | .error e, z => exact hx pins σ H s e s' I z
  | .ok (.ret u), z => exact I.after z
  | .ok .next, z => exact False.elim z
  | .ok .brk, z => exact False.elim z
  | .ok .cont, z => exact False.elim z
/-- bool(o) -/
theorem call_boolO (m : Meth X.K C "__bool__" f) (F : FnOk X.prog X.w X.K X.mg X.base CX k f fd ps sp) (hr : Room (k + 2) X.A) (hb : Binds X.K fd ps []) (hx : Passes CX X E) :
    CallR X (.type "bool") (fun xs H Q => ∃ a, xs = [.ref a] ∧ InsT H a C ∧ sp [.ref a] H (fun v H' => ∃ b, v = .bl b ∧ Q (.bl b) H') E) := by
  intro pins s σ H xs us Q I r h
  obtain ⟨a, rfl, hi, q⟩ := h
  obtain rfl := Vals.ref1 r
  obtain ⟨ox, od, J⟩ := insT_at I hi
  obtain ⟨m', fr⟩ := I.fr
  refine bool_of (Q := fun b H' => Q (.bl b) H') (PySem.W.truthy_K fr I.mod.kin J m.at_ m.fn (wpAny_mono (run_in22 F hr hb hx I r q) (fun u s' z => ?_) fun _ _ z => z)) fun b H' q => q
  obtain ⟨v, H', I', rv, b, rfl, q'⟩ := z
  cases (show u = Value.bool b from rv)
  exact ⟨H', I', q'⟩
/-- bool(t), t a tuple -/
theorem call_boolT : CallR X (.type "bool") (fun xs H Q => ∃ (a : Addr) (zs : List V), xs = [.ref a] ∧ SqT X.K H a zs ∧ Q (.bl (!zs.isEmpty)) H) := by
  intro pins s σ H xs us Q I r h
  obtain ⟨a, zs, rfl, hq, q⟩ := h
  obtain rfl := Vals.ref1 r
  obtain ⟨its, rv, pl, hz⟩ := I.tuple hq
  have hl := line63
  have hlen := rv.length
  exact bool_of (Q := fun b H' => Q (.bl b) H') (truthy_tuple pl (by simp only [List.size_toArray]; omega) ⟨H, I.tok _, by rw [isEmpty_of rv]; exact q⟩) fun b H' q => q
end
end KX

set_option Elab.async false
set_option maxRecDepth 100000
set_option maxHeartbeats 0
namespace K04
open PySem PySem.Spec PyProof.Rows L2 He KX
def top (i : Nat) : Stmt := PySem.Challenge.pw_rowsinplace_k04_whole_faults_of_slides.main.body.getD i (.Pass ⟨0, 0, 0, 0⟩)
def vT : List Value := [.type "ValueError", .type "Exception", .type "BaseException", .type "object"]
def frees : List Str := ["len", "range", "isinstance", "enumerate", "max", "min", "abs", "int", "any", "all", "list", "tuple", "sorted", "bool", "sum", "zip"]
def gls : List Str := (["is_integer", "PlaceError", "BadSlide", "Slide", "_is_piece", "_is_end", "_is_ahead", "_meet", "_first_bad", "_start", "_normal", "_holds", "_moved", "_runs", "_common", "_composed", "_runs_within", "_first_low", "_first_high", "_first_double"] : List Str) ++ (["_have_common_image", "_double", "_law_bag", "_law_draw", "_law_of", "_law_pieces", "_law_slide", "_law_by", "_law_to", "_law_ends", "_law_shuffled", "_law_blocks", "_law_starts", "_law_candidates", "_law_fault", "_law_is_image", "law"] : List Str)
def badB (K : PySem.W.Frag) : Bool :=
  let C := ga K "BadSlide"
  exkB K C vT "ValueError.__new__" && (xfB K C && (decide (PySem.W.typeIn K (.ref C) = some (.type "type")) && (eqO (PySem.W.findIn K (.ref C) "index") (some none) && (eqO (PySem.W.findIn K (.ref C) "__init__") (some (some (.ref (ma K C "__init__")))) && (PySem.W.isFn K (.ref (ma K C "__init__"))
  && (decide (PySem.W.exmOne K (.ref C) (.ref C) = some true)
  && (decide (PySem.W.kitOne K (.ref C) (.ref (ga K "PlaceError")) = some true) && decide (PySem.W.kitOne K (.ref C) (.type "ValueError") = some true))))))))
def meths : List Str := ["__call__", "__rshift__", "__add__", "__radd__", "__eq__", "first_fault"]
def sldB (K : PySem.W.Frag) : Bool :=
  let C := ga K "Slide"
  (Fa.mkr "Slide").ok K && ((Fa.cls "Slide").ok K && ((Fa.noat "Slide" "pieces").ok K && ((meths.all fun m => (Fa.meth "Slide" m).ok K) && (PySem.W.fnIn K (ma K C "__call__")
  && (decide (PySem.W.kitOne K (.ref C) (.ref C) = some true) && (decide (PySem.W.kitOne K (.type "list") (.ref C) = some false) && (decide (PySem.W.kitOne K (.type "tuple") (.ref C) = some false)
  && (PySem.W.notFirst K C (.ref C) && (PySem.W.notFirst K C (.type "list") && (PySem.W.notFirst K C (.type "tuple")
  && (eqO (PySem.W.findIn K (.ref C) "__class__") (some (some (.builtin "object.__class__"))) && (decide (PySem.W.mroIn K C (.type "object") = some true)
  && (eqO (PySem.W.specialIn K (.builtin "object.__class__") "__get__") (some (some (.builtin "getset_descriptor.__get__"))) && (decide (PySem.W.takesIn K (.builtin "object.__class__") = some true)
  && (PySem.W.selfFirst K C && (eqO (PySem.W.findIn K (.ref C) (PySem.dunder "rshift")) (some (some (.ref (ma K C "__rshift__")))) && (eqO (PySem.W.findIn K (.ref C) (PySem.dunder "add")) (some (some (.ref (ma K C "__add__"))))
  && (eqO (PySem.W.findIn K (.ref C) (PySem.dunderR "add")) (some (some (.ref (ma K C "__radd__")))) && (eqO (PySem.W.findIn K (.ref C) "__ne__") (some (some (.builtin "object.__ne__")))
  && (eqO (PySem.W.findIn K (.type "int") (PySem.dunder "add")) (some (some (.builtin "int.__add__"))) && (eqO (PySem.W.findIn K (.type "int") (PySem.dunderR "add")) (some (some (.builtin "int.__radd__")))
  && (decide (PySem.W.subIn K (.ref C) (.type "int") = some false) && (decide (PySem.W.subIn K (.type "int") (.ref C) = some false) && decide (PySem.W.kitOne K (.ref C) (.type "list") = some false))))))))))))))))))))))))
def chk (K : PySem.W.Frag) : Bool := badB K && (sldB K && ((frees.all fun x => (Fa.free x).ok K) && (gls.all fun x => (Fa.glo x).ok K)))
def methD (i j : Nat) (c m : Str) : DefD := ⟨(c, some m), m, c ++ "." ++ m, defArgs (inClass (top i) j), defBody (inClass (top i) j), defScope (inClass (top i) j), [], []⟩
def initD (i : Nat) (c : Str) : DefD := ⟨(c, some "__init__"), "__init__", c ++ ".__init__", defArgs (inClass (top i) 0), defBody (inClass (top i) 0), defScope (inClass (top i) 0), [], []⟩
def fnD (i : Nat) (x : Str) : DefD := ⟨(x, none), x, x, defArgs (top i), defBody (top i), defScope (top i), [], []⟩
def fn : List DefD := [fnD 2 "is_integer", initD 5 "BadSlide", initD 7 "Slide", fnD 8 "_is_piece", fnD 9 "_is_end", fnD 10 "_is_ahead", fnD 11 "_meet", fnD 12 "_first_bad", fnD 13 "_start", fnD 14 "_normal", fnD 16 "_moved", fnD 17 "_runs", fnD 18 "_common", fnD 20 "_runs_within", fnD 21 "_first_low", fnD 22 "_first_high", fnD 23 "_first_double", fnD 24 "_have_common_image", fnD 25 "_double", fnD 27 "_law_bag", fnD 28 "_law_draw", fnD 29 "_law_of", fnD 30 "_law_pieces", fnD 31 "_law_slide", fnD 32 "_law_by", fnD 33 "_law_to", fnD 35 "_law_shuffled", fnD 36 "_law_blocks", fnD 37 "_law_starts", fnD 38 "_law_candidates", fnD 39 "_law_fault", fnD 40 "_law_is_image", fnD 41 "law", methD 7 11 "Slide" "first_fault"]
abbrev R : PySem.W.OpenRow := PySem.W.OpenLaw.row PySem.Challenge.rw_rowsinplace_k04_whole_faults_of_slides
abbrev hk : PySem.W.Hook := hookX 4 chk fn
def ob (s : PySem.W.SharedT) : Bool × List FnW := lookX 4 chk fn (HandSHeadRun.getT s)
theorem ob_eq (s : PySem.W.SharedT) : ob s = hk.obs s.abs := lookX_eq (HandSHeadRun.getT_eq s)
def loose : List Str := (["_wall", "is_integer", "PlaceError", "BadSlide", "Slide", "_is_piece", "_is_end", "_is_ahead", "_meet", "_first_bad", "_start", "_normal", "_holds", "_moved", "_runs", "_common", "_composed", "_runs_within", "_first_low", "_first_high"] : List Str) ++ (["_first_double", "_have_common_image", "_double", "_law_bag", "_law_draw", "_law_of", "_law_pieces", "_law_slide", "_law_by", "_law_to", "_law_ends", "_law_shuffled", "_law_blocks", "_law_starts", "_law_candidates", "_law_fault", "_law_is_image"] : List Str)
theorem run (w : World) : HandSHeadRun.RunEq R (PySem.W.view R.prog [41]) hk ob 20000 loose w := by
  intro os
  kernel_rfl
end K04

set_option Elab.async false
set_option maxRecDepth 100000
set_option maxHeartbeats 2000000
namespace K04
open PySem PySem.Spec PyProof.Rows L2 KX
abbrev sBag : Stmt := top 27
abbrev sDraw : Stmt := top 28
abbrev sOf : Stmt := top 29



abbrev sLaw : Stmt := top 41
abbrev FnP (K : PySem.W.Frag) (x : Str) (st : Stmt) (f : Addr) (fd : FuncData) : Prop := FunD K x x (defArgs st) (defBody st) (defScope st) [] [] f fd
section
variable {P : Program} {w : World} {K : PySem.W.Frag} {mg : Str → Option Value} {base : Heap}
theorem scBag : FnScope ["script", "at", "cell", "digits"] ["script", "at"] (defScope sBag) := ⟨rfl, rfl, rfl, by decide +kernel, rfl, by decide +kernel, by decide +kernel⟩
theorem ok_bag {f : Addr} {fd : FuncData} (F : FnP K "_law_bag" sBag f fd) (gLen : mg "len" = none) (gAbs : mg "abs" = none) (gInt : mg "int" = none) : FnOk P w K mg base CX0 1 f fd ["script", "at"] (spBag K) := by
  refine F.ok scBag (fun vs H Q E h => ?_) (fun cdv A outer s H vs Q E hr h => ?_)
  · obtain ⟨a, ns, i, rfl, _⟩ := h
    rfl
  · obtain ⟨a, ns, i, rfl, hS, hl, hi, k⟩ := h
    refine ⟨_, PSs.nox (pss_cons (ps_set (i := 2) scBag.nd rfl (Or.inl rfl) (pe_ifExp (pt_cmpR op_lt (pv 1) (pe_callB call_len_seq (by rfl) gLen PySem.boot_len (pa_cons (pv 0) pa_nil)) (nomark _)) (pe_ix ix_list (pv 0) (pv 1) (fun _ _ => rfl)) pe_int))
      (pss_cons (ps_set (i := 3) scBag.nd rfl (Or.inl rfl) (pe_ifExp (pt_cmpR op_ge (pe_callB call_abs (by rfl) gAbs (by decide +kernel) (pa_cons (pv 2) pa_nil)) (pe_op op_pow pe_int pe_int) (nomark _)) (pe_callB call_abs (by rfl) gAbs (by decide +kernel) (pa_cons (pv 2) pa_nil)) pe_int))
      (pss_one (ps_ret (pe_lst (pa_cons (pv 3) (pa_cons (pe_op op_add (pe_op op_add (pe_op op_modN (pe_callTy call_int1 (by rfl) gInt (by decide +kernel) (pa_cons (pv 2) pa_nil)) pe_int) (pe_op op_mul pe_int (pv 1))) pe_int) (pa_cons pe_int pa_nil)))))))), ?_⟩
    have fin : ∀ (d z : Int), 0 ≤ d → ∀ (p : Addr), H p = none → Q (.ref p) (upd H p (.lst [.int d, .int (z.fmod 1152921504606846883 + 7001 * (i : Int) + 17), .int 0])) := by
      intro d z hd p hp
      obtain ⟨h1, h2⟩ := fmod_in (x := z) (y := 1152921504606846883) (by decide)
      exact k p _ hp (Kept.new hp) (fun x n => upd_ne n) ⟨d, _, 0, upd_same, hd, by omega, by omega, by decide, by decide⟩
    refine ⟨_, rfl, _, rfl, _, _, rfl, .inl hS, _, _, rfl, rfl, _, rfl, ?_⟩
    refine ite2 (fun c => ?_) (fun c => ?_)
    · have ci : i < ns.length := by
        have c' : (i : Int) < ((ns.map V.int).length : Int) := of_decide_eq_true c
        rw [List.length_map] at c'
        omega
      have hx : (ns.map V.int)[i]? = some (.int ns[i]) := by
        rw [List.getElem?_map, List.getElem?_eq_getElem ci]
        rfl
      refine ⟨_, rfl, _, rfl, _, _, _, _, rfl, rfl, hS, atI_nat hx, ?_⟩
      refine ⟨_, rfl, _, rfl, _, _, rfl, rfl, ⟨by decide, by decide, by decide⟩, _, _, rfl, rfl, _, rfl, ?_⟩
      refine ite2 (fun c2 => ?_) (fun c2 => ?_)
      · refine ⟨_, rfl, _, rfl, _, rfl, _, rfl, .inl ⟨_, rfl, _, _, rfl, rfl, (by show (1152921504606846883 : Int) ≠ 0; decide), _, rfl, _, _, rfl, rfl, .inl ⟨by decide, by decide⟩, _, _, rfl, rfl, _, _, rfl, rfl, ?_⟩⟩
        exact ⟨(by show 3 ≤ sizeLine; decide), fun p hp => fin _ _ (by split <;> omega) p hp⟩
      · refine ⟨_, rfl, _, rfl, .inl ⟨_, rfl, _, _, rfl, rfl, (by show (1152921504606846883 : Int) ≠ 0; decide), _, rfl, _, _, rfl, rfl, .inl ⟨by decide, by decide⟩, _, _, rfl, rfl, _, _, rfl, rfl, ?_⟩⟩
        exact ⟨(by show 3 ≤ sizeLine; decide), fun p hp => fin _ _ (by decide) p hp⟩
    · refine ⟨_, rfl, _, rfl, _, _, rfl, rfl, ⟨by decide, by decide, by decide⟩, _, _, rfl, rfl, _, rfl, ?_⟩
      refine ite2 (fun c2 => ?_) (fun c2 => ?_)
      · refine ⟨_, rfl, _, rfl, _, rfl, _, rfl, .inl ⟨_, rfl, _, _, rfl, rfl, (by show (1152921504606846883 : Int) ≠ 0; decide), _, rfl, _, _, rfl, rfl, .inl ⟨by decide, by decide⟩, _, _, rfl, rfl, _, _, rfl, rfl, ?_⟩⟩
        exact ⟨(by show 3 ≤ sizeLine; decide), fun p hp => fin _ _ (by split <;> omega) p hp⟩
      · refine ⟨_, rfl, _, rfl, .inl ⟨_, rfl, _, _, rfl, rfl, (by show (1152921504606846883 : Int) ≠ 0; decide), _, rfl, _, _, rfl, rfl, .inl ⟨by decide, by decide⟩, _, _, rfl, rfl, _, _, rfl, rfl, ?_⟩⟩
        exact ⟨(by show 3 ≤ sizeLine; decide), fun p hp => fin _ _ (by decide) p hp⟩
/-- if bag[0] > 0: a digit; else the next mixed number -/
theorem scDraw : FnScope ["bag", "many", "digit", "mixed"] ["bag", "many"] (defScope sDraw) := ⟨rfl, rfl, rfl, by decide +kernel, rfl, by decide +kernel, by decide +kernel⟩
theorem ok_draw {f : Addr} {fd : FuncData} (F : FnP K "_law_draw" sDraw f fd) (gInt : mg "int" = none) : FnOk P w K mg base CX0 1 f fd ["bag", "many"] spDraw := by
  refine F.ok scDraw (fun vs H Q E h => ?_) (fun cdv A outer s H vs Q E hr h => ?_)
  · obtain ⟨b, n, many, rfl, _⟩ := h
    rfl
  · obtain ⟨b, n, many, rfl, ⟨d, m, c, hb, hd, hm0, hm, hc0, hc⟩, hn, hp, hw, k⟩ := h
    refine ⟨_, PSs.nox (pss_cons (ps_if (pt_cmpR op_gt (pe_ix ix_list (pv 0) pe_int (fun _ _ => rfl)) pe_int (nomark _))
        (pss_cons (ps_set (i := 2) scDraw.nd rfl (Or.inl rfl) (pe_op op_modN (pe_callTy call_int1 (by rfl) gInt (by decide +kernel) (pa_cons (pe_ix ix_list (pv 0) pe_int (fun _ _ => rfl)) pa_nil)) (pv 1)))
        (pss_cons (ps_asg (pe_op op_fdivW (pe_ix ix_list (pv 0) pe_int (fun _ _ => rfl)) (pv 1)) (pg_sub (pv 0) pe_int set_list))
        (pss_one (ps_ret (pv 2)))))
        pss_nil)
      (pss_cons (ps_asg (pe_op op_add (pe_ix ix_list (pv 0) pe_int (fun _ _ => rfl)) pe_int) (pg_sub (pv 0) pe_int set_list))
      (pss_cons (ps_set (i := 3) scDraw.nd rfl (Or.inl rfl) (pe_op op_add (pe_op op_pow (pe_op op_add (pe_ix ix_list (pv 0) pe_int (fun _ _ => rfl)) (pe_op op_mul pe_int (pe_ix ix_list (pv 0) pe_int (fun _ _ => rfl)))) pe_int) (pe_op op_mul pe_int (pe_ix ix_list (pv 0) pe_int (fun _ _ => rfl)))))
      (pss_cons (ps_set (i := 3) scDraw.nd rfl (Or.inl rfl) (pe_op op_modN (pe_callTy call_int1 (by rfl) gInt (by decide +kernel) (pa_cons (pv 3) pa_nil)) pe_int))
      (pss_cons (ps_set (i := 3) scDraw.nd rfl (Or.inl rfl) (pe_op op_modN (pe_callTy call_int1 (by rfl) gInt (by decide +kernel) (pa_cons (pe_op op_pow (pe_op op_add (pv 3) (pe_op op_mul pe_int (pe_ix ix_list (pv 0) pe_int (fun _ _ => rfl)))) pe_int) pa_nil)) pe_int))
      (pss_one (ps_ret (pe_op op_modN (pe_callTy call_int1 (by rfl) gInt (by decide +kernel) (pa_cons (pe_op op_fdivN (pv 3) pe_int) pa_nil)) (pv 1))))))))), ?_⟩
    refine ⟨_, rfl, _, _, _, _, rfl, rfl, SqL.of hb, rfl, _, _, rfl, rfl, _, rfl, ?_⟩
    refine ite2 (fun c0 => ?_) (fun c0 => ?_)
    · obtain ⟨f1, f2⟩ := fmod_in (x := d) hp
      refine ⟨_, rfl, _, _, _, _, rfl, rfl, SqL.of hb, rfl, .inl ⟨_, rfl, _, rfl, _, _, rfl, rfl, (by show many ≠ 0; omega), ?_⟩⟩
      refine ⟨_, rfl, _, _, _, _, rfl, rfl, SqL.of hb, rfl, _, rfl, _, _, rfl, rfl, wide_div hp hw (by decide) (by decide), _, rfl, b, _, 0, _, rfl, rfl, hb, rfl, _, rfl, ?_⟩
      refine k _ _ f1 f2 (fun x nx => upd_ne nx) ⟨d / many, m, c, upd_same, Int.ediv_nonneg hd (by omega), hm0, hm, hc0, by omega⟩
    · refine ⟨_, rfl, _, _, _, _, rfl, rfl, SqL.of hb, rfl, _, _, rfl, rfl, _, rfl, b, _, 2, _, rfl, rfl, hb, rfl, ?_⟩
      have hb2 : upd H b (.lst [.int d, .int m, .int (c + 1)]) b = some (.lst [.int d, .int m, .int (c + 1)]) := upd_same
      refine ⟨_, rfl, _, _, _, _, rfl, rfl, SqL.of hb2, rfl, _, rfl, _, _, _, _, rfl, rfl, SqL.of hb2, rfl, _, _, rfl, rfl, .inl ⟨by decide, by decide⟩, _, _, rfl, rfl, _, _, rfl, rfl, draw_pow hm0 hm hc0 (by omega), ?_⟩
      refine ⟨_, rfl, _, _, _, _, rfl, rfl, SqL.of hb2, rfl, _, _, rfl, rfl, .inl ⟨by decide, by decide⟩, _, _, rfl, rfl, ?_⟩
      refine ⟨_, rfl, .inl ⟨_, rfl, _, _, rfl, rfl, (by show (1152921504606846869 : Int) ≠ 0; decide), ?_⟩⟩
      refine ⟨_, rfl, _, rfl, _, _, _, _, rfl, rfl, SqL.of hb2, rfl, _, _, rfl, rfl, .inl ⟨by decide, by decide⟩, _, _, rfl, rfl, _, _, rfl, rfl, draw_pow3 (fmod_in (by decide)).1 (fmod_in (by decide)).2 hc0 (by omega), .inl ⟨_, rfl, _, _, rfl, rfl, (by show (2305843009213693951 : Int) ≠ 0; decide), ?_⟩⟩
      refine ⟨_, rfl, _, _, rfl, rfl, ⟨by decide, by decide⟩, .inl ⟨_, rfl, _, rfl, _, _, rfl, rfl, (by show many ≠ 0; omega), ?_⟩⟩
      exact k _ _ (fmod_in hp).1 (fmod_in hp).2 (fun x nx => upd_ne nx) ⟨d, m, c + 1, upd_same, hd, hm0, hm, by omega, by omega⟩
theorem scOf : FnScope ["bag", "some"] ["bag", "some"] (defScope sOf) := ⟨rfl, rfl, rfl, by decide +kernel, rfl, by decide +kernel, by decide +kernel⟩
theorem ok_of {f fD : Addr} {fd fdD : FuncData} (F : FnP K "_law_of" sOf f fd) (FD : FnP K "_law_draw" sDraw fD fdD) (gD : mg "_law_draw" = some (.ref fD)) (gLen : mg "len" = none) (gInt : mg "int" = none) : FnOk P w K mg base CX0 2 f fd ["bag", "some"] (spOf K) := by
  have GD : FnOk P w K mg base CX0 1 fD fdD ["bag", "many"] spDraw := ok_draw FD gInt
  have bD : Binds K fdD ["bag", "many"] [] := FD.bindsN fun _ _ _ _ _ _ us hl => match us, hl with | [_, _], _ => rfl
  refine F.ok scOf (fun vs H Q E h => ?_) (fun cdv A outer s H vs Q E hr h => ?_)
  · obtain ⟨b, l, n, xs, rfl, _⟩ := h
    rfl
  · obtain ⟨b, l, n, xs, rfl, hB, hn, nlb, hS, h0, h1, k⟩ := h
    refine ⟨_, PSs.nox (pss_one (ps_ret (pe_ix ix_list (pv 1) (pe_call GD hr rfl gD FD.kp bD .nil pass0 (pa_cons (pv 0) (pa_cons (pe_callB call_len_seq (by rfl) gLen PySem.boot_len (pa_cons (pv 1) pa_nil)) pa_nil))) (fun _ _ => rfl)))), ?_⟩
    refine ⟨_, rfl, _, rfl, _, rfl, _, _, rfl, .inl hS, b, n, _, rfl, hB, hn, by omega, ?_, fun r H' r0 r1 hk hB' => ?_⟩
    · have e : ((xs.length : Nat) : Int).natAbs = xs.length := by simp
      rw [e]
      exact Nat.lt_of_le_of_lt h1 (by decide)
    · obtain ⟨i, rfl⟩ : ∃ i : Nat, r = i := ⟨r.toNat, by omega⟩
      have hi : i < xs.length := by omega
      have hx : xs[i]? = some xs[i] := List.getElem?_eq_getElem hi
      exact ⟨_, _, _, _, rfl, rfl, hk.kept.seq nlb hS, atI_nat hx, k i _ H' hx hk hB'⟩
end
end K04

set_option Elab.async false
set_option maxRecDepth 100000
set_option maxHeartbeats 2000000
namespace K04
open PySem PySem.Spec PyProof.Rows L2 KX
abbrev sInt : Stmt := top 2
abbrev sIsP : Stmt := top 8
abbrev sIsEnd : Stmt := top 9
abbrev sAhead : Stmt := top 10
abbrev sMeet : Stmt := top 11
abbrev sFirst : Stmt := top 12
abbrev sStart : Stmt := top 13
abbrev sNormal : Stmt := top 14
/-- is_integer -/
def spInt (K : PySem.W.Frag) : Sp := fun vs H Q _ => ∃ (x : V) (t : String), vs = [x] ∧ Kd K H x t ∧ Q (.bl (isI x)) H
/-- _is_end -/
def spEnd (K : PySem.W.Frag) : Sp := fun vs H Q _ => ∃ (x : V) (t : String), vs = [x] ∧ Kd K H x t ∧ Q (.bl (isEnd x)) H
/-- _is_piece -/
def spIsP (K : PySem.W.Frag) : Sp := fun vs H Q _ => ∃ (x : V) (o : Option Pc), vs = [x] ∧ Thing K H x o ∧ ∀ H', Same H H' → Q (.bl o.isSome) H'
/-- a piece that stands at x -/
def IsPc (H : Hp) (x : V) (p : Pc) : Prop := ∃ a, x = .ref a ∧ H a = some (.tup [endV p.1, endV p.2.1, .int p.2.2])
def ahead (p q : Pc) : Bool := match p.2.1, q.1 with
  | some h, some l => decide (h < l)
  | _, _ => false
def meets (p q : Pc) : Bool := !ahead p q && !ahead q p
def sp2 (K : PySem.W.Frag) (g : Pc → Pc → Bool) : Sp := fun vs H Q _ => ∃ (x y : V) (p q : Pc), vs = [x, y] ∧ IsPc H x p ∧ IsPc H y q ∧ Q (.bl (g p q)) H
section
variable {P : Program} {w : World} {K : PySem.W.Frag} {mg : Str → Option Value} {base : Heap}
theorem ite2' {b : Bool} {A B : Prop} (h1 : b = true → A) (h2 : b = false → B) : if b = true then A else B := by
  cases b
  · exact h2 rfl
  · exact h1 rfl
theorem scInt : FnScope ["thing"] ["thing"] (defScope sInt) := ⟨rfl, rfl, rfl, by decide +kernel, rfl, by decide +kernel, by decide +kernel⟩
theorem ok_int {f : Addr} {fd : FuncData} (F : FnP K "is_integer" sInt f fd) (gI : mg "isinstance" = none) (gInt : mg "int" = none) (gB : mg "bool" = none) : FnOk P w K mg base CX0 1 f fd ["thing"] (spInt K) := by
  refine F.ok scInt (fun vs H Q E h => ?_) (fun cdv A outer s H vs Q E hr h => ?_)
  · obtain ⟨x, t, rfl, _⟩ := h
    rfl
  · obtain ⟨x, t, rfl, hk, k⟩ := h
    refine ⟨_, PSs.nox (pss_one (ps_ret (pe_and (pe_callB call_isi (by rfl) gI (by decide +kernel) (pa_cons (pv 0) (pa_cons (pe_bltn (v := .ty "int") (by rfl) gInt (by decide +kernel) rfl) pa_nil)))
      (pe_one (pe_not (pe_callB call_isi (by rfl) gI (by decide +kernel) (pa_cons (pv 0) (pa_cons (pe_bltn (v := .ty "bool") (by rfl) gB (by decide +kernel) rfl) pa_nil)))))))), ?_⟩
    refine ⟨_, rfl, _, _, _, _, _, rfl, .ty _, hk.ty, hk.kInt, _, rfl, ite2' (fun c => ?_) (fun c => ?_)⟩
    · refine ⟨_, rfl, _, _, _, _, _, rfl, .ty _, hk.ty, hk.kBool, _, rfl, ?_⟩
      cases x <;> first | exact k | exact absurd c Bool.false_ne_true
    · have e : isI x = false := by cases x <;> first | rfl | exact absurd c.symm Bool.false_ne_true
      rw [← e]
      exact k
theorem atI_at {xs : List V} {i : Nat} {v : V} (h : xs[i]? = some v) : atI xs (i : Int) = some v := atI_nat h
theorem scIsEnd : FnScope ["thing"] ["thing"] (defScope sIsEnd) := ⟨rfl, rfl, rfl, by decide +kernel, rfl, by decide +kernel, by decide +kernel⟩
theorem ok_end {f fI : Addr} {fd fdI : FuncData} (F : FnP K "_is_end" sIsEnd f fd) (FI : FnP K "is_integer" sInt fI fdI) (g : mg "is_integer" = some (.ref fI)) (gI : mg "isinstance" = none) (gInt : mg "int" = none) (gB : mg "bool" = none) : FnOk P w K mg base CX0 2 f fd ["thing"] (spEnd K) := by
  have GI : FnOk P w K mg base CX0 1 fI fdI ["thing"] (spInt K) := ok_int FI gI gInt gB
  have bI : Binds K fdI ["thing"] [] := FI.bindsN fun _ _ _ _ _ _ us hl => match us, hl with | [_], _ => rfl
  refine F.ok scIsEnd (fun vs H Q E h => ?_) (fun cdv A outer s H vs Q E hr h => ?_)
  · obtain ⟨x, t, rfl, _⟩ := h
    rfl
  · obtain ⟨x, t, rfl, hk, k⟩ := h
    refine ⟨_, PSs.nox (pss_one (ps_ret (pe_or (pe_cmpR op_isN (pv 0) pe_non (nomark _)) (pe_one (pe_call GI hr rfl g FI.kp bI .nil pass0 (pa_cons (pv 0) pa_nil)))))), ?_⟩
    refine ⟨_, rfl, rfl, _, rfl, ite2' (fun c => ?_) (fun c => ?_)⟩
    · obtain rfl := of_decide_eq_true c
      exact k
    · have n : x ≠ .non := of_decide_eq_false c
      refine ⟨_, rfl, x, t, rfl, hk, ?_⟩
      have e : isEnd x = isI x := by cases x <;> first | rfl | exact absurd rfl n
      rw [← e]
      exact k
theorem scAhead : FnScope ["piece", "other"] ["piece", "other"] (defScope sAhead) := ⟨rfl, rfl, rfl, by decide +kernel, rfl, by decide +kernel, by decide +kernel⟩
theorem ok_ahead {f : Addr} {fd : FuncData} (F : FnP K "_is_ahead" sAhead f fd) : FnOk P w K mg base CX0 1 f fd ["piece", "other"] (sp2 K ahead) := by
  refine F.ok scAhead (fun vs H Q E h => ?_) (fun cdv A outer s H vs Q E hr h => ?_)
  · obtain ⟨x, y, p, q, rfl, _⟩ := h
    rfl
  · obtain ⟨x, y, ⟨pl, ph, pb⟩, ⟨ql, qh, qb⟩, rfl, ⟨a, rfl, ha⟩, ⟨b, rfl, hb⟩, k⟩ := h
    replace ha := SqT.of (K := K) ha
    replace hb := SqT.of (K := K) hb
    refine ⟨_, PSs.nox (pss_one (ps_ret (pe_and (pe_cmpR op_notN (pe_ix ix_tup (pv 0) pe_int (fun _ _ => rfl)) pe_non (nomark _))
      (pe_and (pe_cmpR op_notN (pe_ix ix_tup (pv 1) pe_int (fun _ _ => rfl)) pe_non (nomark _)) (pe_one (pe_cmpR op_lt (pe_ix ix_tup (pv 0) pe_int (fun _ _ => rfl)) (pe_ix ix_tup (pv 1) pe_int (fun _ _ => rfl)) (nomark _))))))), ?_⟩
    refine ⟨_, rfl, _, _, _, _, rfl, rfl, ha, rfl, rfl, _, rfl, ite2' (fun c => ?_) (fun c => ?_)⟩
    · refine ⟨_, rfl, _, _, _, _, rfl, rfl, hb, rfl, rfl, _, rfl, ite2' (fun c2 => ?_) (fun c2 => ?_)⟩
      · cases ph with
        | none => exact absurd (show (!decide (V.non = V.non)) = true from c) (by decide)
        | some h =>
          cases ql with
          | none => exact absurd (show (!decide (V.non = V.non)) = true from c2) (by decide)
          | some l => exact ⟨_, rfl, _, _, _, _, rfl, rfl, ha, rfl, _, rfl, _, _, _, _, rfl, rfl, hb, rfl, _, _, rfl, rfl, k⟩
      · cases ql with
        | none => cases ph <;> exact k
        | some l => cases c2
    · cases ph with
      | none => exact k
      | some h => cases c
theorem scMeet : FnScope ["piece", "other"] ["piece", "other"] (defScope sMeet) := ⟨rfl, rfl, rfl, by decide +kernel, rfl, by decide +kernel, by decide +kernel⟩
theorem ok_meet {f fA : Addr} {fd fdA : FuncData} (F : FnP K "_meet" sMeet f fd) (FA : FnP K "_is_ahead" sAhead fA fdA) (g : mg "_is_ahead" = some (.ref fA)) : FnOk P w K mg base CX0 2 f fd ["piece", "other"] (sp2 K meets) := by
  have GA : FnOk P w K mg base CX0 1 fA fdA ["piece", "other"] (sp2 K ahead) := ok_ahead FA
  have bA : Binds K fdA ["piece", "other"] [] := FA.bindsN fun _ _ _ _ _ _ us hl => match us, hl with | [_, _], _ => rfl
  refine F.ok scMeet (fun vs H Q E h => ?_) (fun cdv A outer s H vs Q E hr h => ?_)
  · obtain ⟨x, y, p, q, rfl, _⟩ := h
    rfl
  · obtain ⟨x, y, p, q, rfl, hp, hq, k⟩ := h
    refine ⟨_, PSs.nox (pss_one (ps_ret (pe_and (pe_not (pe_call GA hr rfl g FA.kp bA .nil pass0 (pa_cons (pv 0) (pa_cons (pv 1) pa_nil)))) (pe_one (pe_not (pe_call GA hr rfl g FA.kp bA .nil pass0 (pa_cons (pv 1) (pa_cons (pv 0) pa_nil)))))))), ?_⟩
    refine ⟨_, rfl, _, rfl, _, _, p, q, rfl, hp, hq, _, rfl, _, rfl, ite2' (fun c => ?_) (fun c => ?_)⟩
    · refine ⟨_, rfl, _, rfl, _, _, q, p, rfl, hq, hp, _, rfl, ?_⟩
      have e : meets p q = !ahead q p := by show (!ahead p q && !ahead q p) = _; rw [c]; rfl
      rw [← e]
      exact k
    · have e : meets p q = false := by show (!ahead p q && !ahead q p) = _; rw [c]; rfl
      rw [← e]
      exact k
theorem scIsP : FnScope ["thing", "low", "high", "by"] ["thing"] (defScope sIsP) := ⟨rfl, rfl, rfl, by decide +kernel, rfl, by decide +kernel, by decide +kernel⟩
theorem sc_not_tp {H : Hp} {x : V} {t : String} (hs : Sc x) (h : Kd K H x t) : isTp t = false := by
  cases h <;> first | rfl | exact False.elim hs
theorem pc3_no {xs : List V} (h : xs.length ≠ 3) : pc3 xs = none := by
  match xs with
  | [] => rfl
  | [_] => rfl
  | [_, _] => rfl
  | [_, _, _] => exact absurd rfl h
  | _ :: _ :: _ :: _ :: _ => rfl
theorem ok_isp {f fI fE : Addr} {fd fdI fdE : FuncData} (F : FnP K "_is_piece" sIsP f fd) (FI : FnP K "is_integer" sInt fI fdI) (FE : FnP K "_is_end" sIsEnd fE fdE) (g : mg "is_integer" = some (.ref fI)) (gE : mg "_is_end" = some (.ref fE))
    (gI : mg "isinstance" = none) (gInt : mg "int" = none) (gB : mg "bool" = none) (gT : mg "tuple" = none) (gL : mg "len" = none) : FnOk P w K mg base CX0 3 f fd ["thing"] (spIsP K) := by
  have GI : FnOk P w K mg base CX0 1 fI fdI ["thing"] (spInt K) := ok_int FI gI gInt gB
  have bI : Binds K fdI ["thing"] [] := FI.bindsN fun _ _ _ _ _ _ us hl => match us, hl with | [_], _ => rfl
  have GE : FnOk P w K mg base CX0 2 fE fdE ["thing"] (spEnd K) := ok_end FE FI g gI gInt gB
  have bE : Binds K fdE ["thing"] [] := FE.bindsN fun _ _ _ _ _ _ us hl => match us, hl with | [_], _ => rfl
  refine F.ok scIsP (fun vs H Q E h => ?_) (fun cdv A outer s H vs Q E hr h => ?_)
  · obtain ⟨x, o, rfl, _⟩ := h
    rfl
  · obtain ⟨x, o, rfl, hT, k⟩ := h
    have hr1 : Room 1 _ := hr.mono (by decide)
    refine ⟨_, PSs.nox (pss_cons (ps_if (PW.pt (pw_or (pt_not (pt_val (pe_callB call_isi (by rfl) gI (by decide +kernel) (pa_cons (pv 0) (pa_cons (pe_bltn (v := .ty "tuple") (by rfl) gT (by decide +kernel) rfl) pa_nil)))))
        (pw_or1 (pt_cmpR op_ne (pe_callB call_len_seq (by rfl) gL PySem.boot_len (pa_cons (pv 0) pa_nil)) pe_int (nomark _))))) (pss_one (ps_ret pe_bl)) pss_nil)
      (pss_cons (ps_asg (pv 0) (pg_tup rfl (pgs_cons (pg_name (i := 1) scIsP.nd rfl (Or.inl rfl)) (pgs_cons (pg_name (i := 2) scIsP.nd rfl (Or.inl rfl)) (pgs_cons (pg_name (i := 3) scIsP.nd rfl (Or.inl rfl)) pgs_nil)))))
      (pss_cons (ps_if (PW.pt (pw_or (pt_not (pt_val (pe_call GI hr1 rfl g FI.kp bI .nil pass0 (pa_cons (pv 3) pa_nil)))) (pw_or (pt_not (pt_val (pe_call GE hr rfl gE FE.kp bE .nil pass0 (pa_cons (pv 1) pa_nil))))
        (pw_or1 (pt_not (pt_val (pe_call GE hr rfl gE FE.kp bE .nil pass0 (pa_cons (pv 2) pa_nil)))))))) (pss_one (ps_ret pe_bl)) pss_nil)
      (pss_one (ps_ret (pe_or (pe_cmpR op_isN (pv 1) pe_non (nomark _)) (pe_or (pe_cmpR op_isN (pv 2) pe_non (nomark _)) (pe_one (pe_cmpR op_le (pv 1) (pv 2) (nomark _)))))))))), ?_⟩
    cases hT with
    | sc hs =>
      obtain ⟨t, hk⟩ := sc_kd (K := K) (H := H) hs
      have e := sc_not_tp hs hk
      refine ⟨_, rfl, _, _, _, _, _, rfl, .ty _, hk.ty, hk.kTup, _, rfl, ?_⟩
      rw [e]
      exact k H (Same.refl H)
    | lst hS c => exact ⟨_, rfl, _, _, _, _, _, rfl, .ty _, (Kd.lst hS).ty, (Kd.lst hS).kTup, _, rfl, k H (Same.refl H)⟩
    | @tup a xs hS c =>
      replace hS := SqT.of (K := K) hS
      refine ⟨_, rfl, _, _, _, _, _, rfl, .ty _, (Kd.tup hS).ty, (Kd.tup hS).kTup, _, rfl, ?_⟩
      refine ⟨_, rfl, _, _, rfl, .inr hS, rfl, _, rfl, ite2' (fun c3 => ?_) (fun c3 => ?_)⟩
      · have n : xs.length ≠ 3 := by
          rintro e
          rw [e] at c3
          exact absurd c3 (by decide)
        rw [pc3_no n] at k
        exact k H (Same.refl H)
      · have e : xs.length = 3 := by
          have c4 : (!decide (V.int ((xs.length : Nat) : Int) = V.int 3)) = false := c3
          have c5 : decide (V.int ((xs.length : Nat) : Int) = V.int 3) = true := by
            revert c4
            cases decide (V.int ((xs.length : Nat) : Int) = V.int 3) <;> intro q
            · cases q
            · rfl
          have q := V.int.inj (of_decide_eq_true c5)
          omega
        match xs, e with
        | [x, y, z], _ =>
          obtain ⟨tx, kx⟩ := sc_kd (K := K) (H := H) (c x (by simp))
          obtain ⟨ty, ky⟩ := sc_kd (K := K) (H := H) (c y (by simp))
          obtain ⟨tz, kz⟩ := sc_kd (K := K) (H := H) (c z (by simp))
          refine ⟨_, rfl, _, _, rfl, hS, rfl, _, _, rfl, _, _, rfl, _, _, rfl, rfl, ?_⟩
          have hx := c x (by simp)
          have hy := c y (by simp)
          have hz := c z (by simp)
          clear c e c3
          refine ⟨_, rfl, _, _, rfl, kz, _, rfl, ?_⟩
          match z, hz with
          | .non, _ => exact k H (Same.refl H)
          | .bl _, _ => exact k H (Same.refl H)
          | .str _, _ => exact k H (Same.refl H)
          | .int b, _ =>
            refine ⟨_, rfl, _, _, rfl, kx, _, rfl, ?_⟩
            match x, hx with
            | .bl _, _ => exact k H (Same.refl H)
            | .str _, _ => exact k H (Same.refl H)
            | .non, _ =>
              refine ⟨_, rfl, _, _, rfl, ky, _, rfl, ?_⟩
              match y, hy with
              | .bl _, _ => exact k H (Same.refl H)
              | .str _, _ => exact k H (Same.refl H)
              | .non, _ => exact ⟨_, rfl, rfl, _, rfl, k H (Same.refl H)⟩
              | .int j, _ => exact ⟨_, rfl, rfl, _, rfl, k H (Same.refl H)⟩
            | .int i, _ =>
              refine ⟨_, rfl, _, _, rfl, ky, _, rfl, ?_⟩
              match y, hy with
              | .bl _, _ => exact k H (Same.refl H)
              | .str _, _ => exact k H (Same.refl H)
              | .non, _ => exact ⟨_, rfl, rfl, _, rfl, _, rfl, rfl, _, rfl, k H (Same.refl H)⟩
              | .int j, _ =>
                refine ⟨_, rfl, rfl, _, rfl, _, rfl, rfl, _, rfl, _, rfl, _, rfl, _, _, rfl, rfl, ?_⟩
                have q := k H (Same.refl H)
                have e2 : (pc3 [.int i, .int j, .int b]).isSome = decide (i ≤ j) := by
                  show (if decide (i ≤ j) = true then some ((some i, some j, b) : Pc) else none).isSome = _
                  cases decide (i ≤ j) <;> rfl
                rw [e2] at q
                exact q
end
end K04

set_option Elab.async false
set_option maxRecDepth 100000
set_option maxHeartbeats 2000000
namespace K04
open PySem PySem.Spec PyProof.Rows L2 KX
abbrev okPc (p : Pc) : Prop := okP p.1 p.2.1 = true
/-- the index of the first thing that is no piece or meets an earlier one -/
def fbG : Nat → List Pc → List (Option Pc) → Option Nat
  | _, _, [] => none
  | i, _, none :: _ => some i
  | i, ps, some p :: r => if ps.any (meets p) = true then some i else fbG (i + 1) (ps ++ [p]) r
def firstBad (os : List (Option Pc)) : Option Nat := fbG 0 [] os
def fbV : Option Nat → V
  | none => .non
  | some i => .int i
theorem ahead_iff {p q : Pc} : ahead p q = true ↔ ∃ h l, p.2.1 = some h ∧ q.1 = some l ∧ h < l := by
  obtain ⟨pl, ph, pb⟩ := p
  obtain ⟨ql, qh, qb⟩ := q
  cases ph with
  | none => exact ⟨(fun h => by cases h), (fun ⟨_, _, h, _⟩ => by cases h)⟩
  | some h =>
    cases ql with
    | none => exact ⟨(fun h => by cases h), (fun ⟨_, _, _, h, _⟩ => by cases h)⟩
    | some l => exact ⟨(fun z => ⟨h, l, rfl, rfl, of_decide_eq_true z⟩), (fun ⟨_, _, h1, h2, z⟩ => by cases h1; cases h2; exact decide_eq_true z)⟩
theorem okPc_le {p : Pc} {l h : Int} (k : okPc p) (e1 : p.1 = some l) (e2 : p.2.1 = some h) : l ≤ h := by
  unfold okPc at k
  rw [e1, e2] at k
  exact of_decide_eq_true k
theorem ahead_tr {p q r : Pc} (hq : okPc q) (h1 : ahead p q = true) (h2 : ahead q r = true) : ahead p r = true := by
  obtain ⟨a, b, e1, e2, l1⟩ := ahead_iff.mp h1
  obtain ⟨c, d, e3, e4, l2⟩ := ahead_iff.mp h2
  have := okPc_le hq e2 e3
  exact ahead_iff.mpr ⟨a, d, e1, e4, by omega⟩
/-- l is the last of ps: every other one is ahead of it -/
def LastOk (ps : List Pc) : Option Pc → Prop
  | none => ps = []
  | some l => l ∈ ps ∧ ∀ q ∈ ps, q = l ∨ ahead q l = true
theorem any_no {ps : List Pc} {p : Pc} (h : ∀ q ∈ ps, ahead q p = true) : ps.any (meets p) = false := by
  refine List.any_eq_false.mpr fun q hq z => ?_
  unfold meets at z
  rw [h q hq] at z
  simp at z
theorem last_new {ps : List Pc} {p : Pc} (h : ∀ q ∈ ps, ahead q p = true) : LastOk (ps ++ [p]) (some p) :=
  ⟨by simp, fun q hq => (List.mem_append.mp hq).elim (fun z => .inr (h q z)) fun z => .inl (List.mem_singleton.mp z)⟩
theorem all_ahead {ps : List Pc} {l p : Pc} (hok : ∀ q ∈ ps, okPc q) (L : LastOk ps (some l)) (h : ahead l p = true) : ∀ q ∈ ps, ahead q p = true := fun q hq => (L.2 q hq).elim (fun e => by rw [e]; exact h) fun z => ahead_tr (hok l L.1) z h
theorem last_old {ps : List Pc} {l p : Pc} (L : LastOk ps (some l)) (h : ahead l p = false) (n : ps.any (meets p) = false) : LastOk (ps ++ [p]) (some l) := by
  have z := List.any_eq_false.mp n l L.1
  have e : ahead p l = true := by
    unfold meets at z
    rw [h] at z
    cases hh : ahead p l
    · rw [hh] at z
      exact absurd rfl z
    · rfl
  refine ⟨List.mem_append_left _ L.1, fun q hq => (List.mem_append.mp hq).elim (L.2 q) fun z => ?_⟩
  rw [List.mem_singleton.mp z]
  exact .inr e
theorem pc3_ok {xs : List V} {p : Pc} (h : pc3 xs = some p) : xs = [endV p.1, endV p.2.1, .int p.2.2] ∧ okPc p := by
  match xs, h with
  | [x, y, z], h =>
    have endE : ∀ {x : V} {l : Option Int}, endOf x = some l → x = endV l := by
      intro x l e
      cases x <;> cases e <;> rfl
    have byE : ∀ {x : V} {b : Int}, byOf x = some b → x = .int b := by
      intro x b e
      cases x <;> cases e
      rfl
    obtain ⟨b, hb, h⟩ := Option.bind_eq_some_iff.mp h
    obtain ⟨l, hl, h⟩ := Option.bind_eq_some_iff.mp h
    obtain ⟨u, hu, h⟩ := Option.bind_eq_some_iff.mp h
    by_cases c : okP l u = true
    · rw [if_pos c] at h
      cases h
      rw [endE hl, endE hu, byE hb]
      exact ⟨rfl, c⟩
    · rw [if_neg c] at h
      cases h
theorem Thing.pc {K : PySem.W.Frag} {H : Hp} {x : V} {p : Pc} (h : Thing K H x (some p)) : IsPc H x p ∧ okPc p := by
  generalize e : (some p : Option Pc) = o at h
  cases h with
  | sc _ => cases e
  | lst _ _ => cases e
  | tup hS c =>
    obtain ⟨e1, k⟩ := pc3_ok e.symm
    rw [e1] at hS
    exact ⟨⟨_, rfl, hS⟩, k⟩
theorem IsPc.same {H H' : Hp} {x : V} {p : Pc} (s : Same H H') (h : IsPc H x p) : IsPc H' x p := h.imp fun _ h => ⟨h.1, s _ _ h.2⟩
abbrev Things (K : PySem.W.Frag) (H : Hp) : List V → List (Option Pc) → Prop := Paired (Thing K H)
theorem Things.same {K : PySem.W.Frag} {H H' : Hp} (s : Same H H') : ∀ {xs : List V} {os : List (Option Pc)}, Things K H xs os → Things K H' xs os
  | _, _, .nil => .nil
  | _, _, .cons h t => .cons (h.same s) (Things.same s t)
/-- _first_bad -/
def spFirst (K : PySem.W.Frag) : Sp := fun vs H Q _ => ∃ (a : Addr) (xs : List V) (os : List (Option Pc)), vs = [.ref a] ∧ SqT K H a xs ∧ xs.length ≤ 100000 ∧ Things K H xs os ∧ ∀ H', Same H H' → Q (fbV (firstBad os)) H'
abbrev NF : List Str := ["things", "last", "index", "thing", "earlier"]
theorem scFirst : FnScope NF ["things"] (defScope sFirst) := ⟨rfl, rfl, rfl, by decide +kernel, rfl, by decide +kernel, by decide +kernel⟩
/-- what is known ahead of turn i -/
structure AtF (K : PySem.W.Frag) (H0 : Hp) (a : Addr) (os : List (Option Pc)) (i : Nat) (σ : L2.St) (H : Hp) : Prop where
  same : Same H0 H
  at_ : ∃ (vl : V) (ps : List Pc) (l : Option Pc) (y2 y3 y4 : Option V), σ = [some (.ref a), some vl, y2, y3, y4] ∧ os.take i = ps.map some ∧ firstBad os = fbG i ps (os.drop i) ∧ LastOk ps l ∧ (∀ q ∈ ps, okPc q) ∧ (match l with | none => vl = .non | some p => IsPc H0 vl p)
theorem thing_at {K : PySem.W.Frag} {H : Hp} : ∀ {xs : List V} {os : List (Option Pc)} {i : Nat} {x : V}, Things K H xs os → xs[i]? = some x → ∃ o, os[i]? = some o ∧ Thing K H x o
  | _, _, 0, _, .cons h _, e => ⟨_, rfl, by cases e; exact h⟩
  | _, _, i + 1, _, .cons _ t, e => thing_at (i := i) t e
theorem drop_at {α : Type} {os : List α} {i : Nat} {o : α} (h : os[i]? = some o) : os.drop i = o :: os.drop (i + 1) := by
  obtain ⟨hi, e⟩ := List.getElem?_eq_some_iff.mp h
  rw [List.drop_eq_getElem_cons hi, e]
theorem take_at {α : Type} {os : List α} {i : Nat} {o : α} (h : os[i]? = some o) : os.take (i + 1) = os.take i ++ [o] := by
  rw [List.take_succ, h]
  rfl
theorem cut_to (xs : List V) (i : Nat) (h : i ≤ xs.length) : cutV xs none (some (i : Int)) = xs.take i := by
  unfold cutV
  rw [HT.sIx_none, HT.sIx_nat, List.drop_zero, Nat.min_eq_left h, Nat.sub_zero]
section
variable {P : Program} {w : World} {K : PySem.W.Frag} {mg : Str → Option Value} {base : Heap}
theorem ok_first {f fP fA fM : Addr} {fd fdP fdA fdM : FuncData} (F : FnP K "_first_bad" sFirst f fd) (GP : FnOk P w K mg base CX0 3 fP fdP ["thing"] (spIsP K)) (bP : Binds K fdP ["thing"] []) (kP : PySem.W.keepIn K (.ref fP) = true) (gP : mg "_is_piece" = some (.ref fP))
    (GA : FnOk P w K mg base CX0 1 fA fdA ["piece", "other"] (sp2 K ahead)) (bA : Binds K fdA ["piece", "other"] []) (kA : PySem.W.keepIn K (.ref fA) = true) (gA : mg "_is_ahead" = some (.ref fA))
    (GM : FnOk P w K mg base CX0 2 fM fdM ["piece", "other"] (sp2 K meets)) (bM : Binds K fdM ["piece", "other"] []) (kM : PySem.W.keepIn K (.ref fM) = true) (gM : mg "_meet" = some (.ref fM))
    (gE : mg "enumerate" = none) (gY : mg "any" = none) : FnOk P w K mg base CX0 4 f fd ["things"] (spFirst K) := by
  refine F.ok scFirst (fun vs H Q E h => ?_) (fun cdv A outer s H vs Q E hr h => ?_)
  · obtain ⟨a, xs, os, rfl, _⟩ := h
    rfl
  · obtain ⟨a, xs, os, rfl, hS, hl, hT, k⟩ := h
    have nd := scFirst.nd
    have hr1 := hr.mono (j := 1) (by decide)
    have hr2 := hr.mono (j := 2) (by decide)
    refine ⟨_, PSs.nox (pss_cons (ps_set (i := 1) nd rfl (Or.inl rfl) pe_non)
      (pss_cons (ps_for PassesOwn.never rfl (pi_enumT (by rfl) gE (pa_cons (pv 0) pa_nil)) (pg_tup rfl (pgs_cons (pg_name (i := 2) nd rfl (Or.inl rfl)) (pgs_cons (pg_name (i := 3) nd rfl (Or.inr rfl)) pgs_nil)))
        (pss_cons (ps_if (pt_not (pt_val (pe_call GP hr rfl gP kP bP .nil pass0 (pa_cons (pv 3) pa_nil)))) (pss_one (ps_ret (pv 2))) pss_nil)
        (pss_one (ps_if (PW.pt (pw_or (pt_cmpR op_isN (pv 1) pe_non (nomark _)) (pw_or1 (pt_val (pe_call GA hr1 rfl gA kA bA .nil pass0 (pa_cons (pv 1) (pa_cons (pv 3) pa_nil))))))) (pss_one (ps_set (i := 1) nd rfl (Or.inl rfl) (pv 3)))
          (pss_one (ps_if (pt_val (pe_callB (cr_any rfl) (by rfl) gY (by decide +kernel) (pa_cons (pe_lc (own := [("earlier", 4)]) (g := gName 4) (tt := tYes) rfl nd (pi_tup (pe_slice sl_tupA (pv 0) po_none (po_some (pv 2)))) (blkOk_by (own := [("earlier", 4)]) (N := NF) (sc := defScope sFirst) (by decide +kernel))
              (fun _ _ _ _ _ => pg_name (i := 4) nd rfl (Or.inl rfl)) (fun _ _ _ _ _ => pts_nil) (fun _ _ _ _ _ => pe_call GM hr2 rfl gM kM bM .nil pass0 (pa_cons (pv 3) (pa_cons (pv 4) pa_nil)))) pa_nil))) (pss_one (ps_ret (pv 2))) pss_nil))))))
      (pss_one (ps_ret pe_non)))), ?_⟩
    refine ⟨_, rfl, a, xs, rfl, hS, for_it (walk_enumT (K := K) (a := a) (xs := xs)) (fun i σ G => AtF K H a os i σ G) ⟨Same.refl H, .non, [], none, none, none, none, rfl, rfl, rfl, rfl, (fun _ z => nomatch z), rfl⟩ (fun i σ G _ h => sqT_same h.same hS) ?_ ?_⟩
    · rintro i x σ G G1 hi hA hY
      obtain ⟨T, ki, ev, rfl, nT, rfl, hk1, hk2⟩ := hY
      obtain rfl : V.int ((i : Nat) : Int) = ki := Option.some.inj hk1
      obtain ⟨s0, vl, ps, l, y2, y3, y4, rfl, htk, hfb, hL, hok, hvl⟩ := hA
      obtain ⟨o, ho, hT0⟩ := thing_at hT hk2
      have s1 := s0.trans (same_put (o := .tup [.int ((i : Nat) : Int), ev]) nT)
      have fT : upd G T (.tup [.int ((i : Nat) : Int), ev]) T = some (.tup [.int ((i : Nat) : Int), ev]) := upd_same
      generalize upd G T (.tup [.int ((i : Nat) : Int), ev]) = G1 at s1 fT
      refine ⟨T, _, rfl, SqT.of fT, rfl, ⟨_, _, rfl, ⟨_, _, rfl, ⟨rfl, ?_⟩⟩⟩⟩
      refine ⟨_, rfl, _, o, rfl, hT0.same s1, fun G2 s12 => ⟨_, rfl, ?_⟩⟩
      have s2 := s1.trans s12
      rw [drop_at ho] at hfb
      cases o with
      | none =>
        refine ⟨_, rfl, ?_⟩
        have q := k G2 s2
        rw [hfb] at q
        exact q
      | some p =>
        obtain ⟨hp, hpo⟩ := hT0.pc
        have grow : ∀ q ∈ ps ++ [p], okPc q := fun q hq => (List.mem_append.mp hq).elim (hok q) fun z => by rw [List.mem_singleton.mp z]; exact hpo
        have tk2 : os.take (i + 1) = (ps ++ [p]).map some := by
          rw [take_at ho, htk, List.map_append]
          rfl
        have fb2 : ps.any (meets p) = false → firstBad os = fbG (i + 1) (ps ++ [p]) (os.drop (i + 1)) := fun e => by
          rw [hfb]
          show (if ps.any (meets p) = true then some i else _) = _
          rw [e]
          rfl
        have fb3 : ps.any (meets p) = true → firstBad os = some i := fun e => by
          rw [hfb]
          show (if ps.any (meets p) = true then some i else _) = _
          rw [e]
          rfl
        cases l with
        | none =>
          obtain rfl : vl = .non := hvl
          obtain rfl : ps = [] := hL
          refine ⟨_, rfl, rfl, _, rfl, ?_⟩
          refine ⟨_, rfl, ?_⟩
          exact ⟨s2, ev, [p], some p, _, _, _, rfl, tk2, fb2 rfl, last_new (ps := []) (fun _ z => nomatch z), grow, hp⟩
        | some lp =>
          have hvl' : IsPc H vl lp := hvl
          obtain ⟨al, rfl, _⟩ := id hvl'
          refine ⟨_, rfl, rfl, _, rfl, ?_⟩
          refine ⟨_, rfl, _, rfl, _, _, lp, p, rfl, hvl'.same s2, hp.same s2, _, rfl, ?_⟩
          refine ite2' (fun c => ?_) (fun c => ?_)
          · refine ⟨_, rfl, ?_⟩
            have hah := all_ahead hok hL c
            exact ⟨s2, ev, ps ++ [p], some p, _, _, _, rfl, tk2, fb2 (any_no hah), last_new hah, grow, hp⟩
          · have hle : i ≤ xs.length := Nat.le_of_lt hi
            refine ⟨_, rfl, _, rfl, _, rfl, a, xs, rfl, sqT_same s2 hS, (fun z => ?_), fun _ pt npt => ?_⟩
            · rw [HT.sIx_nat] at z
              omega
            rw [cut_to xs i hle]
            have s3 := s2.trans (same_put (o := .tup (xs.take i)) npt)
            have fpt : upd G2 pt (.tup (xs.take i)) pt = some (.tup (xs.take i)) := upd_same
            generalize upd G2 pt (.tup (xs.take i)) = G3 at s3 fpt
            have psl : ps.length = i := by
              have e := congrArg List.length htk
              rw [List.length_take, List.length_map, ← Paired.length hT] at e
              omega
            refine ⟨pt, rfl, ⟨_, SqT.of fpt⟩, fun D nD => ?_⟩
            refine lc_tup (K := K) (a := pt) (xs := xs.take i) (fun j G => G D = some (.lst ((ps.take j).map fun q => V.bl (meets p q))) ∧ Same G3 G) ⟨upd_same, same_put nD⟩ (fun j G _ h => SqT.of (h.2 _ _ fpt)) ?_ ?_
            · rintro j x G4 hx ⟨hD, s4⟩
              have s5 := s3.trans s4
              have hj : j < i := by
                have := (List.getElem?_eq_some_iff.mp hx).1
                rw [List.length_take] at this
                omega
              have hx2 : xs[j]? = some x := by
                rw [List.getElem?_take, if_pos hj] at hx
                exact hx
              obtain ⟨o2, ho2, hT2⟩ := thing_at hT hx2
              have hq : ∃ q, o2 = some q ∧ ps[j]? = some q := by
                have e : (os.take i)[j]? = some o2 := by
                  rw [List.getElem?_take, if_pos hj]
                  exact ho2
                rw [htk, List.getElem?_map] at e
                obtain ⟨q, e1, e2⟩ := Option.map_eq_some_iff.mp e
                exact ⟨q, e2.symm, e1⟩
              obtain ⟨q, rfl, hpq⟩ := hq
              obtain ⟨hxq, _⟩ := hT2.pc
              refine ⟨rfl, ?_⟩
              dsimp only [tYes]
              rw [if_pos rfl]
              refine ⟨_, rfl, _, rfl, _, _, p, q, rfl, hp.same s5, hxq.same s5, _, hD, ?_, ?_, fun y o e => ?_⟩
              · rw [List.length_map, List.length_take, sizeLine_eq]
                omega
              · rw [upd_same, take_at hpq, List.map_append]
                rfl
              · rw [upd_ne (ne_of_none e nD)]
                exact s4 _ _ e
            · rintro G4 ⟨hD, s4⟩
              have s5 := s3.trans s4
              have hmm : (ps.take (xs.take i).length).map (fun q => V.bl (meets p q)) = (ps.map (meets p)).map V.bl := by
                rw [List.length_take, Nat.min_eq_left hle, ← psl, List.take_length, List.map_map]
                rfl
              rw [hmm] at hD
              refine ⟨D, ps.map (meets p), rfl, SqL.of hD, _, rfl, ?_⟩
              have hany : (ps.map (meets p)).any id = ps.any (meets p) := by rw [List.any_map]; rfl
              rw [hany]
              refine ite2' (fun c2 => ?_) (fun c2 => ?_)
              · refine ⟨_, rfl, ?_⟩
                have q := k G4 s5
                rw [fb3 c2] at q
                exact q
              · exact ⟨s5, _, ps ++ [p], some lp, _, _, _, rfl, tk2, fb2 c2, last_old hL c c2, grow, hvl'⟩
    · rintro σ G hA
      obtain ⟨s0, vl, ps, l, y2, y3, y4, rfl, htk, hfb, hL, hok, hvl⟩ := hA
      rw [Paired.length hT, List.drop_length] at hfb
      have q := k G s0
      rw [hfb] at q
      exact q
end
end K04

set_option Elab.async false
set_option maxRecDepth 100000
set_option maxHeartbeats 4000000
/-! sorted(xs, key=f), f an own def that hands back a tuple of two ints: any length, in order, equal ones in their turns. -/
namespace KX
open PySem PySem.Spec PyProof.Rows L2
/-- an object of ours that isn't tracked is tracked from here on -/
theorem inv_track {X : Cx} {pins : List (Addr × Obj)} {σ : L2.St} {H : Hp} {s : Shared} {a : Addr} {o : HO} (I : Inv X pins σ H s) (hn : H a = none) (hs : X.s_0.heap.objs.size ≤ a) (hL : a ≠ X.env.locals) (hC : ∀ x c, X.env.cells.lookup x = some c → c ≠ a) (hp : ∀ p ∈ X.pn ++ pins, p.1 ≠ a)
    (ok : ObjOk X.prog X.w (upd H a o) s.heap a o) : Inv X pins σ (upd H a o) s := by
  have old : ∀ b u, X.s_0.heap.get? b = some u → b ≠ a := fun b u e => Nat.ne_of_lt (Nat.lt_of_lt_of_le (Heap.lt_size e) hs)
  have kept : ∀ b u, H b = some u → upd H a o b = some u := fun b u e => (upd_ne (ne_of_none e hn)).trans e
  refine ⟨I.ok, I.os, I.bare, ⟨I.base.keep, I.base.slot, fun b u e n hx => ?_, I.base.there, fun b xs e => kept _ _ (I.base.tups b xs e), fun b v u e => kept _ _ (I.base.frzs b v u e), fun b ps e => ?_⟩, I.loc, I.cell, (upd_ne hL.symm).trans I.free, fun x c e => (upd_ne (hC x c e)).trans (I.freeC x c e),
    fun p hpm => ?_, fun b u e => ?_, I.len⟩
  · exact (upd_ne (old b u e)).trans (I.base.free b u e n hx)
  · obtain ⟨more, z⟩ := I.base.tbls b ps e
    exact ⟨more, kept _ _ z⟩
  · obtain ⟨h1, h2, h3⟩ := I.pin p hpm
    exact ⟨h1, (upd_ne (hp p hpm)).trans h2, h3⟩
  · by_cases hb : b = a
    · subst hb
      obtain rfl := Option.some.inj (upd_same.symm.trans e)
      exact ok
    · rw [upd_ne hb] at e
      exact (I.hok b u e).stay (fun _ _ _ z => z) (fun c z => kept _ _ z) fun c xs z => kept _ _ z
/-- the two ints of a tuple on the heap -/
def pairAt (h : Heap) : Value → Int × Int
  | .ref a => (match h.get? a with
    | some o => (match o.data with
      | .seq its _ => (match its.toList with
        | [.int x _, .int y _] => (x, y)
        | _ => (0, 0))
      | _ => (0, 0))
    | none => (0, 0))
  | _ => (0, 0)
theorem pairAt_of {h : Heap} {v : Value} {x y : Int} (p : Srt.IsPair h v x y) : pairAt h v = (x, y) := by
  obtain ⟨a, o, t, u, n, rfl, ho, _, hd⟩ := p
  unfold pairAt
  simp only [ho, hd]
end KX
namespace KX
open PySem PySem.Spec PyProof.Rows PySem.W SrtO Srt
section
variable {prog : Program} {w : World} {A : Around} {E : Value → Shared → Prop} {s : Shared} {a kS : Addr} {e e1 : Nat} {vs ks : List Value} {g : Value → Int × Int} {P : PySem.Fin → Shared → Prop}
/-- the order of items by their keys -/
abbrev ltG (g : Value → Int × Int) (v u : Value) : Bool := lexB (g v) (g u)
theorem zip_key {h : Heap} : ∀ {ks vs : List Value}, Paired (fun k v => IsPair h k (g v).1 (g v).2) ks vs → ∀ p ∈ ks.zip vs, IsPair h p.1 (g p.2).1 (g p.2).2
  | _, _, .nil, p, hp => by cases hp
  | _, _, .cons r t, p, hp => by
    rcases List.mem_cons.mp hp with rfl | hp
    · exact r
    · exact zip_key t p hp
theorem zip_snd : ∀ {ks vs : List Value}, ks.length = vs.length → (ks.zip vs).map (·.2) = vs
  | [], [], _ => rfl
  | [], _ :: _, h => by cases h
  | _ :: _, [], h => by cases h
  | _ :: ks, v :: vs, h => congrArg (v :: ·) (zip_snd (by simpa using h))
/-- what the machine leaves, said of the items -/
theorem by_items {h : Heap} {out : List Keyed} (hp : Paired (fun k v => IsPair h k (g v).1 (g v).2) ks vs) (h1 : Srtd (lt2 fun v u => lexB (pairAt h v) (pairAt h u)) out) (h2 : Stb (lt2 fun v u => lexB (pairAt h v) (pairAt h u)) out (ks.zip vs)) :
    Srtd (ltG g) (out.map (·.2)) ∧ Stb (ltG g) (out.map (·.2)) vs := by
  have hl := Paired.length hp
  have key : ∀ p ∈ ks.zip vs, pairAt h p.1 = g p.2 := fun p hm => pairAt_of (zip_key hp p hm)
  have keyO : ∀ p ∈ out, pairAt h p.1 = g p.2 := fun p hm => key p (h2.perm.mem_iff.mp hm)
  have fil : ∀ (x : Value) (l : List Keyed), (∀ p ∈ l, pairAt h p.1 = g p.2) → (l.map (·.2)).filter (SrtO.eqv (ltG g) x) = (l.filter fun p => !lexB (g x) (pairAt h p.1) && !lexB (pairAt h p.1) (g x)).map (·.2) := by
    intro x l hk
    rw [List.filter_map]
    congr 1
    refine List.filter_congr fun p hm => ?_
    show (!lexB (g x) (g p.2) && !lexB (g p.2) (g x)) = _
    rw [hk p hm]
  refine ⟨?_, ⟨?_, fun x => ?_⟩⟩
  · refine List.pairwise_map.mpr (List.Pairwise.imp_of_mem (fun {p q} hp hq z => ?_) h1)
    have z' : lexB (pairAt h q.1) (pairAt h p.1) = false := z
    rw [keyO p hp, keyO q hq] at z'
    exact z'
  · have q := h2.perm.map (·.2)
    rw [zip_snd hl] at q
    exact q
  · rw [fil x out keyO]
    have e2 : vs.filter (SrtO.eqv (ltG g) x) = ((ks.zip vs).map (·.2)).filter (SrtO.eqv (ltG g) x) := by rw [zip_snd hl]
    rw [e2, fil x _ key]
    congr 1
    by_cases hx : ∃ p ∈ ks.zip vs, pairAt h p.1 = g x
    · obtain ⟨p, hm, hpx⟩ := hx
      have c := h2.cls p
      rw [← hpx]
      exact c
    · have no : ∀ l : List Keyed, (∀ p ∈ l, p ∈ ks.zip vs) → (l.filter fun p => !lexB (g x) (pairAt h p.1) && !lexB (pairAt h p.1) (g x)) = [] := by
        intro l hl2
        refine List.filter_eq_nil_iff.mpr fun p hm z => hx ⟨p, hl2 p hm, ?_⟩
        have z2 := Bool.and_eq_true_iff.mp z
        have z3 := lexB_no.mp (by simpa using z2.1)
        have z4 := lexB_no.mp (by simpa using z2.2)
        refine Prod.ext ?_ ?_ <;> omega
      rw [no out (fun p hm => h2.perm.mem_iff.mp hm), no _ (fun p hm => hm)]
/-- behind the keys: the sort itself -/
theorem tail_by {st : SortSt} (hk : s.heap.get? kS = some (seqObj "list" ks.toArray e)) (ha : s.heap.get? a = some (seqObj "list" #[] e1)) (hka : kS ≠ a) (hkz : ks.length ≤ sizeLine) (hp : Paired (fun k v => IsPair s.heap k (g v).1 (g v).2) ks vs) (hf : failedOf st = none)
    (h1 : Srtd (lt2 fun v u => lexB (pairAt s.heap v) (pairAt s.heap u)) (arrOf st).toList) (h2 : Stb (lt2 fun v u => lexB (pairAt s.heap v) (pairAt s.heap u)) (arrOf st).toList (ks.zip vs))
    (h : ∀ h' tk out c, (∀ b o, b ≠ a → b ≠ kS → s.heap.get? b = some o → h'.get? b = some o) → h'.get? a = some (seqObj "list" out.toArray c) → (∃ o, h'.get? kS = some o) → Srtd (ltG g) out → Stb (ltG g) out vs → P (.done (.ret .none)) { s with heap := h', toks := tk }) :
    wpAny (model prog w) A (ksk_tail a false e1 (.ref kS) st) P E s := by
  obtain ⟨q1, q2⟩ := by_items hp h1 h2
  have hlv := Paired.length hp
  have hsz : ((arrOf st).map (·.2)).size ≤ sizeLine := by
    have z := q2.len
    rw [List.length_map, Array.length_toList] at z
    rw [Array.size_map]
    omega
  have k1 := Heap.SameBut.update s.heap kS (Obj.mapSeq fun _ => (#[] : Array Value))
  have a1 : (s.heap.update kS (Obj.mapSeq fun _ => (#[] : Array Value))).get? a = some (seqObj "list" #[] e1) := (k1.2 a hka.symm).trans ha
  obtain ⟨cK, hcK⟩ : ∃ cK, (s.heap.update kS (Obj.mapSeq fun _ => (#[] : Array Value))).get? kS = some (seqObj "list" #[] cK) := ⟨_, get?_update_seq hk fun _ => #[]⟩
  have k2 := Heap.SameBut.update (s.heap.update kS (Obj.mapSeq fun _ => (#[] : Array Value))) a (Obj.mapSeq fun _ => (arrOf st).map (·.2))
  obtain ⟨c2, hc2⟩ : ∃ c2, ((s.heap.update kS (Obj.mapSeq fun _ => (#[] : Array Value))).update a (Obj.mapSeq fun _ => (arrOf st).map (·.2))).get? a = some (seqObj "list" ((arrOf st).map (·.2)) c2) := ⟨_, get?_update_seq a1 fun _ => (arrOf st).map (·.2)⟩
  unfold ksk_tail
  try dsimp only
  refine wpAny_bind (listUpdate_at hk rfl ?_ (by rw [List.size_toArray]; exact hkz) (Nat.zero_le _))
  refine wpAny_bind (wpAny_letGo (wpAny_bind (seqEpoch_at a1 rfl ?_)))
  refine wpAny_bind (listUpdate_at a1 rfl ?_ (Nat.zero_le _) (Nat.le_trans hsz (Nat.le_succ _)))
  rw [hf]
  simp only [bne_self_eq_false, Bool.false_eq_true, if_false]
  have eo : ((arrOf st).toList.map (·.2)).toArray = (arrOf st).map (·.2) := by
    rw [← Array.toList_map, Array.toArray_toList]
  refine wpAny_pure (h _ _ ((arrOf st).toList.map (·.2)) c2 (fun b o hb hbk z => (k2.2 b hb).trans ((k1.2 b hbk).trans z)) (by rw [eo]; exact hc2) ⟨_, (k2.2 kS hka).trans hcK⟩ q1 q2)
theorem end_by (hk : s.heap.get? kS = some (seqObj "list" ks.toArray e)) (ha : s.heap.get? a = some (seqObj "list" #[] e1)) (hka : kS ≠ a) (hkz : ks.length ≤ sizeLine) (hp : Paired (fun k v => IsPair s.heap k (g v).1 (g v).2) ks vs)
    (h : ∀ h' tk out c, (∀ b o, b ≠ a → b ≠ kS → s.heap.get? b = some o → h'.get? b = some o) → h'.get? a = some (seqObj "list" out.toArray c) → (∃ o, h'.get? kS = some o) → Srtd (ltG g) out → Stb (ltG g) out vs → P (.done (.ret .none)) { s with heap := h', toks := tk }) :
    wpAny (model prog w) A (ksk_end a false vs.toArray e1 (.ref kS) ks.toArray) P E s := by
  have hl := Paired.length hp
  have hz : (ks.toArray.zip vs.toArray).toList = ks.zip vs := by simp
  unfold ksk_end
  try dsimp only
  simp only [Bool.false_eq_true, if_false]
  by_cases h2 : vs.toArray.size < 2
  · rw [if_pos h2, if_pos h2]
    refine wpAny_bind (wpAny_pure ?_)
    rw [StateT.run_pure]
    refine wpAny_bind (wpAny_pure ?_)
    try dsimp only
    refine tail_by (st := SortSt.mk' general' (ks.toArray.zip vs.toArray) #[] 7 none) hk ha hka hkz hp rfl ?_ (Stb.of_eq hz) h
    show Srtd _ (ks.toArray.zip vs.toArray).toList
    rw [hz]
    rw [List.size_toArray] at h2
    have hzl : (ks.zip vs).length < 2 := by
      rw [List.length_zip]
      omega
    generalize ks.zip vs = l at hzl
    match l, hzl with
    | [], _ => exact List.Pairwise.nil
    | [k], _ => exact List.pairwise_singleton _ _
    | _ :: _ :: _, q => exact absurd q (by rw [List.length_cons, List.length_cons]; omega)
  · rw [if_neg h2, if_neg h2]
    rw [List.size_toArray] at h2
    have hks : ∀ k ∈ ks, IsPair s.heap k (pairAt s.heap k).1 (pairAt s.heap k).2 := by
      intro k hm
      obtain ⟨i, hi⟩ := List.getElem?_of_mem hm
      obtain ⟨v, hv⟩ : ∃ v, vs[i]? = some v := ⟨_, List.getElem?_eq_getElem (by have z := (List.getElem?_eq_some_iff.mp hi).1; omega)⟩
      have hz2 : (k, v) ∈ ks.zip vs := List.mem_of_getElem? (i := i) (by rw [List.getElem?_zip_eq_some]; exact ⟨hi, hv⟩)
      have z := zip_key hp _ hz2
      rw [pairAt_of z]
      exact z
    obtain ⟨fs, f1, f2, f3⟩ := firsts_of fun k hm => ⟨_, _, hks k hm⟩
    refine wpAny_bind (PySem.W.kat_kind (T := .type "int") f1 (by omega) (fun f hm => ?_) (by rfl) ?_)
    · obtain ⟨x, t, rfl⟩ := f3 f hm
      exact PySem.W.Looks.now
    have et : (Value.type "int" != Value.type "tuple") = true := by first | decide +kernel | rfl | decide
    rw [et]
    refine wpAny_bind (wpAny_mono (wpS_sortO (st0 := SortSt.mk' (tuples' true) (ks.toArray.zip vs.toArray) #[] 7 none)
      (Q := fun _ st' => Srtd (lt2 fun v u => lexB (pairAt s.heap v) (pairAt s.heap u)) (arrOf st').toList ∧ Stb (lt2 fun v u => lexB (pairAt s.heap v) (pairAt s.heap u)) (arrOf st').toList (ks.zip vs) ∧ failedOf st' = none)
      (swo2 (swo_lex (pairAt s.heap))) (pair_cmp hks) rfl (fun p hm => ?_) rfl rfl fun st' z1 z2 z3 => ⟨z1, ?_, z3⟩) ?_ fun _ _ z => z)
    · have hm' : p ∈ ks.zip vs := by rw [← hz]; exact hm
      exact (List.of_mem_zip (show (p.1, p.2) ∈ ks.zip vs from hm')).1
    · have z4 : Stb _ (arrOf st').toList (ks.toArray.zip vs.toArray).toList := z2
      rw [hz] at z4
      exact z4
    · rintro ⟨⟨⟩, st'⟩ s' ⟨rfl, z1, z2, z3⟩
      try dsimp only
      exact tail_by hk ha hka hkz hp z3 z1 z2 h
end
end KX

namespace KX
open PySem PySem.Spec PyProof.Rows PySem.W L2
/-- sorted(xs, key=f): f's promise, the ints by which it sorts -/
def rBy (K : PySem.W.Frag) (f : Addr) (sp : Sp) : List V → List V → Hp → VK → Prop := fun vs zs H Q => ∃ (a : Addr) (xs : List V) (key : V → Int × Int), vs = [.ref a] ∧ zs = [.ref f] ∧ SqL K H a xs ∧ (∀ x ∈ xs, ∃ t, x = V.ref t) ∧
  (∀ x ∈ xs, ∀ H1, Same H H1 → sp [x] H1 (fun v H2 => Same H1 H2 ∧ ∃ t, v = .ref t ∧ H2 t = some (.tup [.int (key x).1, .int (key x).2])) E0) ∧
  ∀ ys p H1, SrtO.Srtd (ltP key) ys → SrtO.Stb (ltP key) ys xs → Same H H1 → H1 p = none → Q (.ref p) (upd H1 p (.lst ys))
section
variable {X : Cx} {pins : List (Addr × Obj)} {σ : L2.St} {H : Hp} {s : Shared}
/-- an object that is new since this def's entry, of no name of ours -/
structure Own (X : Cx) (pins : List (Addr × Obj)) (a : Addr) : Prop where
  s0 : X.s_0.heap.objs.size ≤ a
  loc : a ≠ X.env.locals
  cel : ∀ x c, X.env.cells.lookup x = some c → c ≠ a
  pin : ∀ p ∈ X.pn ++ pins, p.1 ≠ a
  fs : a ∉ X.fs
theorem Own.new (I : Inv X pins σ H s) {a : Addr} (h : s.heap.objs.size ≤ a) : Own X pins a := by
  have lt : ∀ {b : Addr} {o : Obj}, s.heap.get? b = some o → b ≠ a := fun e => Nat.ne_of_lt (Nat.lt_of_lt_of_le (Heap.lt_size e) h)
  refine ⟨Nat.le_trans I.sz h, Nat.ne_of_gt (Nat.lt_of_lt_of_le I.lt h), fun x c e => ?_, fun p hp => lt (I.pin p hp).1, I.nofs h⟩
  obtain ⟨v, o, ho, _⟩ := I.cell x c e
  exact lt ho
theorem is_pair {t : Addr} {x y : Int} (I : Inv X pins σ H s) (h : H t = some (.tup [.int x, .int y])) : Srt.IsPair s.heap (.ref t) x y := by
  obtain ⟨_, its, rv, o, ho, hc, n, hd⟩ := I.hok _ _ h
  obtain ⟨u1, u2, rfl, ⟨t1, rfl⟩, ⟨t2, rfl⟩⟩ := vals2 rv
  exact ⟨t, o, t1, t2, n, rfl, ho, hc, hd⟩
/-- f called by a built-in, two calls deep -/
theorem run_in2 {f : Addr} {k : Nat} {fd : FuncData} {ps : List Str} {sp : Sp} {us : List Value} {vs : List V} {Q : VK} {E : Value → Shared → Prop} (F : FnOk X.prog X.w X.K X.mg X.base CX0 k f fd ps sp) (hr : Room (k + 2) X.A) (hb : Binds X.K fd ps []) (I : Inv X pins σ H s) (r : Vals vs us) (h : sp vs H Q E0) :
    wpAny (model X.prog X.w) X.A.in1.in1 (call (.ref f) us) (EP X pins σ Q) E s := by
  have hl : (us ++ []).length = ps.length := by
    rw [List.append_nil, ← r.length]
    exact F.len _ _ _ _ h
  have hbi := hb s us I.kIn hl
  rw [List.append_nil] at hbi
  refine wpAny_call (codeAny_mono (F.run X.A.in1.in1 X.stack s H ⟨us, []⟩ us vs Q E0 hr.in1.in1 I.env0.in1.in1 hbi r h) fun res s' z => ?_)
  match res, z with
  | .error _, z => exact False.elim z
  | .ok (.ret u), z => exact I.after z
  | .ok .next, z => exact False.elim z
  | .ok .brk, z => exact False.elim z
  | .ok .cont, z => exact False.elim z
end
end KX

set_option Elab.async false
set_option maxRecDepth 100000
set_option maxHeartbeats 4000000
namespace KX
open PySem PySem.Spec PyProof.Rows PySem.W L2
section
variable {X : Cx} {pins : List (Addr × Obj)} {σ : L2.St} {H : Hp} {s : Shared} {a kS f : Addr} {e1 k : Nat} {fd : FuncData} {ps : List Str} {sp : Sp} {xs : List V} {vs : List Value} {key : V → Int × Int} {P : PySem.Fin → Shared → Prop} {E : Value → Shared → Prop}
/-- what the sort hands on -/
def Byd (X : Cx) (pins : List (Addr × Obj)) (σ : L2.St) (H : Hp) (a : Addr) (vs : List Value) (key : V → Int × Int) (P : PySem.Fin → Shared → Prop) : Prop :=
  ∀ s' H1 out c, Inv X pins σ H1 s' → Same H H1 → H1 a = none → s'.heap.get? a = some (seqObj "list" (List.toArray out) c) → SrtO.Srtd (ltG fun u => key (backV u)) out → SrtO.Stb (ltG fun u => key (backV u)) out vs → P (.done (.ret .none)) s'
theorem paired_map {α β γ : Type} {R : α → β → Prop} {S : α → γ → Prop} {g : β → γ} : ∀ {l : List α} {m : List β}, Paired R l m → (∀ x y, y ∈ m → R x y → S x (g y)) → Paired S l (m.map g)
  | _, _, .nil, _ => .nil
  | _, _, .cons r t, h => .cons (h _ _ List.mem_cons_self r) (paired_map t fun x y hy => h x y (List.mem_cons_of_mem _ hy))
theorem paired_snoc {α β : Type} {R : α → β → Prop} {x : α} {y : β} (r : R x y) : ∀ {l : List α} {m : List β}, Paired R l m → Paired R (l ++ [x]) (m ++ [y])
  | _, _, .nil => .cons r .nil
  | _, _, .cons q t => .cons q (paired_snoc r t)
theorem refs_of (rv : Vals xs vs) (hx : ∀ x ∈ xs, ∃ t, x = V.ref t) : ∀ {i : Nat} {x : V}, xs[i]? = some x → ∃ t, x = V.ref t ∧ vs[i]? = some (Value.ref t) := by
  intro i x h
  obtain ⟨u, hu, r⟩ := rv.get h
  obtain ⟨t, rfl⟩ := hx x (List.mem_of_getElem? h)
  obtain rfl : u = Value.ref t := r
  exact ⟨t, rfl, hu⟩
theorem vs_back (rv : Vals xs vs) (hx : ∀ x ∈ xs, ∃ t, x = V.ref t) : vs.map backV = xs := by
  induction rv with
  | nil => rfl
  | @cons x u xs us r t ih =>
    obtain ⟨q, rfl⟩ := hx x List.mem_cons_self
    obtain rfl : u = Value.ref q := r
    rw [List.map_cons, ih fun y hy => hx y (List.mem_cons_of_mem _ hy)]
    rfl
theorem rest_by (F : FnOk X.prog X.w X.K X.mg X.base CX0 k f fd ps sp) (hr : Room (k + 2) X.A) (hb : Binds X.K fd ps []) (I : Inv X pins σ H s) (ea : s.heap.get? a = some (seqObj "list" #[] e1)) (ek : s.heap.get? kS = some (seqObj "list" #[] 0))
    (oa : Own X pins a) (ok : Own X pins kS) (hka : kS ≠ a) (na : H a = none) (nk : H kS = none) (rv : Vals xs vs) (hz : vs.length ≤ sizeLine) (hx : ∀ x ∈ xs, ∃ t, x = V.ref t)
    (turn : ∀ x ∈ xs, ∀ H1, Same H H1 → sp [x] H1 (fun v H2 => Same H1 H2 ∧ ∃ t, v = .ref t ∧ H2 t = some (.tup [.int (key x).1, .int (key x).2])) E0) (h : Byd X pins σ H a vs key P) :
    wpAny (model X.prog X.w) X.A.in1.in1 (ksk_rest a (.ref f) false vs.toArray e1 (.ref kS)) P E s := by
  have hl := rv.length
  unfold ksk_rest
  refine wpAny_bind (wpAny_rule ?_)
  first
    | rw [List.forIn_toArray]
    | (rw [← Array.forIn_toList]; simp only [List.toList_toArray])
    | rw [← Array.forIn_toList]
  refine wpAny_bind (ksk_fold (fun i s' => ∃ H1 kl e, Inv X pins σ H1 s' ∧ Same H H1 ∧ H1 a = none ∧ H1 kS = none ∧ s'.heap.get? a = some (seqObj "list" #[] e1) ∧ s'.heap.get? kS = some (seqObj "list" (List.toArray kl) e) ∧
      Paired (fun kv x => ∃ t, kv = Value.ref t ∧ H1 t = some (.tup [.int (key x).1, .int (key x).2])) kl (xs.take i)) vs 0 s ⟨H, [], 0, I, Same.refl H, na, nk, ea, ek, .nil⟩ ?step ?done)
  case step =>
    rintro j u s' hu ⟨H1, kl, e, I1, s1, na1, nk1, ea1, ek1, hp⟩
    simp only [Nat.zero_add] at hp ⊢
    have hj : j < vs.length := (List.getElem?_eq_some_iff.mp hu).1
    obtain ⟨x, hxj⟩ : ∃ x, xs[j]? = some x := ⟨_, List.getElem?_eq_getElem (by omega)⟩
    obtain ⟨u', hu', ru⟩ := rv.get hxj
    obtain rfl : u' = u := Option.some.inj (hu'.symm.trans hu)
    have hkl : kl.length ≤ vs.length := by
      rw [Paired.length hp, List.length_take]
      omega
    have noC : ∀ (l : List Value) (n : Nat) (v : Option Value), (seqObj "list" l.toArray n).data ≠ .cell v := fun l n v z => by cases z
    have I2 : Inv X (pins ++ [(a, seqObj "list" #[] e1), (kS, seqObj "list" kl.toArray e)]) σ H1 s' := I1.pins_of fun p hpm => by
      rcases List.mem_append.mp hpm with z | z
      · exact I1.pin p (List.mem_append_right _ z)
      · rcases List.mem_cons.mp z with rfl | z
        · exact ⟨ea1, na1, oa.loc, oa.fs, noC [] e1⟩
        · rw [List.mem_singleton.mp z]
          exact ⟨ek1, nk1, ok.loc, ok.fs, noC kl e⟩
    refine wpAny_bind (wpAny_attempt (wpAny_mono (run_in2 (E := fun _ _ => False) F hr hb I2 (.cons ru .nil) (turn x (List.mem_of_getElem? hxj) H1 s1)) (fun v s'' he => ?_) fun _ _ hF => hF.elim))
    obtain ⟨v', H2, I3, r3, s2, t, rfl, ht⟩ := he
    obtain rfl : v = Value.ref t := r3
    try dsimp only
    obtain ⟨ea3, na3, _⟩ := I3.pin (a, seqObj "list" #[] e1) (List.mem_append_right _ (List.mem_append_right _ List.mem_cons_self))
    obtain ⟨ek3, nk3, _⟩ := I3.pin (kS, seqObj "list" kl.toArray e) (List.mem_append_right _ (List.mem_append_right _ (List.mem_cons_of_mem _ List.mem_cons_self)))
    have I4 : Inv X pins σ H2 s'' := I3.pins_of fun p hpm => I3.pin p (List.mem_append_right _ (List.mem_append_left _ hpm))
    have k1 := Heap.SameBut.update s''.heap kS (Obj.mapSeq (·.push (Value.ref t)))
    obtain ⟨c2, hc2⟩ : ∃ c2, (s''.heap.update kS (Obj.mapSeq (·.push (Value.ref t)))).get? kS = some (seqObj "list" (kl.toArray.push (Value.ref t)) c2) := ⟨_, get?_update_seq ek3 (·.push (Value.ref t))⟩
    refine wpAny_bind (listUpdate_at ek3 rfl ?_ (by rw [List.size_toArray]; omega) (by rw [Array.size_push, List.size_toArray]; omega))
    refine wpAny_pure ⟨rfl, H2, kl ++ [Value.ref t], c2, I4.turned (t' := s''.toks) (it := kS) (fun b o hb q => (k1.2 b hb).trans q) nk3 ok.loc (.inr ok.s0) ok.cel ok.pin, s1.trans s2, na3, nk3, (k1.2 a hka.symm).trans ea3, ?_, ?_⟩
    · have ez : (kl ++ [Value.ref t]).toArray = kl.toArray.push (Value.ref t) := by simp
      rw [ez]
      exact hc2
    · rw [List.take_add_one, hxj]
      refine paired_snoc ⟨t, rfl, ht⟩ (Paired.mapP hp fun kv y z => ?_)
      obtain ⟨t', rfl, h'⟩ := z
      exact ⟨t', rfl, s2 _ _ h'⟩
  case done =>
    rintro s' ⟨H1, kl, e, I1, s1, na1, nk1, ea1, ek1, hp⟩
    have ez : xs.take (0 + vs.length) = xs := List.take_of_length_le (by omega)
    rw [ez] at hp
    try dsimp only
    refine wpAny_bind (listItems_at ek1 rfl ?_)
    have hvx := vs_back rv hx
    have hpp : Paired (fun kv u => Srt.IsPair s'.heap kv (key (backV u)).1 (key (backV u)).2) kl vs := by
      have q : Paired (fun kv x => Srt.IsPair s'.heap kv (key x).1 (key x).2) kl (vs.map backV) := by
        rw [hvx]
        exact Paired.mapP hp fun kv y z => by
          obtain ⟨t', rfl, h'⟩ := z
          exact is_pair I1 h'
      clear hp hvx h turn
      have un : ∀ (l : List Value) (m : List Value), Paired (fun kv x => Srt.IsPair s'.heap kv (key x).1 (key x).2) l (m.map backV) → Paired (fun kv u => Srt.IsPair s'.heap kv (key (backV u)).1 (key (backV u)).2) l m := by
        intro l
        induction l with
        | nil =>
          intro m q
          cases m with
          | nil => exact .nil
          | cons _ _ => cases q
        | cons y l ih =>
          intro m q
          cases m with
          | nil => cases q
          | cons z m =>
            cases q with
            | cons r t => exact .cons r (ih m t)
      exact un _ _ q
    refine end_by (g := fun u => key (backV u)) ek1 ea1 hka (by rw [Paired.length hpp]; exact hz) hpp fun h' tk out c kp ha' hk' q1 q2 => ?_
    have J : Inv X pins σ H1 { s' with heap := h', toks := tk } := by
      refine I1.step (ch := [a, kS]) (fun b hb => ?_) (fun b o _ _ hc q _ => kp b o (fun z => hc (by simp [z])) (fun z => hc (by simp [z])) q) (fun b o _ _ hc q _ => ⟨o.slots, kp b o (fun z => hc (by simp [z])) (fun z => hc (by simp [z])) q⟩) (fun _ _ _ _ n => n)
        (fun b o hc q => ⟨o, kp b o (fun z => hc (by simp [z])) (fun z => hc (by simp [z])) q⟩) (fun _ _ q => q) (fun _ _ _ q => q) (fun b ps q => ⟨#[], by rw [q]; simp⟩) (fun m hm => ?_) (fun b u q => ?_) I1.bare
      · rcases List.mem_cons.mp hb with rfl | hb
        · exact ⟨.inr oa.s0, oa.loc, oa.cel, oa.pin⟩
        · rw [List.mem_singleton.mp hb]
          exact ⟨.inr ok.s0, ok.loc, ok.cel, ok.pin⟩
      · obtain ⟨o, es, ep, ho, r⟩ := hm
        exact ⟨o, es, ep, kp _ o oa.loc.symm ok.loc.symm ho, r⟩
      · have ne : ∀ c w, H1 c = some w → c ≠ a ∧ c ≠ kS := fun c w z => ⟨ne_of_none z na1, ne_of_none z nk1⟩
        refine (I1.hok b u q).stay (fun c v hc z => kp c v ?_ ?_ z) (fun _ z => z) fun _ _ z => z
        · rcases hc with rfl | hc
          · exact (ne _ _ q).1
          · exact (ne _ _ hc).1
        · rcases hc with rfl | hc
          · exact (ne _ _ q).2
          · exact (ne _ _ hc).2
    exact h _ H1 out c J s1 na1 ha' q1 q2
theorem tree_by {n : Nat} (F : FnOk X.prog X.w X.K X.mg X.base CX0 k f fd ps sp) (hr : Room (k + 2) X.A) (hb : Binds X.K fd ps []) (I : Inv X pins σ H s) (ea : s.heap.get? a = some (seqObj "list" vs.toArray n))
    (oa : Own X pins a) (na : H a = none) (rv : Vals xs vs) (hz : vs.length ≤ sizeLine) (hx : ∀ x ∈ xs, ∃ t, x = V.ref t)
    (turn : ∀ x ∈ xs, ∀ H1, Same H H1 → sp [x] H1 (fun v H2 => Same H1 H2 ∧ ∃ t, v = .ref t ∧ H2 t = some (.tup [.int (key x).1, .int (key x).2])) E0) (h : Byd X pins σ H a vs key P) :
    wpAny (model X.prog X.w) X.A.in1.in1 (ksk_tree a (.ref f) false) P E s := by
  have la : a < s.heap.objs.size := Heap.lt_size ea
  have k1 := Heap.SameBut.update s.heap a (Obj.mapSeq fun _ => (#[] : Array Value))
  obtain ⟨e1, ha1⟩ : ∃ e1, (s.heap.update a (Obj.mapSeq fun _ => (#[] : Array Value))).get? a = some (seqObj "list" #[] e1) := ⟨_, get?_update_seq ea fun _ => #[]⟩
  have I1 : Inv X pins σ H { s with heap := s.heap.update a (Obj.mapSeq fun _ => (#[] : Array Value)) } := I.turned (t' := s.toks) (it := a) (fun b o hb q => (k1.2 b hb).trans q) na oa.loc (.inr oa.s0) oa.cel oa.pin
  unfold ksk_tree
  refine wpAny_bind (listItems_at ea rfl ?_)
  refine wpAny_bind (listUpdate_at ea rfl ?_ (by rw [List.size_toArray]; exact hz) (Nat.zero_le _))
  refine wpAny_bind (seqEpoch_at ha1 rfl ?_)
  refine wpAny_bind (wpAny_newTuple ?_ (by show vs.length ≤ _; exact hz))
  refine wpAny_bind (wpAny_newList ?_ (Nat.zero_le _))
  refine wpAny_holding ?_
  have kp : ∀ b o, (s.heap.update a (Obj.mapSeq fun _ => (#[] : Array Value))).get? b = some o → (((s.heap.update a (Obj.mapSeq fun _ => (#[] : Array Value))).push (seqObj "tuple" vs.toArray 0)).push (seqObj "list" #[] 0)).get? b = some o := fun b o q => Heap.get?_push_of_some _ (Heap.get?_push_of_some _ q)
  have I2 : Inv X pins σ H { s with heap := ((s.heap.update a (Obj.mapSeq fun _ => (#[] : Array Value))).push (seqObj "tuple" vs.toArray 0)).push (seqObj "list" #[] 0) } := I1.kept (t' := s.toks) kp
  have hs2 : ((s.heap.update a (Obj.mapSeq fun _ => (#[] : Array Value))).push (seqObj "tuple" vs.toArray 0)).objs.size = s.heap.objs.size + 1 := by rw [size_push', Heap.size_update]
  have hle : s.heap.objs.size ≤ ((s.heap.update a (Obj.mapSeq fun _ => (#[] : Array Value))).push (seqObj "tuple" vs.toArray 0)).objs.size := by rw [hs2]; exact Nat.le_succ _
  exact rest_by F hr hb I2 (kp _ _ ha1) (Heap.get?_push_size _ rfl) oa (Own.new I hle) (by rw [hs2]; exact Nat.ne_of_gt (Nat.lt_succ_of_lt la)) na (I.hok.fresh hle) rv hz hx turn h
end
section
variable {X : Cx}
/-- sorted(xs, key=f) -/
theorem cr_sortedBy {f : Addr} {k : Nat} {fd : FuncData} {ps : List Str} {sp : Sp} (F : FnOk X.prog X.w X.K X.mg X.base CX0 k f fd ps sp) (hr : Room (k + 2) X.A) (hb : Binds X.K fd ps []) : CallRK X (.builtin "sorted") [Str.ofString "key"] (rBy X.K f sp) := by
  intro pins s σ H ws zs us uz Q I r rz hh
  obtain ⟨l, xs, key, rfl, rfl, hS, hx, turn, h⟩ := hh
  obtain rfl := Vals.ref1 r
  obtain ⟨uf, rfl, ef⟩ := vals1 rz
  obtain rfl : uf = Value.ref f := ef
  obtain ⟨its, rv, hl, hz⟩ := I.list hS
  have hz' : its.length ≤ sizeLine := by
    rw [← rv.length]
    exact hz
  refine PyProof.Rows.call_function_entry_kw kind_sorted plain_sorted entry_sorted (ksk_s1 _ _) ?_
  unfold Builtin.«sorted»
  refine wpAny_bind (m := checkCount "sorted" 1 1 _) (wpAny_pure ?_)
  refine wpAny_bind (collect_list hl.isList ?_ hz')
  refine wpAny_bind (wpAny_newList ?_ hz')
  have hsz : ((s.heap.push (seqObj "list" #[] 0)).update s.heap.objs.size (Obj.mapSeq (· ++ its.toArray))).objs.size = s.heap.objs.size + 1 := by rw [Heap.size_update, size_push']
  have hoL : (((s.heap.push (seqObj "list" #[] 0)).update s.heap.objs.size (Obj.mapSeq (· ++ its.toArray))).push (seqObj "list" its.toArray 0)).get? (s.heap.objs.size + 1) = some (seqObj "list" its.toArray 0) := by
    rw [← hsz]
    exact Heap.get?_push_size _ rfl
  have kp : ∀ b o, s.heap.get? b = some o → (((s.heap.push (seqObj "list" #[] 0)).update s.heap.objs.size (Obj.mapSeq (· ++ its.toArray))).push (seqObj "list" its.toArray 0)).get? b = some o := by
    intro b o q
    refine Heap.get?_push_of_some _ ?_
    rw [Heap.get?_update_ne _ _ _ _ (Nat.ne_of_lt (Heap.lt_size q))]
    exact Heap.get?_push_of_some _ q
  show wpAny _ _ _ _ _ { s with heap := ((s.heap.push (seqObj "list" #[] 0)).update s.heap.objs.size (Obj.mapSeq (· ++ its.toArray))).push (seqObj "list" its.toArray 0) }
  rw [hsz]
  have I1 : Inv X pins σ H { s with heap := ((s.heap.push (seqObj "list" #[] 0)).update s.heap.objs.size (Obj.mapSeq (· ++ its.toArray))).push (seqObj "list" its.toArray 0) } := I.kept (t' := s.toks) kp
  have oa : Own X pins (s.heap.objs.size + 1) := Own.new I (Nat.le_succ _)
  have na : H (s.heap.objs.size + 1) = none := I.hok.fresh (Nat.le_succ _)
  refine wpAny_bind (wpAny_holding (PyProof.Rows.wpAny_call_entry_kw slot_list_sort ⟨_, hoL, rfl⟩ entry_list_sort ?body (ksk_l1 _ _)))
  case body =>
    show wpAny (model X.prog X.w) X.A.in1.in1 (Builtin.«list.sort» ⟨[.ref (s.heap.objs.size + 1)], [(Str.ofString "key", .ref f)]⟩) _ _ _
    rw [ksk_t1]
    refine tree_by F hr hb I1 hoL oa na rv hz' hx turn fun s' H1 out c J s1 na1 ha' q1 q2 => ⟨_, rfl, ?_⟩
    refine wpAny_pure ⟨_, rfl, ?_⟩
    have hvx := vs_back rv hx
    have hrefs : ∀ u ∈ out, ∃ t, u = Value.ref t := by
      intro u hu
      obtain ⟨i, hi⟩ := List.getElem?_of_mem (q2.perm.mem_iff.mp hu)
      obtain ⟨x, hxi⟩ : ∃ x, xs[i]? = some x := ⟨_, List.getElem?_eq_getElem (by have z := (List.getElem?_eq_some_iff.mp hi).1; have := rv.length; omega)⟩
      obtain ⟨t, _, hv⟩ := refs_of rv hx hxi
      exact ⟨t, Option.some.inj (hi.symm.trans hv)⟩
    have vo : Vals (out.map backV) out := by
      clear ha' q1 q2
      induction out with
      | nil => exact .nil
      | cons u r ih =>
        obtain ⟨t, rfl⟩ := hrefs u List.mem_cons_self
        exact .cons rfl (ih fun v hv => hrefs v (List.mem_cons_of_mem _ hv))
    have hlo : (out.map backV).length ≤ sizeLine := by
      rw [List.length_map, q2.len]
      exact hz'
    refine ⟨.ref (s.heap.objs.size + 1), upd H1 (s.heap.objs.size + 1) (.lst (out.map backV)), inv_track J na1 oa.s0 oa.loc oa.cel oa.pin ⟨hlo, out, c, vo, ha'⟩, rfl, h _ _ H1 ?_ ?_ s1 na1⟩
    · exact List.pairwise_map.mpr q1
    · refine ⟨?_, fun x => ?_⟩
      · rw [← hvx]
        exact q2.perm.map backV
      · rw [← hvx]
        by_cases hq : ∃ u ∈ its, key (backV u) = key x
        · obtain ⟨u, hm, hk⟩ := hq
          have c2 := q2.cls u
          have e : ∀ l : List Value, (l.map backV).filter (SrtO.eqv (ltP key) x) = (l.filter (SrtO.eqv (ltG fun u => key (backV u)) u)).map backV := by
            intro l
            rw [List.filter_map]
            congr 1
            refine List.filter_congr fun v _ => ?_
            show (!SrtO.lexB (key x) (key (backV v)) && !SrtO.lexB (key (backV v)) (key x)) = (!SrtO.lexB (key (backV u)) (key (backV v)) && !SrtO.lexB (key (backV v)) (key (backV u)))
            rw [hk]
          rw [e out, e its, c2]
        · have no : ∀ l : List Value, (∀ v ∈ l, v ∈ its) → (l.map backV).filter (SrtO.eqv (ltP key) x) = [] := by
            intro l hl2
            refine List.filter_eq_nil_iff.mpr fun y hy z => ?_
            obtain ⟨v, hv, rfl⟩ := List.mem_map.mp hy
            refine hq ⟨v, hl2 v hv, ?_⟩
            have z2 := SrtO.eqv_iff.mp z
            have z3 := SrtO.lexB_no.mp z2.1
            have z4 := SrtO.lexB_no.mp z2.2
            refine Prod.ext ?_ ?_ <;> omega
          rw [no out (fun v hv => q2.perm.mem_iff.mp hv), no its (fun v hv => hv)]
end
end KX

set_option Elab.async false
set_option maxRecDepth 100000
set_option maxHeartbeats 2000000
namespace K04
open PySem PySem.Spec PyProof.Rows L2 KX
def startK (p : Pc) : Int × Int := match p.1 with
  | none => (0, 0)
  | some l => (1, l)
def endP : V → Option Int
  | .int i => some i
  | _ => none
def pcAt (H : Hp) : V → Pc
  | .ref a => match H a with
    | some (.tup [l, h, .int b]) => (endP l, endP h, b)
    | _ => (none, none, 0)
  | _ => (none, none, 0)
theorem endP_of (l : Option Int) : endP (endV l) = l := by cases l <;> rfl
theorem pcAt_of {H : Hp} {x : V} {p : Pc} (h : IsPc H x p) : pcAt H x = p := by
  obtain ⟨a, rfl, e⟩ := h
  show (match H a with
    | some (.tup [l, h, .int b]) => (endP l, endP h, b)
    | _ => (none, none, 0)) = p
  rw [e]
  show (endP (endV p.1), endP (endV p.2.1), p.2.2) = p
  rw [endP_of, endP_of]
abbrev Pcs (H : Hp) : List V → List Pc → Prop := Paired (IsPc H)
theorem Pcs.map {H : Hp} : ∀ {xs : List V} {ps : List Pc}, Pcs H xs ps → ps = xs.map (pcAt H)
  | _, _, .nil => rfl
  | _, _, .cons h t => by rw [List.map_cons, pcAt_of h, ← Pcs.map t]
theorem Pcs.mem {H : Hp} : ∀ {xs : List V} {ps : List Pc}, Pcs H xs ps → ∀ x ∈ xs, IsPc H x (pcAt H x)
  | _, _, .cons h t, x, hx => by
    rcases List.mem_cons.mp hx with rfl | hx
    · rw [pcAt_of h]
      exact h
    · exact Pcs.mem t x hx
theorem pcs_of {H : Hp} : ∀ {xs : List V}, (∀ x ∈ xs, IsPc H x (pcAt H x)) → Pcs H xs (xs.map (pcAt H))
  | [], _ => .nil
  | x :: xs, h => .cons (h x List.mem_cons_self) (pcs_of fun y hy => h y (List.mem_cons_of_mem _ hy))
theorem Pcs.imp {H H' : Hp} (f : ∀ x p, IsPc H x p → IsPc H' x p) : ∀ {xs : List V} {ps : List Pc}, Pcs H xs ps → Pcs H' xs ps
  | _, _, .nil => .nil
  | _, _, .cons h t => .cons (f _ _ h) (Pcs.imp f t)
theorem pcs_snoc {H : Hp} {x : V} {p : Pc} (h : IsPc H x p) : ∀ {xs : List V} {ps : List Pc}, Pcs H xs ps → Pcs H (xs ++ [x]) (ps ++ [p])
  | _, _, .nil => .cons h .nil
  | _, _, .cons q t => .cons q (pcs_snoc h t)
/-- whether p goes on where r ends, and moves alike -/
def joins (r p : Pc) : Bool := decide (r.2.2 = p.2.2) && (match r.2.1, p.1 with
  | some h, some l => decide (h + 1 = l)
  | _, _ => false)
def mergeStep (rs : List Pc) (p : Pc) : List Pc := match rs.getLast? with
  | some r => if joins r p = true then rs.dropLast ++ [(r.1, p.2.1, p.2.2)] else rs ++ [p]
  | none => rs ++ [p]
def mergeAll (qs : List Pc) : List Pc := qs.foldl mergeStep []
theorem merge_last (rs : List Pc) (p : Pc) : ∃ r, (mergeStep rs p).getLast? = some r ∧ r.2.1 = p.2.1 := by
  unfold mergeStep
  split
  · rename_i r _
    split
    · exact ⟨(r.1, p.2.1, p.2.2), by rw [List.getLast?_append]; rfl, rfl⟩
    · exact ⟨p, by rw [List.getLast?_append]; rfl, rfl⟩
  · exact ⟨p, by rw [List.getLast?_append]; rfl, rfl⟩
theorem mergeAll_snoc (qs : List Pc) (p : Pc) : mergeAll (qs ++ [p]) = mergeStep (mergeAll qs) p := by
  unfold mergeAll
  rw [List.foldl_append]
  rfl
theorem mergeAll_last {qs : List Pc} {p : Pc} (h : qs.getLast? = some p) : ∃ r, (mergeAll qs).getLast? = some r ∧ r.2.1 = p.2.1 := by
  obtain ⟨rs, rfl⟩ : ∃ rs, qs = rs ++ [p] := by
    have := List.getLast?_eq_some_iff.mp h
    exact this
  rw [mergeAll_snoc]
  exact merge_last _ _
theorem meets_symm {p q : Pc} (h : meets p q = false) : meets q p = false := by
  unfold meets at h ⊢
  rw [Bool.and_comm]
  exact h
/-- two pieces that do not meet, the former not behind the latter: it is ahead -/
theorem ahead_of {p q : Pc} (hp : okPc p) (hq : okPc q) (h : meets p q = false) (hs : SrtO.lexB (startK q) (startK p) = false) : ahead p q = true := by
  cases e : ahead p q with
  | true => rfl
  | false =>
    have e2 : ahead q p = true := by
      unfold meets at h
      rw [e] at h
      cases c : ahead q p
      · rw [c] at h
        cases h
      · rfl
    obtain ⟨u, l, h1, h2, h3⟩ := ahead_iff.mp e2
    have z := SrtO.lexB_no.mp hs
    have k1 : startK p = (1, l) := by unfold startK; rw [h2]
    rw [k1] at z
    cases c : q.1 with
    | none =>
      have k2 : startK q = (0, 0) := by unfold startK; rw [c]
      rw [k2] at z
      exact absurd (Or.inl (show (0 : Int) < 1 by decide)) z
    | some m =>
      have k2 : startK q = (1, m) := by unfold startK; rw [c]
      rw [k2] at z
      have := okPc_le hq c h1
      exact absurd (Or.inr ⟨rfl, (by show m < l; omega)⟩) z
/-- _start -/
def spStart : Sp := fun vs H Q _ => ∃ (x : V) (p : Pc), vs = [x] ∧ IsPc H x p ∧ ∀ t, H t = none → Q (.ref t) (upd H t (.tup [.int (startK p).1, .int (startK p).2]))
section
variable {P : Program} {w : World} {K : PySem.W.Frag} {mg : Str → Option Value} {base : Heap}
theorem scStart : FnScope ["piece"] ["piece"] (defScope sStart) := ⟨rfl, rfl, rfl, by decide +kernel, rfl, by decide +kernel, by decide +kernel⟩
theorem ok_start {f : Addr} {fd : FuncData} (F : FnP K "_start" sStart f fd) : FnOk P w K mg base CX0 1 f fd ["piece"] spStart := by
  refine F.ok scStart (fun vs H Q E h => ?_) (fun cdv A outer s H vs Q E hr h => ?_)
  · obtain ⟨x, p, rfl, _⟩ := h
    rfl
  · obtain ⟨x, ⟨pl, ph, pb⟩, rfl, ⟨a, rfl, ha⟩, k⟩ := h
    have hS := SqT.of (K := K) ha
    refine ⟨_, PSs.nox (pss_one (ps_ret (pe_ifExp (pt_cmpR op_isN (pe_ix ix_tup (pv 0) pe_int (fun _ _ => rfl)) pe_non (nomark _)) (pe_tup (pa_cons pe_int (pa_cons pe_int pa_nil))) (pe_tup (pa_cons pe_int (pa_cons (pe_ix ix_tup (pv 0) pe_int (fun _ _ => rfl)) pa_nil)))))), ?_⟩
    refine ⟨_, rfl, _, _, _, _, rfl, rfl, hS, rfl, rfl, _, rfl, ite2' (fun c => ?_) (fun c => ?_)⟩
    · cases pl with
      | none => exact ⟨(by show 2 ≤ sizeLine; decide), fun t nt => k t nt⟩
      | some l => cases c
    · cases pl with
      | none => cases c
      | some l => exact ⟨_, rfl, _, _, _, _, rfl, rfl, hS, rfl, (by show 2 ≤ sizeLine; decide), fun t nt => k t nt⟩
theorem ixN_last {α : Type} (xs : List α) (x : α) : ixN (xs ++ [x]).length (-1) = some xs.length := by
  unfold ixN
  rw [if_neg (by decide), if_pos (by rw [List.length_append]; show -((xs.length + 1 : Nat) : Int) ≤ -1; omega)]
  rw [List.length_append]
  congr 1
  show (-1 + ((xs.length + 1 : Nat) : Int)).toNat = _
  omega
theorem atI_last {α : Type} (xs : List α) (x : α) : atI (xs ++ [x]) (-1) = some x := by
  unfold atI
  rw [ixN_last]
  exact List.getElem?_concat_length
theorem set_last {α : Type} (xs : List α) (x y : α) : (xs ++ [x]).set xs.length y = xs ++ [y] := by
  rw [List.set_append_right _ _ (Nat.le_refl _), Nat.sub_self]
  rfl
theorem IsPc.kept {F : Addr} {G G' : Hp} {zs : List V} {x : V} {p : Pc} (k : Kept F G G') (hF : G F = some (.lst zs)) (h : IsPc G x p) : IsPc G' x p :=
  h.imp fun a h => ⟨h.1, k a _ (by rintro rfl; rw [hF] at h; exact nomatch h.2) h.2⟩
theorem pcs_last {H : Hp} : ∀ {zs : List V} {rs : List Pc}, zs ≠ [] → Pcs H zs rs → ∃ z0 z r0 r, zs = z0 ++ [z] ∧ rs = r0 ++ [r] ∧ Pcs H z0 r0 ∧ IsPc H z r
  | [], _, n, _ => absurd rfl n
  | [z], _, _, .cons h .nil => ⟨[], z, [], _, rfl, rfl, .nil, h⟩
  | z :: y :: zs, _, _, .cons h t => by
    obtain ⟨z0, w, r0, r, e1, e2, e3, e4⟩ := pcs_last (List.cons_ne_nil y zs) t
    exact ⟨z :: z0, w, _ :: r0, r, by rw [e1]; rfl, by rw [e2]; rfl, .cons h e3, e4⟩
theorem step_app {rs : List Pc} {p : Pc} (h : ∀ r, rs.getLast? = some r → joins r p = false) : mergeStep rs p = rs ++ [p] := by
  unfold mergeStep
  split
  · rename_i r e
    rw [h r e]
    rfl
  · rfl
theorem step_join {r0 : List Pc} {r p : Pc} (h : joins r p = true) : mergeStep (r0 ++ [r]) p = r0 ++ [(r.1, p.2.1, p.2.2)] := by
  unfold mergeStep
  rw [List.getLast?_concat]
  show (if joins r p = true then _ else _) = _
  rw [if_pos h, List.dropLast_concat]
/-- what _normal tells -/
def spNormal (K : PySem.W.Frag) : Sp := fun vs H Q _ => ∃ (a : Addr) (xs : List V) (ps : List Pc), vs = [.ref a] ∧ SqT K H a xs ∧ xs.length ≤ 100000 ∧ Pcs H xs ps ∧ (∀ p ∈ ps, okPc p) ∧ ps.Pairwise (fun p q => meets p q = false) ∧
  ∀ t zs qs H', Same H H' → H' t = some (.tup zs) → qs.Perm (ps.filter fun p => decide (p.2.2 ≠ 0)) → qs.Pairwise (fun p q => SrtO.lexB (startK q) (startK p) = false) → Pcs H' zs (mergeAll qs) → Q (.ref t) H'
abbrev NN : List Str := ["pieces", "found", "low", "high", "by", "piece"]
theorem scNormal : FnScope NN ["pieces"] (defScope sNormal) := ⟨rfl, rfl, rfl, by decide +kernel, rfl, by decide +kernel, by decide +kernel⟩
theorem ok_normal {f fS : Addr} {fd fdS : FuncData} (F : FnP K "_normal" sNormal f fd) (FS : FnP K "_start" sStart fS fdS) (gS : mg "_start" = some (.ref fS)) (gSo : mg "sorted" = none) (gT : mg "tuple" = none) : FnOk P w K mg base CX0 5 f fd ["pieces"] (spNormal K) := by
  have GS : FnOk P w K mg base CX0 1 fS fdS ["piece"] spStart := ok_start FS
  have bS : Binds K fdS ["piece"] [] := FS.bindsN fun _ _ _ _ _ _ us hl => match us, hl with | [_], _ => rfl
  refine F.ok scNormal (fun vs H Q E h => ?_) (fun cdv A outer s H vs Q E hr h => ?_)
  · obtain ⟨a, xs, ps, rfl, _⟩ := h
    rfl
  · obtain ⟨a, xs, ps, rfl, hS, hl, hP, hok, hpw, k⟩ := h
    have nd := scNormal.nd
    refine ⟨_, PSs.nox (pss_cons (ps_set (i := 1) nd rfl (Or.inl rfl) (pe_lst pa_nil))
      (pss_cons (ps_for PassesOwn.never rfl (pi_list (pe_callBK (cr_sortedBy GS (hr.mono (by decide)) bS) (by rfl) gSo (by decide +kernel)
          (pa_cons (pe_lc (own := [("piece", 5)]) (g := gName 5) rfl nd (pi_tup (pv 0)) (blkOk_by (own := [("piece", 5)]) (N := NN) (sc := defScope sNormal) (by decide +kernel)) (fun _ _ _ _ _ => pg_name (i := 5) nd rfl (Or.inl rfl))
            (fun _ _ _ _ _ => pts_one (pt_cmpR op_ne (pe_ix (show IxR _ (rIxT K) from ix_tup) (pv 5) pe_int (fun _ _ => rfl)) pe_int (nomark _))) (fun _ _ _ _ _ => pv 5)) pa_nil) (pk_cons (pe_glob (v := .ref fS) rfl gS rfl) pk_nil)))
          (pg_tup rfl (pgs_cons (pg_name (i := 2) nd rfl (Or.inl rfl)) (pgs_cons (pg_name (i := 3) nd rfl (Or.inl rfl)) (pgs_cons (pg_name (i := 4) nd rfl (Or.inl rfl)) pgs_nil))))
        (pss_one (ps_if (PW.pt (pw_and (pt_truth (pv 1) (by intro _; rfl)) (pw_and (pt_cmpR op_eq (pe_ix ix_tup (pe_ix ix_list (pv 1) (pe_un un_neg pe_int) (fun _ _ => rfl)) pe_int (fun _ _ => rfl)) (pv 4) (nomark _))
            (pw_and1 (pt_cmpR op_eq (pe_op op_add (pe_ix ix_tup (pe_ix ix_list (pv 1) (pe_un un_neg pe_int) (fun _ _ => rfl)) pe_int (fun _ _ => rfl)) pe_int) (pv 2) (nomark _))))))
          (pss_one (ps_asg (pe_tup (pa_cons (pe_ix ix_tup (pe_ix ix_list (pv 1) (pe_un un_neg pe_int) (fun _ _ => rfl)) pe_int (fun _ _ => rfl)) (pa_cons (pv 3) (pa_cons (pv 4) pa_nil)))) (pg_sub (pv 1) (pe_un un_neg pe_int) set_list)))
          (pss_one (ps_expr (pe_bm PySem.F.plainAttrs_list PySem.F.slot_list_append PySem.F.type_list_append mt_append (pv 1) (pa_cons (pe_tup (pa_cons (pv 2) (pa_cons (pv 3) (pa_cons (pv 4) pa_nil)))) pa_nil)))))))
      (pss_one (ps_ret (pe_tupleOf (by rfl) gT (pv 1)))))), ?_⟩
    refine ⟨by decide, fun F0 nF => ?_⟩
    have sF := same_put (o := .lst []) nF
    have fF : upd H F0 (.lst []) F0 = some (.lst []) := upd_same
    generalize upd H F0 (.lst []) = HF at sF fF
    refine ⟨_, rfl, a, rfl, ⟨xs, sqT_same sF hS⟩, fun D nD => ?_⟩
    refine lc_tup (K := K) (a := a) (xs := xs) (fun j G => G D = some (.lst ((xs.take j).filter fun x => decide ((pcAt H x).2.2 ≠ 0))) ∧ Same HF G) ⟨upd_same, same_put nD⟩ (fun j G _ h => sqT_same (sF.trans h.2) hS) ?_ ?_
    · rintro j x G hx ⟨hD, s1⟩
      have hpx := hP.mem x (List.mem_of_getElem? hx)
      have hpG := hpx.same (sF.trans s1)
      generalize hpp : pcAt H x = p at hpx hpG
      obtain ⟨pl, ph, pb⟩ := p
      obtain ⟨ax, rfl, hax⟩ := hpG
      refine ⟨rfl, ?_⟩
      refine ⟨_, rfl, _, _, _, _, rfl, rfl, SqT.of hax, rfl, rfl, _, rfl, ?_⟩
      have hc : (!decide (V.int pb = V.int 0)) = decide (pb ≠ 0) := by
        by_cases c : pb = 0
        · rw [c]; rfl
        · rw [decide_eq_true c, decide_eq_false fun z => c (V.int.inj z)]
          rfl
      have hl2 : ((xs.take j).filter fun x => decide ((pcAt H x).2.2 ≠ 0)).length < sizeLine := by
        have h1 := List.length_filter_le (fun x => decide ((pcAt H x).2.2 ≠ 0)) (xs.take j)
        rw [List.length_take] at h1
        rw [sizeLine_eq]
        omega
      have hgo : (xs.take (j + 1)).filter (fun x => decide ((pcAt H x).2.2 ≠ 0)) = (xs.take j).filter (fun x => decide ((pcAt H x).2.2 ≠ 0)) ++ (if decide (pb ≠ 0) = true then [V.ref ax] else []) := by
        rw [take_at hx, List.filter_append, List.filter_cons, hpp]
        rfl
      refine ite2' (fun c => ?_) (fun c => ?_)
      · have c2 : decide (pb ≠ 0) = true := hc.symm.trans c
        refine ⟨_, rfl, _, hD, hl2, ?_, fun y o e => ?_⟩
        · rw [upd_same, hgo, if_pos c2]
        · rw [upd_ne (ne_of_none e nD)]
          exact s1 _ _ e
      · have c2 : decide (pb ≠ 0) = false := hc.symm.trans c
        refine ⟨?_, s1⟩
        rw [hgo, c2]
        show G D = some (.lst (_ ++ []))
        rw [List.append_nil]
        exact hD
    · rintro G ⟨hD, s1⟩
      rw [List.take_length] at hD
      have sG := sF.trans s1
      generalize hws : xs.filter (fun x => decide ((pcAt H x).2.2 ≠ 0)) = ws at hD
      have hwx : ∀ x ∈ ws, x ∈ xs := fun x hx => by
        rw [← hws] at hx
        exact (List.mem_filter.mp hx).1
      have hwp : ∀ x ∈ ws, IsPc H x (pcAt H x) := fun x hx => hP.mem x (hwx x hx)
      refine ⟨D, ws, fun x => startK (pcAt H x), rfl, rfl, SqL.of hD, (fun x hx => (hwp x hx).imp fun _ h => h.1), (fun x hx G1 s2 => ⟨x, pcAt H x, rfl, (hwp x hx).same (sG.trans s2), fun t nt => ⟨same_put nt, t, rfl, upd_same⟩⟩), fun ys p G1 hsr hst s2 np => ?_⟩
      have s3 := s1.trans (s2.trans (same_put (o := .lst ys) np))
      have sJ := sF.trans s3
      have fp : upd G1 p (.lst ys) p = some (.lst ys) := upd_same
      have npF : p ≠ F0 := (ne_of_none ((s1.trans s2) _ _ fF) np).symm
      generalize upd G1 p (.lst ys) = J at s3 sJ fp
      have hyp : ∀ y ∈ ys, IsPc H y (pcAt H y) := fun y hy => hwp y (hst.perm.mem_iff.mp hy)
      have psm := hP.map
      have hyk : ∀ y ∈ ys, okPc (pcAt H y) := fun y hy => hok _ (by
        rw [psm]
        exact List.mem_map_of_mem (hwx y (hst.perm.mem_iff.mp hy)))
      have hyl : ys.length ≤ 100000 := by
        have e1 := hst.perm.length_eq
        have e2 := List.length_filter_le (fun x => decide ((pcAt H x).2.2 ≠ 0)) xs
        rw [hws] at e2
        omega
      have hym : ys.Pairwise fun x y => meets (pcAt H x) (pcAt H y) = false := by
        have e1 : xs.Pairwise fun x y => meets (pcAt H x) (pcAt H y) = false := by
          rw [psm] at hpw
          exact List.pairwise_map.mp hpw
        have e2 : ws.Pairwise fun x y => meets (pcAt H x) (pcAt H y) = false := by
          rw [← hws]
          exact e1.sublist List.filter_sublist
        exact (hst.perm.pairwise_iff (fun h => meets_symm h)).mpr e2
      refine ⟨p, rfl, ⟨_, SqL.of fp⟩, for_list (K := K) (a := p) (xs := ys) (fun j σ G => ∃ zs y2 y3 y4 y5, σ = [some (.ref a), some (.ref F0), y2, y3, y4, y5] ∧ G F0 = some (.lst zs) ∧ zs.length ≤ j ∧ Pcs G zs (mergeAll ((ys.map (pcAt H)).take j)) ∧ Kept F0 J G)
        ⟨[], _, _, _, _, rfl, s3 _ _ fF, Nat.le_refl _, .nil, Kept.refl _ _⟩ ?_ ?_ ?_⟩
      · rintro j σ G2 _ ⟨_, _, _, _, _, _, _, _, _, kk⟩
        exact SqL.of (kk _ _ npF fp)
      · rintro j x σ G2 hx ⟨zs, y2, y3, y4, y5, rfl, hF, hzl, hpc, kk⟩
        have hxm := List.mem_of_getElem? hx
        have hxH := hyp x hxm
        have hok1 := hyk x hxm
        have hqj : (ys.map (pcAt H))[j]? = some (pcAt H x) := by
          rw [List.getElem?_map, hx]
          rfl
        have htake := take_at hqj
        have hprev : ∀ r, (mergeAll ((ys.map (pcAt H)).take j)).getLast? = some r → ∃ h l, r.2.1 = some h ∧ (pcAt H x).1 = some l := by
          intro r hr1
          cases j with
          | zero => cases hr1
          | succ i =>
            have hj := (List.getElem?_eq_some_iff.mp hx).1
            have hi : i < ys.length := by omega
            have hyi : ys[i]? = some ys[i] := List.getElem?_eq_getElem hi
            have hqi : (ys.map (pcAt H))[i]? = some (pcAt H ys[i]) := by
              rw [List.getElem?_map, hyi]
              rfl
            obtain ⟨r2, e1, e2⟩ := mergeAll_last (qs := (ys.map (pcAt H)).take (i + 1)) (p := pcAt H ys[i]) (by rw [take_at hqi, List.getLast?_concat])
            obtain rfl : r2 = r := Option.some.inj (e1.symm.trans hr1)
            have ex : x = ys[i + 1] := Option.some.inj (hx.symm.trans (List.getElem?_eq_getElem hj))
            have hm := List.pairwise_iff_getElem.mp hym i (i + 1) hi hj (Nat.lt_succ_self _)
            have hs := List.pairwise_iff_getElem.mp hsr i (i + 1) hi hj (Nat.lt_succ_self _)
            rw [← ex] at hm hs
            obtain ⟨h, l, h1, h2, _⟩ := ahead_iff.mp (ahead_of (hyk _ (List.getElem_mem hi)) hok1 hm hs)
            exact ⟨h, l, e2.trans h1, h2⟩
        generalize hpe : pcAt H x = pp at hxH hok1 hqj htake hprev
        have hx2 : IsPc G2 x pp := IsPc.kept kk (s3 _ _ fF) (hxH.same sJ)
        obtain ⟨pl, ph, pb⟩ := pp
        obtain ⟨ax, rfl, hax⟩ := hx2
        have hz4 : ∀ n : Nat, n ≤ j → n < sizeLine := fun n hn => by
          have := (List.getElem?_eq_some_iff.mp hx).1
          rw [sizeLine_eq]
          omega
        have grow : ∀ T, G2 T = none → mergeStep (mergeAll ((ys.map (pcAt H)).take j)) (pl, ph, pb) = mergeAll ((ys.map (pcAt H)).take j) ++ [(pl, ph, pb)] →
            (upd (upd G2 T (.tup [endV pl, endV ph, .int pb])) F0 (.lst (zs ++ [.ref T]))) F0 = some (.lst (zs ++ [.ref T])) ∧ (zs ++ [V.ref T]).length ≤ j + 1 ∧
            Pcs (upd (upd G2 T (.tup [endV pl, endV ph, .int pb])) F0 (.lst (zs ++ [.ref T]))) (zs ++ [.ref T]) (mergeAll ((ys.map (pcAt H)).take (j + 1))) ∧ Kept F0 J (upd (upd G2 T (.tup [endV pl, endV ph, .int pb])) F0 (.lst (zs ++ [.ref T]))) := by
          intro T nT hm
          have nTF : T ≠ F0 := (ne_of_none hF nT).symm
          have k2 : Kept F0 G2 (upd (upd G2 T (.tup [endV pl, endV ph, .int pb])) F0 (.lst (zs ++ [.ref T]))) := fun b o n e => by
            rw [upd_ne n, upd_ne (ne_of_none e nT)]
            exact e
          refine ⟨upd_same, (by rw [List.length_append]; exact Nat.succ_le_succ hzl), ?_, kk.trans k2⟩
          rw [htake, mergeAll_snoc, hm]
          exact pcs_snoc ⟨T, rfl, by rw [upd_ne nTF, upd_same]⟩ (hpc.imp fun x p h => h.kept k2 hF)
        refine ⟨ax, _, rfl, SqT.of hax, rfl, _, _, rfl, _, _, rfl, _, _, rfl, rfl, ?_⟩
        refine ⟨_, rfl, !zs.isEmpty, .inl ⟨zs, SqL.of hF, rfl⟩, ?_⟩
        by_cases hze : zs = []
        · subst hze
          have hm0 : mergeAll ((ys.map (pcAt H)).take j) = [] := by
            generalize mergeAll ((ys.map (pcAt H)).take j) = mm at hpc
            cases hpc
            rfl
          refine ⟨_, rfl, .inl ⟨rfl, _, SqL.of hF⟩, _, rfl, _, rfl, _, rfl, (by show 3 ≤ sizeLine; decide), fun T nT => ⟨F0, [], _, rfl, rfl, (upd_ne (ne_of_none hF nT)).trans hF, hz4 _ hzl, ?_⟩⟩
          obtain ⟨g1, g2, g3, g4⟩ := grow T nT (step_app fun r e => by rw [hm0] at e; cases e)
          exact ⟨_, _, _, _, _, rfl, g1, g2, g3, g4⟩
        · obtain ⟨z0, z, r0, r, rfl, hm0, hp0, hzr⟩ := pcs_last hze hpc
          obtain ⟨rl, rh, rb⟩ := r
          obtain ⟨az, rfl, haz⟩ := hzr
          obtain ⟨h, l, eh, el⟩ := hprev _ (by rw [hm0, List.getLast?_concat])
          obtain rfl : rh = some h := eh
          obtain rfl : pl = some l := el
          have e0 : (!(z0 ++ [V.ref az]).isEmpty) = true := by cases z0 <;> rfl
          rw [e0]
          refine ⟨_, rfl, _, rfl, F0, _, _, _, rfl, rfl, SqL.of hF, atI_last _ _, _, _, _, _, rfl, rfl, SqT.of haz, rfl, _, rfl, rfl, _, rfl, ?_⟩
          have app : joins (rl, some h, rb) (some l, ph, pb) = false → mergeStep (mergeAll ((ys.map (pcAt H)).take j)) (some l, ph, pb) = mergeAll ((ys.map (pcAt H)).take j) ++ [(some l, ph, pb)] := fun e => step_app fun r e2 => by
            rw [hm0, List.getLast?_concat] at e2
            rw [← Option.some.inj e2]
            exact e
          have hj1 : joins (rl, some h, rb) (some l, ph, pb) = (decide (rb = pb) && decide (h + 1 = l)) := rfl
          refine ite2' (fun c => ?_) (fun c => ?_)
          · have cb : rb = pb := V.int.inj (of_decide_eq_true c)
            refine ⟨_, rfl, _, rfl, F0, _, _, _, rfl, rfl, SqL.of hF, atI_last _ _, _, _, _, _, rfl, rfl, SqT.of haz, rfl, _, _, rfl, rfl, _, rfl, rfl, _, rfl, ?_⟩
            refine ite2' (fun c2 => ?_) (fun c2 => ?_)
            · have ch : h + 1 = l := V.int.inj (of_decide_eq_true c2)
              have hjt : joins (rl, some h, rb) (some l, ph, pb) = true := by
                rw [hj1, cb, ch, decide_eq_true rfl, decide_eq_true rfl]
                rfl
              refine ⟨_, rfl, _, rfl, F0, _, _, _, rfl, rfl, SqL.of hF, atI_last _ _, _, _, _, _, rfl, rfl, SqT.of haz, rfl, _, rfl, _, rfl, (by show 3 ≤ sizeLine; decide), fun T nT => ?_⟩
              have nTF : T ≠ F0 := (ne_of_none hF nT).symm
              refine ⟨_, rfl, _, rfl, F0, z0 ++ [.ref az], _, z0.length, rfl, rfl, (upd_ne nTF.symm).trans hF, ixN_last _ _, ?_⟩
              rw [set_last]
              have k2 : Kept F0 G2 (upd (upd G2 T (.tup [endV rl, endV ph, .int pb])) F0 (.lst (z0 ++ [.ref T]))) := fun b o n e => by
                rw [upd_ne n, upd_ne (ne_of_none e nT)]
                exact e
              refine ⟨_, _, _, _, _, rfl, upd_same, (by rw [List.length_append] at hzl ⊢; exact Nat.le_succ_of_le hzl), ?_, kk.trans k2⟩
              rw [htake, mergeAll_snoc, hm0, step_join hjt]
              exact pcs_snoc ⟨T, rfl, by rw [upd_ne nTF, upd_same]⟩ (hp0.imp fun x p h => h.kept k2 hF)
            · have ch : ¬ h + 1 = l := fun e => of_decide_eq_false c2 (congrArg V.int e)
              refine ⟨_, rfl, .inl ⟨rfl, _, SqL.of hF⟩, _, rfl, _, rfl, _, rfl, (by show 3 ≤ sizeLine; decide), fun T nT => ⟨F0, _, _, rfl, rfl, (upd_ne (ne_of_none hF nT)).trans hF, hz4 _ hzl, ?_⟩⟩
              obtain ⟨g1, g2, g3, g4⟩ := grow T nT (app (by rw [hj1, decide_eq_false ch, Bool.and_false]))
              exact ⟨_, _, _, _, _, rfl, g1, g2, g3, g4⟩
          · have cb : ¬ rb = pb := fun e => of_decide_eq_false c (congrArg V.int e)
            refine ⟨_, rfl, .inl ⟨rfl, _, SqL.of hF⟩, _, rfl, _, rfl, _, rfl, (by show 3 ≤ sizeLine; decide), fun T nT => ⟨F0, _, _, rfl, rfl, (upd_ne (ne_of_none hF nT)).trans hF, hz4 _ hzl, ?_⟩⟩
            obtain ⟨g1, g2, g3, g4⟩ := grow T nT (app (by rw [hj1, decide_eq_false cb, Bool.false_and]))
            exact ⟨_, _, _, _, _, rfl, g1, g2, g3, g4⟩
      · rintro σ G2 ⟨zs, y2, y3, y4, y5, rfl, hF, hzl, hpc, kk⟩
        have sH : Same H G2 := fun x o e => kk x o (ne_of_none e nF) (sJ _ _ e)
        have e1 : (ys.map (pcAt H)).take ys.length = ys.map (pcAt H) := by
          rw [← List.length_map (as := ys) (pcAt H), List.take_length]
        rw [e1] at hpc
        refine ⟨_, rfl, .inl ⟨F0, zs, rfl, SqL.of hF, fun t nt => ?_⟩⟩
        refine k t zs (ys.map (pcAt H)) _ (sH.trans (same_put nt)) upd_same ?_ ?_ (hpc.imp fun x p h => h.same (same_put nt))
        · have e2 := hst.perm.map (pcAt H)
          rw [← hws] at e2
          rw [psm, List.filter_map]
          exact e2
        · exact List.pairwise_map.mpr hsr
end
end K04

set_option Elab.async false
set_option maxRecDepth 100000
set_option maxHeartbeats 2000000
namespace K04
open PySem PySem.Spec PyProof.Rows L2 He KX StX
/-! BadSlide(i), raised; Slide(*pieces). -/
structure Bad (K : PySem.W.Frag) : Prop where
  T : ExK K (ga K "BadSlide") vT "ValueError.__new__"
  X : XfC K (ga K "BadSlide")
  ty : PySem.W.typeIn K (.ref (ga K "BadSlide")) = some (.type "type")
  no : PySem.W.findIn K (.ref (ga K "BadSlide")) "index" = some none
  iC : PySem.W.findIn K (.ref (ga K "BadSlide")) "__init__" = some (some (.ref (ma K (ga K "BadSlide") "__init__")))
  fn : PySem.W.isFn K (.ref (ma K (ga K "BadSlide") "__init__")) = true
  ex : PySem.W.exmOne K (.ref (ga K "BadSlide")) (.ref (ga K "BadSlide")) = some true
  kP : PySem.W.kitOne K (.ref (ga K "BadSlide")) (.ref (ga K "PlaceError")) = some true
  kV : PySem.W.kitOne K (.ref (ga K "BadSlide")) (.type "ValueError") = some true
theorem bad_of {K : PySem.W.Frag} (h : badB K = true) : Bad K := by
  unfold badB at h
  obtain ⟨h1, h⟩ := ba h
  obtain ⟨h2, h⟩ := ba h
  obtain ⟨h3, h⟩ := ba h
  obtain ⟨h4, h⟩ := ba h
  obtain ⟨h5, h⟩ := ba h
  obtain ⟨h6, h⟩ := ba h
  obtain ⟨h7, h⟩ := ba h
  obtain ⟨h8, h9⟩ := ba h
  exact ⟨exkB_ok h1, xfB_ok h2, of_decide_eq_true h3, eqO_ok h4, eqO_ok h5, h6, of_decide_eq_true h7, of_decide_eq_true h8, of_decide_eq_true h9⟩
def spBadI (C : Addr) : Sp := fun vs H Q _ => ∃ (a : Addr) (x : V) (H0 : Hp), vs = [.ref a, x] ∧ H = upd H0 a (exo a C none) ∧ H0 a = none ∧
  ∀ d H', H0 d = none → d ≠ a → H' a = some (exo a C (some d)) → H' d = some (exd d [("index", x)]) → (∀ y, y ≠ a → y ≠ d → H' y = H0 y) → Q .non H'
abbrev sBadI : Stmt := inClass (top 5) 0
section
variable {P : Program} {w : World} {K : PySem.W.Frag} {mg : Str → Option Value} {base : Heap}
theorem scBadI : FnScope ["self", "index"] ["self", "index"] (defScope sBadI) := ⟨rfl, rfl, rfl, by decide +kernel, rfl, by decide +kernel, by decide +kernel⟩
theorem ok_badI {f : Addr} {fd : FuncData} (F : FunD K "__init__" "BadSlide.__init__" (defArgs sBadI) (defBody sBadI) (defScope sBadI) [] [] f fd) (B : Bad K) : FnOk P w K mg base CX0 1 f fd ["self", "index"] (spBadI (ga K "BadSlide")) := by
  refine F.ok scBadI (fun vs H Q E h => ?_) (fun cdv A outer s H vs Q E hr h => ?_)
  · obtain ⟨a, x, H0, rfl, _⟩ := h
    rfl
  · obtain ⟨a, x, H0, rfl, rfl, ha, k⟩ := h
    refine ⟨_, PSs.nox (pss_one (ps_st (pv 0) (pv 1))), ?_⟩
    refine ⟨_, rfl, _, rfl, a, _, _, _, rfl, B.T, bsV, B.no, .inl ⟨upd_same, fun d hd hda => ?_⟩⟩
    exact k d _ ((upd_ne hda).symm.trans hd) hda upd_same ((upd_ne hda).trans upd_same) (fun x n1 n2 => (upd_ne n1).trans ((upd_ne n2).trans (upd_ne n1)))
end
theorem fb_none : ∀ (os : List (Option Pc)) (i : Nat) (ps : List Pc), fbG i ps os = none → ∃ rs : List Pc, os = rs.map some ∧ (rs.Pairwise fun p q => meets p q = false) ∧ ∀ r ∈ rs, ∀ q ∈ ps, meets r q = false
  | [], _, _, _ => ⟨[], rfl, .nil, fun _ h => nomatch h⟩
  | none :: _, _, _, h => by cases h
  | some p :: os, i, ps, h => by
    have h' : (if ps.any (meets p) = true then some i else fbG (i + 1) (ps ++ [p]) os) = none := h
    by_cases c : ps.any (meets p) = true
    · rw [if_pos c] at h'
      cases h'
    · rw [if_neg c] at h'
      obtain ⟨rs, rfl, pw, ax⟩ := fb_none os (i + 1) (ps ++ [p]) h'
      have c2 : ∀ q ∈ ps, meets p q = false := fun q hq => by
        cases e : meets p q
        · rfl
        · exact absurd (List.any_eq_true.mpr ⟨q, hq, e⟩) c
      refine ⟨p :: rs, rfl, List.pairwise_cons.mpr ⟨fun r hr => meets_symm (ax r hr p (by simp)), pw⟩, fun r hr q hq => ?_⟩
      rcases List.mem_cons.mp hr with rfl | hr
      · exact c2 q hq
      · exact ax r hr q (by simp [hq])
theorem things_pcs {K : PySem.W.Frag} {H : Hp} : ∀ {xs : List V} {rs : List Pc}, Things K H xs (rs.map some) → Pcs H xs rs ∧ ∀ r ∈ rs, okPc r
  | [], [], _ => ⟨.nil, fun _ h => nomatch h⟩
  | _ :: _, _ :: _, .cons h t => by
    obtain ⟨h1, h2⟩ := things_pcs t
    exact ⟨.cons h.pc.1 h1, fun r hr => (List.mem_cons.mp hr).elim (fun e => by rw [e]; exact h.pc.2) (h2 r)⟩
/-- Slide.__init__, behind the binding -/
def spBody (K : PySem.W.Frag) : Sp := fun vs H Q E => ∃ (a dx t : Addr) (xs : List V) (os : List (Option Pc)), vs = [.ref a, .ref t] ∧ H a = some (.ins (ga K "Slide") dx []) ∧ H t = some (.tup xs) ∧ xs.length ≤ 100000 ∧ Things K H xs os ∧
  (∀ i, firstBad os = some i → ∀ d H', Same H H' → H' d = some (.xd [("index", .int (i : Nat))]) → E (.ref (ga K "BadSlide")) (some d) H') ∧
  (firstBad os = none → ∀ (tz : Addr) (zs : List V) (rs qs : List Pc) (H' : Hp), Kept a H H' → H' a = some (.ins (ga K "Slide") dx [("pieces", .ref tz)]) → H' tz = some (.tup zs) → os = rs.map some → qs.Perm (rs.filter fun p => decide (p.2.2 ≠ 0)) → qs.Pairwise (fun p q => SrtO.lexB (startK q) (startK p) = false) → Pcs H' zs (mergeAll qs) → Q .non H')
abbrev sSlI : Stmt := inClass (top 7) 0
abbrev NS : List Str := ["self", "pieces", "bad"]
section
variable {P : Program} {w : World} {K : PySem.W.Frag} {mg : Str → Option Value} {base : Heap}
theorem scSlI : FnScope NS ["self", "pieces"] (defScope sSlI) := ⟨rfl, rfl, rfl, by decide +kernel, rfl, by decide +kernel, by decide +kernel⟩
theorem ok_slide {f fB fN fI : Addr} {fd fdB fdN fdI : FuncData} (F : FunD K "__init__" "Slide.__init__" (defArgs sSlI) (defBody sSlI) (defScope sSlI) [] [] f fd) (B : Bad K) (gC : mg "BadSlide" = some (.ref (ga K "BadSlide")))
    (FI : FunD K "__init__" "BadSlide.__init__" (defArgs sBadI) (defBody sBadI) (defScope sBadI) [] [] (ma K (ga K "BadSlide") "__init__") fdI)
    (GB : FnOk P w K mg base CX0 4 fB fdB ["things"] (spFirst K)) (bB : Binds K fdB ["things"] []) (kB : PySem.W.keepIn K (.ref fB) = true) (gB : mg "_first_bad" = some (.ref fB))
    (GN : FnOk P w K mg base CX0 5 fN fdN ["pieces"] (spNormal K)) (bN : Binds K fdN ["pieces"] []) (kN : PySem.W.keepIn K (.ref fN) = true) (gN : mg "_normal" = some (.ref fN))
    (cS : Cls K (ga K "Slide")) (nS : NoAttr K (ga K "Slide") "pieces") :
    FnR P w K mg base (L2N.CX P w) 6 f (fun vs H Q E => ∃ ws rest, vs = ws ++ rest ∧ ws.length = (["self"] : List Str).length ∧ rest.length ≤ sizeLine ∧ ∀ p, H p = Option.none → spBody K (ws ++ [V.ref p]) (upd H p (.tup rest)) Q E) := by
  have GI : FnOk P w K mg base CX0 1 (ma K (ga K "BadSlide") "__init__") fdI ["self", "index"] (spBadI (ga K "BadSlide")) := ok_badI FI B
  have bI : Binds K fdI ["self", "index"] [] := FI.bindsN fun _ _ _ _ _ _ us hl => match us, hl with | [_, _], _ => rfl
  obtain ⟨oc, od, dV, kV, doc, pm, an, cdv, ct, osl, rfl, lk, hcd, hD, _⟩ := F.ex
  obtain rfl : dV = .none := hD.elim (fun h => h.2) fun h => absurd rfl h.1
  refine fn_star (ps := ["self"]) (pv := "pieces") (N := NS) lk hcd scSlI cxUpN (fun us rest e => bind_star1 (B := fun us => bindArgs _ ⟨us, []⟩) (p1 := "self") (pv := "pieces") (fun _ => rfl) (fun _ _ _ => rfl) us rest e) fun A outer s H vs Q E hr h => ?_
  obtain ⟨a, dx, t, xs, os, rfl, ha, ht, hl, hT, hbad, hgood⟩ := h
  have nd := scSlI.nd
  have hr1 := hr.mono (j := 2) (by decide)
  have hr4 := hr.mono (j := 4) (by decide)
  refine ⟨_, (by exact (pss_cons (ps_set (i := 2) nd rfl (Or.inl rfl) (by exact (pe_call GB hr4 rfl gB kB bB .nil pass0 (pa_cons (pv 1) pa_nil))))
    (pss_cons (ps_if (pt_cmpR op_notN (pv 2) pe_non (nomark _)) (pss_one (L2N.ps_raise rfl (L2N.takes_of rfl rfl rfl rfl) (by exact (pmk_x B.T B.ty bsV B.iC B.fn GI hr1 bI pass0 rfl gC (pa_cons (pv 2) pa_nil))))) pss_nil)
    (pss_one (ps_fld (pv 0) (by exact (pe_call GN hr rfl gN kN bN .nil pass0 (pa_cons (pv 1) pa_nil))) rfl))))), ?_⟩
  refine ⟨_, rfl, t, xs, os, rfl, SqT.of ht, hl, hT, fun H1 s1 => ?_⟩
  refine ⟨_, rfl, rfl, _, rfl, ?_⟩
  cases hf : firstBad os with
  | none =>
    obtain ⟨rs, rfl, pw, _⟩ := fb_none os 0 [] hf
    obtain ⟨hP, hok⟩ := things_pcs hT
    refine ⟨_, rfl, t, xs, rs, rfl, SqT.of (s1 _ _ ht), hl, hP.imp (fun x p h => h.same s1), hok, pw, fun tz zs qs H2 s2 hz hpe hpq hpc => ?_⟩
    have ha2 := (s1.trans s2) _ _ ha
    refine ⟨_, rfl, a, _, dx, [], rfl, ha2, cS, nS, by decide, ?_⟩
    have off : ∀ b xs, H2 b = some (.tup xs) → (upd H2 a (.ins (ga K "Slide") dx [("pieces", .ref tz)])) b = some (.tup xs) := fun b xs e => by
      rw [upd_ne (by rintro rfl; rw [ha2] at e; cases e)]
      exact e
    exact hgood hf tz zs rs qs _ (fun b o n e => by rw [upd_ne n]; exact (s1.trans s2) _ _ e) upd_same (off _ _ hz) rfl hpe hpq (hpc.imp fun x p h => h.imp fun b h => ⟨h.1, off _ _ h.2⟩)
  | some i =>
    refine ⟨_, rfl, (by show 1 ≤ 1000; decide), fun e he => ⟨e, _, H1, rfl, rfl, he, fun d H' hd hde h1 h2 h3 => ⟨rfl, d, _, h1, h2, hd, ?_⟩⟩⟩
    refine hbad i hf d _ (fun b o q => ?_) upd_same
    have q1 := s1 _ _ q
    have nb : b ≠ d := ne_of_none q1 hd
    have ne : b ≠ e := ne_of_none q1 he
    rw [upd_ne nb, del_ne ne, h3 b ne nb]
    exact q1
end
end K04

set_option Elab.async false
set_option maxRecDepth 100000
set_option maxHeartbeats 2000000
namespace K04
open PySem PySem.Spec PyProof.Rows L2 He KX StX
/-- a Slide at s that keeps the pieces rs -/
def SlAt (K : PySem.W.Frag) (H : Hp) (s : Addr) (rs : List Pc) : Prop := ∃ dx tz zs, H s = some (.ins (ga K "Slide") dx [("pieces", .ref tz)]) ∧ H tz = some (.tup zs) ∧ Pcs H zs rs
/-- the pieces in normal form -/
def NormOf (rs ns : List Pc) : Prop := ∃ qs : List Pc, qs.Perm (rs.filter fun p => decide (p.2.2 ≠ 0)) ∧ (qs.Pairwise fun p q => SrtO.lexB (startK q) (startK p) = false) ∧ ns = mergeAll qs
/-- what Slide(..) does with the things os -/
def Sld (K : PySem.W.Frag) (H : Hp) (os : List (Option Pc)) (Q : V → Hp → Prop) (E : XK) : Prop :=
  (∀ i, firstBad os = some i → ∀ d H', Same H H' → H' d = some (.xd [("index", .int (i : Nat))]) → E (.ref (ga K "BadSlide")) (some d) H') ∧
  (firstBad os = none → ∀ s rs ns H', Same H H' → os = rs.map some → NormOf rs ns → SlAt K H' s ns → Q (.ref s) H')
abbrev spSlideR (K : PySem.W.Frag) : Sp := fun vs H Q E => ∃ ws rest, vs = ws ++ rest ∧ ws.length = (["self"] : List Str).length ∧ rest.length ≤ sizeLine ∧ ∀ p, H p = Option.none → spBody K (ws ++ [V.ref p]) (upd H p (.tup rest)) Q E
theorem body_of {K : PySem.W.Frag} {H : Hp} {xs : List V} {os : List (Option Pc)} {Q : V → Hp → Prop} {E : XK} {x dx : Addr} (hx : H x = none) (hdx : H dx = none) (hne : dx ≠ x) (hl : xs.length ≤ 100000) (hT : Things K H xs os) (h : Sld K H os Q E) :
    spSlideR K (V.ref x :: xs) (upd (upd H dx (.own x)) x (.ins (ga K "Slide") dx [])) (fun v H2 => v = .non ∧ Q (.ref x) H2) E := by
  refine ⟨[.ref x], xs, rfl, rfl, (by rw [sizeLine_eq]; omega), fun p hp => ?_⟩
  have npx : p ≠ x := by
    rintro rfl
    rw [upd_same] at hp
    cases hp
  have s1 : Same H (upd (upd H dx (.own x)) x (.ins (ga K "Slide") dx [])) := fun b o e => by rw [upd_ne (ne_of_none e hx), upd_ne (ne_of_none e hdx)]; exact e
  have s2 := s1.trans (same_put (o := .tup xs) hp)
  refine ⟨x, dx, p, xs, os, rfl, (upd_ne npx.symm).trans upd_same, upd_same, hl, hT.same s2, fun i hi d H' s3 e => h.1 i hi d H' (s2.trans s3) e, fun hf tz zs rs qs H' kk ha hz he hp hq hc => ⟨rfl, ?_⟩⟩
  refine h.2 hf x rs _ H' (fun b o e => kk b o (ne_of_none e hx) (s2 _ _ e)) he ⟨qs, hp, hq, rfl⟩ ⟨dx, tz, zs, ha, hz, hc⟩
abbrev sLSl : Stmt := top 31
/-- _law_slide -/
def spLSl (K : PySem.W.Frag) : Sp := fun vs H Q E => ∃ (l : Addr) (xs : List V) (os : List (Option Pc)), vs = [.ref l] ∧ SqL K H l xs ∧ xs.length ≤ 6 ∧ Things K H xs os ∧ Sld K H os Q E
theorem len_is {xs : List V} (j : Nat) (c : decide (V.int ((xs.length : Nat) : Int) = V.int (j : Int)) = true) : xs.length = j := by
  have q := V.int.inj (of_decide_eq_true c)
  omega
theorem len_not {xs : List V} (j : Nat) (c : decide (V.int ((xs.length : Nat) : Int) = V.int (j : Int)) = false) : xs.length ≠ j := fun e => of_decide_eq_false c (by rw [e])
section
variable {P : Program} {w : World} {K : PySem.W.Frag} {mg : Str → Option Value} {base : Heap}
theorem scLSl : FnScope ["rows"] ["rows"] (defScope sLSl) := ⟨rfl, rfl, rfl, by decide +kernel, rfl, by decide +kernel, by decide +kernel⟩
theorem ok_lsl {f fS : Addr} {fd : FuncData} (F : FnP K "_law_slide" sLSl f fd) (GS : FnR P w K mg base (L2N.CX P w) 6 fS (spSlideR K)) (M : Mk K (ga K "Slide") fS) (gS : mg "Slide" = some (.ref (ga K "Slide"))) (gL : mg "len" = none) :
    FnOk P w K mg base (L2N.CX P w) 8 f fd ["rows"] (spLSl K) := by
  refine F.ok scLSl (fun vs H Q E h => ?_) (fun cdv A outer s H vs Q E hr h => ?_)
  · obtain ⟨l, xs, os, rfl, _⟩ := h
    rfl
  · obtain ⟨l, xs, os, rfl, hS, hl, hT, hs⟩ := h
    have nd := scLSl.nd
    refine ⟨_, (by exact (pss_cons (ps_if (pt_cmpR op_eq (pe_callB call_len_seq (by rfl) gL PySem.boot_len (pa_cons (pv 0) pa_nil)) pe_int (nomark _)) (pss_one (ps_ret (by exact (pe_makeR0 M GS hr rfl gS (L2N.passes_call (L2N.takes_of rfl rfl rfl rfl) fun _ _ _ _ h => h))))) pss_nil)
      (pss_cons (ps_if (pt_cmpR op_eq (pe_callB call_len_seq (by rfl) gL PySem.boot_len (pa_cons (pv 0) pa_nil)) pe_int (nomark _)) (pss_one (ps_ret (by exact (pe_makeR M GS hr rfl gS (L2N.passes_call (L2N.takes_of rfl rfl rfl rfl) fun _ _ _ _ h => h) (pa_cons (pe_ix ix_list (pv 0) pe_int (fun _ _ => rfl)) pa_nil))))) pss_nil)
      (pss_cons (ps_if (pt_cmpR op_eq (pe_callB call_len_seq (by rfl) gL PySem.boot_len (pa_cons (pv 0) pa_nil)) pe_int (nomark _)) (pss_one (ps_ret (by exact (pe_makeR M GS hr rfl gS (L2N.passes_call (L2N.takes_of rfl rfl rfl rfl) fun _ _ _ _ h => h) (pa_cons (pe_ix ix_list (pv 0) pe_int (fun _ _ => rfl)) (pa_cons (pe_ix ix_list (pv 0) pe_int (fun _ _ => rfl)) pa_nil)))))) pss_nil)
      (pss_cons (ps_if (pt_cmpR op_eq (pe_callB call_len_seq (by rfl) gL PySem.boot_len (pa_cons (pv 0) pa_nil)) pe_int (nomark _)) (pss_one (ps_ret (by exact (pe_makeR M GS hr rfl gS (L2N.passes_call (L2N.takes_of rfl rfl rfl rfl) fun _ _ _ _ h => h) (pa_cons (pe_ix ix_list (pv 0) pe_int (fun _ _ => rfl)) (pa_cons (pe_ix ix_list (pv 0) pe_int (fun _ _ => rfl)) (pa_cons (pe_ix ix_list (pv 0) pe_int (fun _ _ => rfl)) pa_nil))))))) pss_nil)
      (pss_cons (ps_if (pt_cmpR op_eq (pe_callB call_len_seq (by rfl) gL PySem.boot_len (pa_cons (pv 0) pa_nil)) pe_int (nomark _)) (pss_one (ps_ret (by exact (pe_makeR M GS hr rfl gS (L2N.passes_call (L2N.takes_of rfl rfl rfl rfl) fun _ _ _ _ h => h) (pa_cons (pe_ix ix_list (pv 0) pe_int (fun _ _ => rfl)) (pa_cons (pe_ix ix_list (pv 0) pe_int (fun _ _ => rfl)) (pa_cons (pe_ix ix_list (pv 0) pe_int (fun _ _ => rfl)) (pa_cons (pe_ix ix_list (pv 0) pe_int (fun _ _ => rfl)) pa_nil)))))))) pss_nil)
      (pss_cons (ps_if (pt_cmpR op_eq (pe_callB call_len_seq (by rfl) gL PySem.boot_len (pa_cons (pv 0) pa_nil)) pe_int (nomark _)) (pss_one (ps_ret (by exact (pe_makeR M GS hr rfl gS (L2N.passes_call (L2N.takes_of rfl rfl rfl rfl) fun _ _ _ _ h => h) (pa_cons (pe_ix ix_list (pv 0) pe_int (fun _ _ => rfl)) (pa_cons (pe_ix ix_list (pv 0) pe_int (fun _ _ => rfl)) (pa_cons (pe_ix ix_list (pv 0) pe_int (fun _ _ => rfl)) (pa_cons (pe_ix ix_list (pv 0) pe_int (fun _ _ => rfl)) (pa_cons (pe_ix ix_list (pv 0) pe_int (fun _ _ => rfl)) pa_nil))))))))) pss_nil)
      (pss_one (ps_ret (by exact (pe_makeR M GS hr rfl gS (L2N.passes_call (L2N.takes_of rfl rfl rfl rfl) fun _ _ _ _ h => h) (pa_cons (pe_ix ix_list (pv 0) pe_int (fun _ _ => rfl)) (pa_cons (pe_ix ix_list (pv 0) pe_int (fun _ _ => rfl)) (pa_cons (pe_ix ix_list (pv 0) pe_int (fun _ _ => rfl)) (pa_cons (pe_ix ix_list (pv 0) pe_int (fun _ _ => rfl)) (pa_cons (pe_ix ix_list (pv 0) pe_int (fun _ _ => rfl)) (pa_cons (pe_ix ix_list (pv 0) pe_int (fun _ _ => rfl)) pa_nil))))))))))))))))), ?_⟩
    refine ⟨_, rfl, _, _, rfl, .inl hS, rfl, _, rfl, ite2' (fun c => ?_) (fun c0 => ?_)⟩
    · have e := len_is 0 c
      match xs, e with
      | [], _ => exact fun x dx hx hdx hne => body_of hx hdx hne (by show 0 ≤ 100000; omega) hT hs
    refine ⟨_, rfl, _, _, rfl, .inl hS, rfl, _, rfl, ite2' (fun c => ?_) (fun c1 => ?_)⟩
    · have e := len_is 1 c
      match xs, e with
      | [x0], _ => exact ⟨_, rfl, _, _, _, _, rfl, rfl, hS, rfl, fun x dx hx hdx hne => body_of hx hdx hne (by show 1 ≤ 100000; omega) hT hs⟩
    refine ⟨_, rfl, _, _, rfl, .inl hS, rfl, _, rfl, ite2' (fun c => ?_) (fun c2 => ?_)⟩
    · have e := len_is 2 c
      match xs, e with
      | [x0, x1], _ => exact ⟨_, rfl, _, _, _, _, rfl, rfl, hS, rfl, _, rfl, _, _, _, _, rfl, rfl, hS, rfl, fun x dx hx hdx hne => body_of hx hdx hne (by show 2 ≤ 100000; omega) hT hs⟩
    refine ⟨_, rfl, _, _, rfl, .inl hS, rfl, _, rfl, ite2' (fun c => ?_) (fun c3 => ?_)⟩
    · have e := len_is 3 c
      match xs, e with
      | [x0, x1, x2], _ => exact ⟨_, rfl, _, _, _, _, rfl, rfl, hS, rfl, _, rfl, _, _, _, _, rfl, rfl, hS, rfl, _, rfl, _, _, _, _, rfl, rfl, hS, rfl, fun x dx hx hdx hne => body_of hx hdx hne (by show 3 ≤ 100000; omega) hT hs⟩
    refine ⟨_, rfl, _, _, rfl, .inl hS, rfl, _, rfl, ite2' (fun c => ?_) (fun c4 => ?_)⟩
    · have e := len_is 4 c
      match xs, e with
      | [x0, x1, x2, x3], _ => exact ⟨_, rfl, _, _, _, _, rfl, rfl, hS, rfl, _, rfl, _, _, _, _, rfl, rfl, hS, rfl, _, rfl, _, _, _, _, rfl, rfl, hS, rfl, _, rfl, _, _, _, _, rfl, rfl, hS, rfl, fun x dx hx hdx hne => body_of hx hdx hne (by show 4 ≤ 100000; omega) hT hs⟩
    refine ⟨_, rfl, _, _, rfl, .inl hS, rfl, _, rfl, ite2' (fun c => ?_) (fun c5 => ?_)⟩
    · have e := len_is 5 c
      match xs, e with
      | [x0, x1, x2, x3, x4], _ => exact ⟨_, rfl, _, _, _, _, rfl, rfl, hS, rfl, _, rfl, _, _, _, _, rfl, rfl, hS, rfl, _, rfl, _, _, _, _, rfl, rfl, hS, rfl, _, rfl, _, _, _, _, rfl, rfl, hS, rfl, _, rfl, _, _, _, _, rfl, rfl, hS, rfl, fun x dx hx hdx hne => body_of hx hdx hne (by show 5 ≤ 100000; omega) hT hs⟩
    have n : xs.length = 6 := by
      have q0 := len_not 0 c0
      have q1 := len_not 1 c1
      have q2 := len_not 2 c2
      have q3 := len_not 3 c3
      have q4 := len_not 4 c4
      have q5 := len_not 5 c5
      omega
    match xs, n with
    | [x0, x1, x2, x3, x4, x5], _ => exact ⟨_, rfl, _, _, _, _, rfl, rfl, hS, rfl, _, rfl, _, _, _, _, rfl, rfl, hS, rfl, _, rfl, _, _, _, _, rfl, rfl, hS, rfl, _, rfl, _, _, _, _, rfl, rfl, hS, rfl, _, rfl, _, _, _, _, rfl, rfl, hS, rfl, _, rfl, _, _, _, _, rfl, rfl, hS, rfl, fun x dx hx hdx hne => body_of hx hdx hne (by show 6 ≤ 100000; omega) hT hs⟩
end
end K04

set_option Elab.async false
set_option maxRecDepth 100000
set_option maxHeartbeats 2000000
namespace K04
open PySem PySem.Spec PyProof.Rows L2 He KX
abbrev sPcs : Stmt := top 30
/-- the bag at b, the pieces found in the list at F; all else is as it was in J -/
structure LP (b F : Addr) (J G : Hp) (zs : List V) (ps : List Pc) (m : Int) : Prop where
  bag : Bag G b m
  fnd : G F = some (.lst zs)
  kept : ∀ x o, x ≠ b → x ≠ F → J x = some o → G x = some o
  ne : F ≠ b
  pcs : Pcs G zs ps
theorem bag_off {G : Hp} {b a : Addr} {m : Int} {xs : List V} (h : Bag G b m) (e : G a = some (.tup xs)) : a ≠ b := by
  rintro rfl
  obtain ⟨d, k, c, hb, _⟩ := h
  rw [hb] at e
  cases e
section
variable {b F : Addr} {J G G' : Hp} {zs : List V} {ps : List Pc} {m m' : Int}
theorem LP.draw (h : LP b F J G zs ps m) (k : But b G G') (hb : Bag G' b m') : LP b F J G' zs ps m' :=
  ⟨hb, (k F h.ne).trans h.fnd, fun x o n1 n2 e => (k x n1).trans (h.kept x o n1 n2 e), h.ne, h.pcs.imp fun x p q => q.imp fun a q => ⟨q.1, (k a (bag_off h.bag q.2)).trans q.2⟩⟩
theorem LP.new {L : Addr} {o : HO} (h : LP b F J G zs ps m) (n : G L = none) : LP b F J (upd G L o) zs ps m :=
  ⟨h.bag.put (h.bag.ne n), same_put n _ _ h.fnd, fun x u n1 n2 e => same_put n _ _ (h.kept x u n1 n2 e), h.ne, h.pcs.imp fun x p q => q.same (same_put n)⟩
theorem LP.put {zs' : List V} {ps' : List Pc} (h : LP b F J G zs ps m) (q : Pcs G zs' ps') : LP b F J (upd G F (.lst zs')) zs' ps' m := by
  have k : Kept F G (upd G F (.lst zs')) := fun x o n e => (upd_ne n).trans e
  refine ⟨?_, upd_same, fun x o n1 n2 e => (upd_ne n2).trans (h.kept x o n1 n2 e), h.ne, q.imp fun x p z => z.kept k h.fnd⟩
  obtain ⟨d, y, c, e, r⟩ := h.bag
  exact ⟨d, y, c, (upd_ne h.ne.symm).trans e, r⟩
end
def endD : Option Int → PyData
  | none => .none
  | some i => .int i
def pieceD (p : Pc) : PyData := .tuple [endD p.1, endD p.2.1, .int p.2.2]
theorem end_dp {K : PySem.W.Frag} {H : Hp} (l : Option Int) : Dp K H (endV l) (endD l) := by
  cases l
  · exact .non
  · exact .int _
theorem pcs_dp {K : PySem.W.Frag} {H : Hp} : ∀ {zs : List V} {ps : List Pc}, Pcs H zs ps → DpAll K H zs (ps.map pieceD)
  | _, _, .nil => .nil
  | _, _, .cons h t => by
    obtain ⟨a, rfl, e⟩ := h
    exact .cons (.tup (SqT.of e) (.cons (end_dp _) (.cons (end_dp _) (.cons (.int _) .nil)))) (pcs_dp t)
theorem lay_all {k : Nat} : ∀ {ds : List PyData}, (∀ d ∈ ds, d.canLay0 = true ∧ d.depth ≤ k) → PyData.canLayAll0 ds = true ∧ PyData.depthAll ds ≤ k
  | [], _ => ⟨rfl, Nat.zero_le _⟩
  | d :: ds, h => by
    obtain ⟨h1, h2⟩ := h d List.mem_cons_self
    obtain ⟨h3, h4⟩ := lay_all fun e he => h e (List.mem_cons_of_mem _ he)
    refine ⟨?_, ?_⟩
    · show (d.canLay0 && PyData.canLayAll0 ds) = true
      rw [h1, h3]
      rfl
    · show max d.depth (PyData.depthAll ds) ≤ k
      exact Nat.max_le.mpr ⟨h2, h4⟩
theorem list_shaped {ds : List PyData} (h : ∀ d ∈ ds, d.canLay0 = true ∧ d.depth ≤ 60) : SeqAt.shaped (.list ds) = true := by
  obtain ⟨h1, h2⟩ := lay_all h
  unfold SeqAt.shaped
  refine Bool.and_eq_true_iff.mpr ⟨h1, decide_eq_true ?_⟩
  show PyData.depthAll ds + 1 ≤ 64
  omega
theorem pieceD_lay (p : Pc) : (pieceD p).canLay0 = true ∧ (pieceD p).depth ≤ 60 := by
  obtain ⟨l, h, b⟩ := p
  cases l <;> cases h <;> exact ⟨rfl, (by show 1 ≤ 60; decide)⟩
theorem pieces_shaped (ps : List Pc) : SeqAt.shaped (.list (ps.map pieceD)) = true := list_shaped fun d hd => by
  obtain ⟨p, _, rfl⟩ := List.mem_map.mp hd
  exact pieceD_lay p
theorem ne_nil_eqv (ds : List PyData) : (!PyData.eqv (.list ds) (.list [])) = !ds.isEmpty := by cases ds <;> rfl
theorem LP.step {b F T : Addr} {J G : Hp} {zs : List V} {ps : List Pc} {m : Int} (h : LP b F J G zs ps m) (n : G T = none) (p : Pc) :
    LP b F J (upd (upd G T (.tup [endV p.1, endV p.2.1, .int p.2.2])) F (.lst (zs ++ [.ref T]))) (zs ++ [.ref T]) (ps ++ [p]) m := (h.new n).put (pcs_snoc ⟨T, rfl, upd_same⟩ (h.new n).pcs)
theorem LP.le {b F : Addr} {J G : Hp} {zs : List V} {ps : List Pc} {m m' : Int} (h : LP b F J G zs ps m) (q : m ≤ m') : LP b F J G zs ps m' := ⟨h.bag.mono q, h.fnd, h.kept, h.ne, h.pcs⟩
theorem chain_snoc {ps : List Pc} {p : Pc} {at1 l : Int} (hpw : ps.Pairwise fun p q => ahead p q = true) (hall : ∀ q ∈ ps, ∃ h, q.2.1 = some h ∧ h < at1) (e : p.1 = some l) (hl : at1 ≤ l) : (ps ++ [p]).Pairwise fun p q => ahead p q = true := by
  refine List.pairwise_append.mpr ⟨hpw, List.pairwise_singleton _ _, fun q hq r hr => ?_⟩
  rw [List.mem_singleton.mp hr]
  obtain ⟨h, h1, h2⟩ := hall q hq
  exact ahead_iff.mpr ⟨h, l, h1, e, by omega⟩
theorem seq_by {A B : TS} {D : Ends} {σ : L2.St} {H : Hp} (R : L2.St → Hp → Prop) (h2 : ∀ σ H, R σ H → B D σ H) (h1 : (∀ σ H, R σ H → B D σ H) → A { D with nx := fun σ H => B D σ H } σ H) : tSeq A B D σ H := h1 h2
theorem ixN_zero {α : Type} (x : α) (xs : List α) : ixN (x :: xs).length 0 = some 0 := by
  unfold ixN
  rw [if_pos (by decide), if_pos (by rw [List.length_cons]; omega)]
  rfl
theorem atI_zero {α : Type} (x : α) (xs : List α) : atI (x :: xs) 0 = some x := by
  unfold atI
  rw [ixN_zero]
  rfl
/-- the bound of the numbers -/
def okB (p : Pc) : Prop := (∀ l, p.1 = some l → l.natAbs < 5 * 10 ^ 29) ∧ (∀ h, p.2.1 = some h → h.natAbs < 5 * 10 ^ 29) ∧ p.2.2.natAbs < 5 * 10 ^ 29
/-- _law_pieces -/
def spPcs : Sp := fun vs H Q _ => ∃ (b : Addr) (n most : Int), vs = [.ref b, .int most] ∧ Bag H b n ∧ n < 1000 ∧ 0 ≤ most ∧ most ≤ 8 ∧
  ∀ F xs ps H', H F = none → LP b F H H' xs ps (n + 200) → (xs.length : Int) ≤ most → (ps.Pairwise fun p q => ahead p q = true) → (∀ p ∈ ps, okPc p ∧ okB p) → Q (.ref F) H'
abbrev NP : List Str := ["bag", "most", "at", "found", "turn", "low", "high", "by"]
section
variable {P : Program} {w : World} {K : PySem.W.Frag} {mg : Str → Option Value} {base : Heap}
theorem scPcs : FnScope NP ["bag", "most"] (defScope sPcs) := ⟨rfl, rfl, rfl, by decide +kernel, rfl, by decide +kernel, by decide +kernel⟩
theorem ok_pcs {f fD fO : Addr} {fd fdD fdO : FuncData} (F : FnP K "_law_pieces" sPcs f fd) (GD : FnOk P w K mg base CX0 1 fD fdD ["bag", "many"] spDraw) (bD : Binds K fdD ["bag", "many"] []) (kD : PySem.W.keepIn K (.ref fD) = true) (gD : mg "_law_draw" = some (.ref fD))
    (GO : FnOk P w K mg base CX0 2 fO fdO ["bag", "some"] (spOf K)) (bO : Binds K fdO ["bag", "some"] []) (kO : PySem.W.keepIn K (.ref fO) = true) (gO : mg "_law_of" = some (.ref fO)) (gR : mg "range" = none) : FnOk P w K mg base CX0 3 f fd ["bag", "most"] spPcs := by
  refine F.ok scPcs (fun vs H Q E h => ?_) (fun cdv A outer s H vs Q E hr h => ?_)
  · obtain ⟨b, n, most, rfl, _⟩ := h
    rfl
  · obtain ⟨b, n, most, rfl, hB, hn, h0, h8, k⟩ := h
    have nd := scPcs.nd
    have hu := hr.units
    have hr1 := hr.mono (j := 1) (by decide)
    refine ⟨_, PSs.nox (pss_cons (ps_par (i := 2) (j := 3) (by rfl) nd rfl rfl (by decide) rfl rfl (pa_cons (pe_op op_sub (pe_call GD hr1 rfl gD kD bD .nil pass0 (pa_cons (pv 0) (pa_cons (pe_call GO hr rfl gO kO bO .nil pass0 (pa_cons (pv 0) (pa_cons (pe_lst (pa_cons pe_int (pa_cons pe_int (pa_cons (pe_op op_pow pe_int pe_int) pa_nil)))) pa_nil))) pa_nil)))
          (pe_call GO hr rfl gO kO bO .nil pass0 (pa_cons (pv 0) (pa_cons (pe_lst (pa_cons pe_int (pa_cons pe_int (pa_cons (pe_op op_pow pe_int pe_int) pa_nil)))) pa_nil)))) (pa_cons (pe_lst pa_nil) pa_nil)) (by rfl))
      (pss_cons (ps_for PassesOwn.never rfl (pi_range1 (by rfl) gR (pa_cons (pe_call GD hr1 rfl gD kD bD .nil pass0 (pa_cons (pv 0) (pa_cons (pe_op op_add (pv 1) pe_int) pa_nil))) pa_nil)) (pg_name (i := 4) nd rfl (Or.inl rfl))
        (pss_cons (ps_set (i := 5) nd rfl (Or.inl rfl) (pe_op op_add (pv 2) (pe_call GO hr rfl gO kO bO .nil pass0 (pa_cons (pv 0) (pa_cons (pe_lst (pa_cons pe_int (pa_cons pe_int (pa_cons pe_int (pa_cons pe_int (pa_cons (pe_call GD hr1 rfl gD kD bD .nil pass0 (pa_cons (pv 0) (pa_cons (pe_op op_pow pe_int pe_int) pa_nil))) pa_nil)))))) pa_nil)))))
        (pss_cons (ps_set (i := 6) nd rfl (Or.inl rfl) (pe_op op_add (pv 5) (pe_call GO hr rfl gO kO bO .nil pass0 (pa_cons (pv 0) (pa_cons (pe_lst (pa_cons pe_int (pa_cons pe_int (pa_cons pe_int (pa_cons pe_int (pa_cons pe_int (pa_cons (pe_call GD hr1 rfl gD kD bD .nil pass0 (pa_cons (pv 0) (pa_cons (pe_op op_pow pe_int pe_int) pa_nil))) pa_nil))))))) pa_nil)))))
        (pss_cons (ps_set (i := 7) nd rfl (Or.inl rfl) (pe_op op_mul (pe_call GO hr rfl gO kO bO .nil pass0 (pa_cons (pv 0) (pa_cons (pe_lst (pa_cons pe_int (pa_cons (pe_un un_neg pe_int) (pa_cons pe_int (pa_cons pe_int (pa_cons (pe_un un_neg pe_int) (pa_cons (pe_call GD hr1 rfl gD kD bD .nil pass0 (pa_cons (pv 0) (pa_cons (pe_op op_pow pe_int pe_int) pa_nil))) pa_nil))))))) pa_nil)))
            (pe_call GO hr rfl gO kO bO .nil pass0 (pa_cons (pv 0) (pa_cons (pe_lst (pa_cons pe_int (pa_cons (pe_un un_neg pe_int) pa_nil))) pa_nil)))))
        (pss_cons (ps_if (PW.pt (pw_and (pt_cmpR (op_neD hu) (pv 3) (pe_lst pa_nil) (nomark _)) (pw_and1 (pt_cmpR op_eq (pe_call GD hr1 rfl gD kD bD .nil pass0 (pa_cons (pv 0) (pa_cons pe_int pa_nil))) pe_int (nomark _)))))
            (pss_one (ps_set (i := 7) nd rfl (Or.inl rfl) (pe_ix ix_tup (pe_ix ix_list (pv 3) (pe_un un_neg pe_int) (fun _ _ => rfl)) pe_int (fun _ _ => rfl)))) pss_nil)
        (pss_cons (ps_expr (pe_bm PySem.F.plainAttrs_list PySem.F.slot_list_append PySem.F.type_list_append mt_append (pv 3) (pa_cons (pe_tup (pa_cons (pv 5) (pa_cons (pv 6) (pa_cons (pv 7) pa_nil)))) pa_nil)))
        (pss_one (ps_set (i := 2) nd rfl (Or.inl rfl) (pe_op op_add (pv 6) pe_int)))))))))
      (pss_cons (ps_if (PW.pt (pw_and (pt_cmpR (op_neD hu) (pv 3) (pe_lst pa_nil) (nomark _)) (pw_and1 (pt_cmpR op_eq (pe_call GD hr1 rfl gD kD bD .nil pass0 (pa_cons (pv 0) (pa_cons pe_int pa_nil))) pe_int (nomark _)))))
          (pss_one (ps_asg (pe_tup (pa_cons pe_non (pa_cons (pe_ix ix_tup (pe_ix ix_list (pv 3) pe_int (fun _ _ => rfl)) pe_int (fun _ _ => rfl)) (pa_cons (pe_ix ix_tup (pe_ix ix_list (pv 3) pe_int (fun _ _ => rfl)) pe_int (fun _ _ => rfl)) pa_nil)))) (pg_sub (pv 3) pe_int set_list))) pss_nil)
      (pss_cons (ps_if (PW.pt (pw_and (pt_cmpR (op_neD hu) (pv 3) (pe_lst pa_nil) (nomark _)) (pw_and1 (pt_cmpR op_eq (pe_call GD hr1 rfl gD kD bD .nil pass0 (pa_cons (pv 0) (pa_cons pe_int pa_nil))) pe_int (nomark _)))))
          (pss_one (ps_asg (pe_tup (pa_cons (pe_ix ix_tup (pe_ix ix_list (pv 3) (pe_un un_neg pe_int) (fun _ _ => rfl)) pe_int (fun _ _ => rfl)) (pa_cons pe_non (pa_cons (pe_ix ix_tup (pe_ix ix_list (pv 3) (pe_un un_neg pe_int) (fun _ _ => rfl)) pe_int (fun _ _ => rfl)) pa_nil)))) (pg_sub (pv 3) (pe_un un_neg pe_int) set_list))) pss_nil)
      (pss_one (ps_ret (pv 3))))))), ?_⟩
    refine ⟨_, rfl, _, rfl, _, _, rfl, rfl, ⟨by decide, by decide, by decide⟩, (by show 3 ≤ sizeLine; decide), fun L nL => ?_⟩
    have hL := hB.ne nL
    refine ⟨b, L, n, _, rfl, hB.put hL, (by omega), hL, SqL.of upd_same, (by show 0 < 3; decide), (by show 3 ≤ 1000; decide), fun i v G1 hv b1 hB1 => ?_⟩
    have s1 : ∀ x o, x ≠ b → H x = some o → G1 x = some o := fun x o nx e => (b1 x nx).trans (same_put nL _ _ e)
    obtain ⟨m1, rfl, hm1, hm2⟩ : ∃ m1 : Int, v = .int m1 ∧ 0 < m1 ∧ m1 ≤ 10 ^ 28 := by
      match i, hv with
      | 0, e => exact ⟨10, (Option.some.inj e).symm, by decide, by decide⟩
      | 1, e => exact ⟨10, (Option.some.inj e).symm, by decide, by decide⟩
      | 2, e => exact ⟨10 ^ 28, (Option.some.inj e).symm, by decide, by decide⟩
    refine ⟨b, _, m1, rfl, hB1, (by omega), hm1, (by omega), fun r G2 r0 r1 b2 hB2 => ?_⟩
    refine ⟨_, rfl, _, _, rfl, rfl, ⟨by decide, by decide, by decide⟩, (by show 3 ≤ sizeLine; decide), fun L2 nL2 => ?_⟩
    have hL2 := hB2.ne nL2
    refine ⟨b, L2, _, _, rfl, hB2.put hL2, (by omega), hL2, SqL.of upd_same, (by show 0 < 3; decide), (by show 3 ≤ 1000; decide), fun i2 v2 G3 hv2 b3 hB3 => ?_⟩
    obtain ⟨m2, rfl, hm3, hm4⟩ : ∃ m2 : Int, v2 = .int m2 ∧ 0 ≤ m2 ∧ m2 ≤ 10 ^ 28 := by
      match i2, hv2 with
      | 0, e => exact ⟨0, (Option.some.inj e).symm, by decide, by decide⟩
      | 1, e => exact ⟨5, (Option.some.inj e).symm, by decide, by decide⟩
      | 2, e => exact ⟨10 ^ 28, (Option.some.inj e).symm, by decide, by decide⟩
    have s3 : ∀ x o, x ≠ b → H x = some o → G3 x = some o := fun x o nx e => (b3 x nx).trans (same_put nL2 _ _ ((b2 x nx).trans (s1 x o nx e)))
    refine ⟨_, _, rfl, rfl, by decide, fun F0 nF => ?_⟩
    have hat : (r - m2).natAbs ≤ 10 ^ 28 := by omega
    have lp0 : LP b F0 H (upd G3 F0 (.lst [])) [] [] (n + 3) := by
      refine ⟨?_, upd_same, fun x o n1 n2 e => (upd_ne n2).trans (s3 x o n1 e), hB3.ne nF, .nil⟩
      have q := hB3.put (o := .lst []) (hB3.ne nF)
      exact q.mono (by omega)
    have hFH : H F0 = none := by
      cases e : H F0 with
      | none => rfl
      | some o => exact absurd (s3 F0 o (hB3.ne nF) e) (by rw [nF]; exact nofun)
    generalize upd G3 F0 (.lst []) = G4 at lp0
    refine ⟨_, _, rfl, ?_⟩
    refine ⟨_, rfl, _, rfl, _, _, rfl, rfl, b, _, _, rfl, lp0.bag, (by omega), (by omega), (by omega), fun rn G5 q0 q1 b5 hB5 => ?_⟩
    have lp1 := lp0.draw b5 hB5
    refine ⟨rn, rfl, (by omega), (by omega), ?_⟩
    have hrn : (rn.toNat : Int) ≤ most := by omega
    generalize rn.toNat = nn at hrn
    refine for_range (lo := 0) (n := nn) (fun i σ G => ∃ (at1 : Int) (zs : List V) (ps : List Pc) (y4 y5 y6 y7 : Option V), σ = [some (.ref b), some (.int most), some (.int at1), some (.ref F0), y4, y5, y6, y7] ∧ at1.natAbs ≤ (3 * i + 1) * 10 ^ 28 ∧ zs.length = i ∧
        LP b F0 H G zs ps (n + 4 + 20 * i) ∧ (ps.Pairwise fun p q => ahead p q = true) ∧ ∀ p ∈ ps, okPc p ∧ okB p ∧ ∃ l h, p.1 = some l ∧ p.2.1 = some h ∧ h < at1)
      ⟨r - m2, [], [], none, none, none, none, rfl, (by omega), rfl, (by have q := lp1.bag.mono (n' := n + 4 + 20 * ((0 : Nat) : Int)) (by omega); exact { lp1 with bag := q }), .nil, fun _ z => nomatch z⟩ ?_ ?_
    · rintro i σ G hi ⟨at1, zs, ps, y4, y5, y6, y7, rfl, ha, hzl, lp, hpw, hall⟩
      have hi8 : (i : Int) < 8 := by omega
      -- low
      refine ⟨_, rfl, _, rfl, _, rfl, _, _, rfl, rfl, ⟨by decide, by decide, by decide⟩, b, _, _, rfl, lp.bag, (by omega), (by decide), (by decide), fun d1 G1 d1a d1b k1 hB1 => ?_⟩
      have l1 := lp.draw k1 hB1
      refine ⟨(by show 5 ≤ sizeLine; decide), fun L nL => ?_⟩
      have l1' := l1.new (o := .lst [.int 0, .int 0, .int 1, .int 2, .int d1]) nL
      refine ⟨b, L, _, _, rfl, l1'.bag, (by omega), l1.bag.ne nL, SqL.of upd_same, (by show 0 < 5; decide), (by show 5 ≤ 1000; decide), fun j v G2 hv k2 hB2 => ?_⟩
      have l2 := l1'.draw k2 hB2
      obtain ⟨x1, rfl, hx1, hx1'⟩ : ∃ m : Int, v = .int m ∧ 0 ≤ m ∧ m ≤ 10 ^ 28 := by
        match j, hv with
        | 0, e => exact ⟨0, (Option.some.inj e).symm, by decide, by decide⟩
        | 1, e => exact ⟨0, (Option.some.inj e).symm, by decide, by decide⟩
        | 2, e => exact ⟨1, (Option.some.inj e).symm, by decide, by decide⟩
        | 3, e => exact ⟨2, (Option.some.inj e).symm, by decide, by decide⟩
        | 4, e => exact ⟨d1, (Option.some.inj e).symm, d1a, Int.le_of_lt d1b⟩
      clear hv
      refine ⟨_, _, rfl, rfl, ?_⟩
      -- high
      refine ⟨_, rfl, _, rfl, _, rfl, _, _, rfl, rfl, ⟨by decide, by decide, by decide⟩, b, _, _, rfl, l2.bag, (by omega), (by decide), (by decide), fun d2 G3 d2a d2b k3 hB3 => ?_⟩
      have l3 := l2.draw k3 hB3
      refine ⟨(by show 6 ≤ sizeLine; decide), fun L2 nL2 => ?_⟩
      have l3' := l3.new (o := .lst [.int 0, .int 0, .int 1, .int 2, .int 5, .int d2]) nL2
      refine ⟨b, L2, _, _, rfl, l3'.bag, (by omega), l3.bag.ne nL2, SqL.of upd_same, (by show 0 < 6; decide), (by show 6 ≤ 1000; decide), fun j2 v2 G4 hv2 k4 hB4 => ?_⟩
      have l4 := l3'.draw k4 hB4
      obtain ⟨x2, rfl, hx2, hx2'⟩ : ∃ m : Int, v2 = .int m ∧ 0 ≤ m ∧ m ≤ 10 ^ 28 := by
        match j2, hv2 with
        | 0, e => exact ⟨0, (Option.some.inj e).symm, by decide, by decide⟩
        | 1, e => exact ⟨0, (Option.some.inj e).symm, by decide, by decide⟩
        | 2, e => exact ⟨1, (Option.some.inj e).symm, by decide, by decide⟩
        | 3, e => exact ⟨2, (Option.some.inj e).symm, by decide, by decide⟩
        | 4, e => exact ⟨5, (Option.some.inj e).symm, by decide, by decide⟩
        | 5, e => exact ⟨d2, (Option.some.inj e).symm, d2a, Int.le_of_lt d2b⟩
      clear hv2
      refine ⟨_, _, rfl, rfl, ?_⟩
      -- by
      refine ⟨_, rfl, _, rfl, _, rfl, _, rfl, _, _, rfl, rfl, ⟨by decide, by decide, by decide⟩, b, _, _, rfl, l4.bag, (by omega), (by decide), (by decide), fun d3 G5 d3a d3b k5 hB5 => ?_⟩
      have l5 := l4.draw k5 hB5
      refine ⟨(by show 6 ≤ sizeLine; decide), fun L3 nL3 => ?_⟩
      have l5' := l5.new (o := .lst [.int 1, .int (-1), .int 0, .int 2, .int (-3), .int d3]) nL3
      refine ⟨b, L3, _, _, rfl, l5'.bag, (by omega), l5.bag.ne nL3, SqL.of upd_same, (by show 0 < 6; decide), (by show 6 ≤ 1000; decide), fun j3 v3 G6 hv3 k6 hB6 => ?_⟩
      have l6 := l5'.draw k6 hB6
      obtain ⟨x3, rfl, hx3⟩ : ∃ m : Int, v3 = .int m ∧ m.natAbs ≤ 10 ^ 28 := by
        match j3, hv3 with
        | 0, e => exact ⟨1, (Option.some.inj e).symm, by decide⟩
        | 1, e => exact ⟨-1, (Option.some.inj e).symm, by decide⟩
        | 2, e => exact ⟨0, (Option.some.inj e).symm, by decide⟩
        | 3, e => exact ⟨2, (Option.some.inj e).symm, by decide⟩
        | 4, e => exact ⟨-3, (Option.some.inj e).symm, by decide⟩
        | 5, e => exact ⟨d3, (Option.some.inj e).symm, (by have q : d3 < 10 ^ 28 := d3b; omega)⟩
      clear hv3
      refine ⟨_, rfl, _, rfl, (by show 2 ≤ sizeLine; decide), fun L4 nL4 => ?_⟩
      have l6' := l6.new (o := .lst [.int 1, .int (-1)]) nL4
      refine ⟨b, L4, _, _, rfl, l6'.bag, (by omega), l6.bag.ne nL4, SqL.of upd_same, (by show 0 < 2; decide), (by show 2 ≤ 1000; decide), fun j4 v4 G7 hv4 k7 hB7 => ?_⟩
      have l7 := l6'.draw k7 hB7
      obtain ⟨x4, rfl, hx4⟩ : ∃ m : Int, v4 = .int m ∧ (m = 1 ∨ m = -1) := by
        match j4, hv4 with
        | 0, e => exact ⟨1, (Option.some.inj e).symm, .inl rfl⟩
        | 1, e => exact ⟨-1, (Option.some.inj e).symm, .inr rfl⟩
      clear hv4
      refine ⟨_, _, rfl, rfl, ?_, ?_⟩
      · rcases hx4 with rfl | rfl <;> exact .inr ⟨by decide, by decide⟩
      have hby : (x3 * x4).natAbs ≤ 10 ^ 28 := by
        rcases hx4 with rfl | rfl
        · rw [Int.mul_one]
          exact hx3
        · rw [Int.mul_neg, Int.mul_one]
          omega
      refine ⟨_, rfl, by decide, fun L5 nL5 => ?_⟩
      have l8 := l7.new (o := .lst []) nL5
      refine ⟨_, _, .lst (SqL.of l8.fnd) (pcs_dp l8.pcs), .lst (SqL.of upd_same) .nil, pieces_shaped ps, rfl, _, rfl, ?_⟩
      rw [ne_nil_eqv]
      have hpl : ps.length = i := (Paired.length lp.pcs).symm.trans hzl
      by_cases hps : ps = []
      · have e0 : (!(ps.map pieceD).isEmpty) = false := by
          rw [hps]
          rfl
        rw [e0]
        refine ⟨_, rfl, .inl ⟨rfl, _, SqL.of l8.fnd⟩, _, rfl, _, rfl, _, rfl, (by show 3 ≤ sizeLine; decide), fun T nT => ⟨F0, zs, _, rfl, rfl, (l8.new nT).fnd, (by rw [sizeLine_eq]; omega), ?_⟩⟩
        refine ⟨_, rfl, _, _, rfl, rfl, ?_⟩
        have st := (l8.step nT (some (at1 + x1), some (at1 + x1 + x2), x3 * x4)).le (m' := n + 4 + 20 * ((i + 1 : Nat) : Int)) (by omega)
        have ch := chain_snoc (p := (some (at1 + x1), some (at1 + x1 + x2), x3 * x4)) (l := at1 + x1) hpw (fun q hq => (hall q hq).2.2.elim fun l z => z.elim fun h z => ⟨h, z.2⟩) rfl (by omega)
        refine ⟨at1 + x1 + x2 + 1, zs ++ [V.ref T], ps ++ [(some (at1 + x1), some (at1 + x1 + x2), x3 * x4)], _, _, _, _, rfl, (by omega), (by rw [List.length_append, hzl]; rfl), st, ch, fun q hq => ?_⟩
        rcases List.mem_append.mp hq with hq | hq
        · obtain ⟨h1, h2, l, h, h3, h4, h5⟩ := hall q hq
          exact ⟨h1, h2, l, h, h3, h4, by omega⟩
        · rw [List.mem_singleton.mp hq]
          exact ⟨decide_eq_true (by show at1 + x1 ≤ at1 + x1 + x2; omega), ⟨(fun l e => by cases e; omega), (fun l e => by cases e; omega), (by show (x3 * x4).natAbs < _; omega)⟩, _, _, rfl, rfl, by omega⟩
      · have e0 : (!(ps.map pieceD).isEmpty) = true := by cases ps <;> first | exact absurd rfl hps | rfl
        rw [e0]
        refine ⟨_, rfl, b, _, _, rfl, l8.bag, (by omega), (by decide), (by decide), fun d8 G8 _ _ k8 hB8 => ?_⟩
        have l9 := l8.draw k8 hB8
        refine ⟨rfl, _, rfl, ite2' (fun c => ?_) (fun c => ?_)⟩
        · obtain ⟨z0, z, r0, r, ez, er, hp0, hzr⟩ := pcs_last (fun e => hps (by rw [e] at hzl; exact List.eq_nil_of_length_eq_zero (hpl.trans hzl.symm))) l9.pcs
          obtain ⟨az, rfl, haz⟩ := hzr
          have hrB : r.2.2.natAbs < 5 * 10 ^ 29 := (hall r (by rw [er]; simp)).2.1.2.2
          refine ⟨_, rfl, _, rfl, F0, zs, _, _, rfl, rfl, SqL.of l9.fnd, (by rw [ez]; exact atI_last _ _), _, _, _, _, rfl, rfl, SqT.of haz, rfl, ?_⟩
          refine ⟨_, rfl, .inl ⟨rfl, _, SqL.of l9.fnd⟩, _, rfl, _, rfl, _, rfl, (by show 3 ≤ sizeLine; decide), fun T nT => ⟨F0, zs, _, rfl, rfl, (l9.new nT).fnd, (by rw [sizeLine_eq]; omega), ?_⟩⟩
          refine ⟨_, rfl, _, _, rfl, rfl, ?_⟩
          have st := (l9.step nT (some (at1 + x1), some (at1 + x1 + x2), r.2.2)).le (m' := n + 4 + 20 * ((i + 1 : Nat) : Int)) (by omega)
          have ch := chain_snoc (p := (some (at1 + x1), some (at1 + x1 + x2), r.2.2)) (l := at1 + x1) hpw (fun q hq => (hall q hq).2.2.elim fun l z => z.elim fun h z => ⟨h, z.2⟩) rfl (by omega)
          refine ⟨at1 + x1 + x2 + 1, zs ++ [V.ref T], ps ++ [(some (at1 + x1), some (at1 + x1 + x2), r.2.2)], _, _, _, _, rfl, (by omega), (by rw [List.length_append, hzl]; rfl), st, ch, fun q hq => ?_⟩
          rcases List.mem_append.mp hq with hq | hq
          · obtain ⟨h1, h2, l, h, h3, h4, h5⟩ := hall q hq
            exact ⟨h1, h2, l, h, h3, h4, by omega⟩
          · rw [List.mem_singleton.mp hq]
            exact ⟨decide_eq_true (by show at1 + x1 ≤ at1 + x1 + x2; omega), ⟨(fun l e => by cases e; omega), (fun l e => by cases e; omega), hrB⟩, _, _, rfl, rfl, by omega⟩
        · skip
          refine ⟨_, rfl, .inl ⟨rfl, _, SqL.of l9.fnd⟩, _, rfl, _, rfl, _, rfl, (by show 3 ≤ sizeLine; decide), fun T nT => ⟨F0, zs, _, rfl, rfl, (l9.new nT).fnd, (by rw [sizeLine_eq]; omega), ?_⟩⟩
          refine ⟨_, rfl, _, _, rfl, rfl, ?_⟩
          have st := (l9.step nT (some (at1 + x1), some (at1 + x1 + x2), x3 * x4)).le (m' := n + 4 + 20 * ((i + 1 : Nat) : Int)) (by omega)
          have ch := chain_snoc (p := (some (at1 + x1), some (at1 + x1 + x2), x3 * x4)) (l := at1 + x1) hpw (fun q hq => (hall q hq).2.2.elim fun l z => z.elim fun h z => ⟨h, z.2⟩) rfl (by omega)
          refine ⟨at1 + x1 + x2 + 1, zs ++ [V.ref T], ps ++ [(some (at1 + x1), some (at1 + x1 + x2), x3 * x4)], _, _, _, _, rfl, (by omega), (by rw [List.length_append, hzl]; rfl), st, ch, fun q hq => ?_⟩
          rcases List.mem_append.mp hq with hq | hq
          · obtain ⟨h1, h2, l, h, h3, h4, h5⟩ := hall q hq
            exact ⟨h1, h2, l, h, h3, h4, by omega⟩
          · rw [List.mem_singleton.mp hq]
            exact ⟨decide_eq_true (by show at1 + x1 ≤ at1 + x1 + x2; omega), ⟨(fun l e => by cases e; omega), (fun l e => by cases e; omega), (by show (x3 * x4).natAbs < _; omega)⟩, _, _, rfl, rfl, by omega⟩
    · rintro σ G ⟨at1, zs, ps, y4, y5, y6, y7, rfl, ha, hzl, lp, hpw, hall⟩
      have hall' : ∀ p ∈ ps, okPc p ∧ okB p := fun p hp => ⟨(hall p hp).1, (hall p hp).2.1⟩
      clear hall
      have lpA := lp.le (m' := n + 180) (by omega)
      have hzm : (zs.length : Int) ≤ most := by omega
      dsimp only
      refine seq_by (fun σ G => ∃ zs ps, σ = [some (.ref b), some (.int most), some (.int at1), some (.ref F0), y4, y5, y6, y7] ∧ LP b F0 H G zs ps (n + 185) ∧ (zs.length : Int) ≤ most ∧ (ps.Pairwise fun p q => ahead p q = true) ∧ ∀ p ∈ ps, okPc p ∧ okB p) ?_ (fun nxt => ?_)
      · rintro σ G ⟨zs, ps, rfl, lp, hzm, hpw, hall⟩
        refine seq_by (fun σ G => ∃ zs ps, σ = [some (.ref b), some (.int most), some (.int at1), some (.ref F0), y4, y5, y6, y7] ∧ LP b F0 H G zs ps (n + 200) ∧ (zs.length : Int) ≤ most ∧ (ps.Pairwise fun p q => ahead p q = true) ∧ ∀ p ∈ ps, okPc p ∧ okB p) ?_ (fun nxt => ?_)
        · rintro σ G ⟨zs, ps, rfl, lp, hzm, hpw, hall⟩
          exact ⟨_, rfl, k F0 zs ps G hFH lp hzm hpw hall⟩
        · refine ⟨_, rfl, by decide, fun L5 nL5 => ?_⟩
          have l8 := lp.new (o := .lst []) nL5
          refine ⟨_, _, .lst (SqL.of l8.fnd) (pcs_dp l8.pcs), .lst (SqL.of upd_same) .nil, pieces_shaped ps, rfl, _, rfl, ?_⟩
          rw [ne_nil_eqv]
          by_cases hps : zs = []
          · have e0 : (!(ps.map pieceD).isEmpty) = false := by
              have e1 := lp.pcs
              rw [hps] at e1
              cases e1
              rfl
            rw [e0]
            exact nxt _ _ ⟨zs, ps, rfl, l8.le (by omega), hzm, hpw, hall⟩
          · obtain ⟨z0, z, r0, r, rfl, rfl, hp0, hzr⟩ := pcs_last hps l8.pcs
            have e0 : (!((r0 ++ [r]).map pieceD).isEmpty) = true := by cases r0 <;> rfl
            rw [e0]
            refine ⟨_, rfl, b, _, _, rfl, l8.bag, (by omega), (by decide), (by decide), fun d8 G8 _ _ k8 hB8 => ?_⟩
            have l9 := l8.draw k8 hB8
            refine ⟨rfl, _, rfl, ite2' (fun c => ?_) (fun c => ?_)⟩
            · obtain ⟨q0, qz, s0, sr, eq1, eq2, hp0, hzr⟩ := pcs_last hps l9.pcs
              obtain ⟨rfl, eq3⟩ := List.append_inj' eq1 rfl
              obtain ⟨rfl, eq4⟩ := List.append_inj' eq2 rfl
              obtain rfl : z = qz := (List.cons.inj eq3).1
              obtain rfl : r = sr := (List.cons.inj eq4).1
              obtain ⟨az, rfl, haz⟩ := hzr
              refine ⟨_, rfl, _, rfl, F0, _, _, _, rfl, rfl, SqL.of l9.fnd, atI_last _ _, _, _, _, _, rfl, rfl, SqT.of haz, rfl, ?_⟩
              refine ⟨_, rfl, _, rfl, F0, _, _, _, rfl, rfl, SqL.of l9.fnd, atI_last _ _, _, _, _, _, rfl, rfl, SqT.of haz, rfl, (by show 3 ≤ sizeLine; decide), fun T nT => ?_⟩
              refine ⟨_, rfl, _, rfl, F0, z0 ++ [.ref az], _, z0.length, rfl, rfl, (l9.new nT).fnd, ixN_last _ _, ?_⟩
              rw [set_last]
              obtain ⟨hr1, hr2⟩ := hall r (by simp)
              have st := ((l9.new (o := .tup [endV r.1, .non, .int r.2.2]) nT).put (zs' := z0 ++ [V.ref T]) (ps' := r0 ++ [((r.1, none, r.2.2) : Pc)]) (pcs_snoc (p := ((r.1, none, r.2.2) : Pc)) ⟨T, rfl, upd_same⟩ (hp0.imp fun x p h => h.same (same_put nT)))).le (m' := n + 200) (by omega)
              refine nxt _ _ ⟨_, _, rfl, st, (by rw [List.length_append] at hzm ⊢; exact hzm), ?_, fun q hq => ?_⟩
              · obtain ⟨w1, w2, w3⟩ := List.pairwise_append.mp hpw
                exact List.pairwise_append.mpr ⟨w1, List.pairwise_singleton _ _, fun p hp q hq => by
                  rw [List.mem_singleton.mp hq]
                  exact w3 p hp r (by simp)⟩
              · rcases List.mem_append.mp hq with hq | hq
                · exact hall q (List.mem_append_left _ hq)
                · rw [List.mem_singleton.mp hq]
                  exact ⟨(by obtain ⟨l, h, bb⟩ := r; cases l <;> rfl), hr2.1, (fun h e => by cases e), hr2.2.2⟩
            · exact nxt _ _ ⟨_, _, rfl, l9.le (by omega), hzm, hpw, hall⟩
      · refine ⟨_, rfl, by decide, fun L5 nL5 => ?_⟩
        have l8 := lpA.new (o := .lst []) nL5
        refine ⟨_, _, .lst (SqL.of l8.fnd) (pcs_dp l8.pcs), .lst (SqL.of upd_same) .nil, pieces_shaped ps, rfl, _, rfl, ?_⟩
        rw [ne_nil_eqv]
        by_cases hps : zs = []
        · have e0 : (!(ps.map pieceD).isEmpty) = false := by
            have e1 := lp.pcs
            rw [hps] at e1
            cases e1
            rfl
          rw [e0]
          exact nxt _ _ ⟨zs, ps, rfl, l8.le (by omega), hzm, hpw, hall'⟩
        · obtain ⟨z, z0, rfl⟩ := List.exists_cons_of_ne_nil hps
          obtain ⟨r, r0, rfl⟩ : ∃ r r0, ps = r :: r0 := by
            have e1 := lp.pcs
            cases e1
            exact ⟨_, _, rfl⟩
          refine ⟨_, rfl, b, _, _, rfl, l8.bag, (by omega), (by decide), (by decide), fun d8 G8 _ _ k8 hB8 => ?_⟩
          have l9 := l8.draw k8 hB8
          refine ⟨rfl, _, rfl, ite2' (fun c => ?_) (fun c => ?_)⟩
          · obtain ⟨hzr, hp0⟩ : IsPc G8 z r ∧ Pcs G8 z0 r0 := by
              have e1 := l9.pcs
              cases e1 with
              | cons h t => exact ⟨h, t⟩
            obtain ⟨az, rfl, haz⟩ := hzr
            refine ⟨_, rfl, F0, _, _, _, rfl, rfl, SqL.of l9.fnd, atI_zero _ _, _, _, _, _, rfl, rfl, SqT.of haz, rfl, ?_⟩
            refine ⟨_, rfl, F0, _, _, _, rfl, rfl, SqL.of l9.fnd, atI_zero _ _, _, _, _, _, rfl, rfl, SqT.of haz, rfl, (by show 3 ≤ sizeLine; decide), fun T nT => ?_⟩
            refine ⟨_, rfl, F0, V.ref az :: z0, _, 0, rfl, rfl, (l9.new nT).fnd, ixN_zero _ _, ?_⟩
            obtain ⟨hr1, hr2⟩ := hall' r (by simp)
            have st := ((l9.new (o := .tup [.non, endV r.2.1, .int r.2.2]) nT).put (zs' := V.ref T :: z0) (ps' := ((none, r.2.1, r.2.2) : Pc) :: r0) (.cons ⟨T, rfl, upd_same⟩ (hp0.imp fun x p h => h.same (same_put nT)))).le (m' := n + 185) (by omega)
            refine nxt _ _ ⟨_, _, rfl, st, hzm, ?_, fun q hq => ?_⟩
            · obtain ⟨w1, w2⟩ := List.pairwise_cons.mp hpw
              exact List.pairwise_cons.mpr ⟨fun q hq => w1 q hq, w2⟩
            · rcases List.mem_cons.mp hq with rfl | hq
              · exact ⟨rfl, (fun l e => by cases e), hr2.2.1, hr2.2.2⟩
              · exact hall' q (List.mem_cons_of_mem _ hq)
          · exact nxt _ _ ⟨_, _, rfl, l9.le (by omega), hzm, hpw, hall'⟩
end
end K04

set_option Elab.async false
set_option maxRecDepth 100000
set_option maxHeartbeats 1000000
/-! What the pieces of a chain come to. -/
namespace K04
open PySem PySem.Spec PyProof.Rows L2 KX
abbrev Chain (ps : List Pc) : Prop := ps.Pairwise fun p q => ahead p q = true
def hold (l h : Option Int) (p : Int) : Bool := (match l with | none => true | some l => decide (l ≤ p)) && (match h with | none => true | some h => decide (p ≤ h))
abbrev has (x : Int) (q : Pc) : Bool := hold q.1 q.2.1 x
def byP (ps : List Pc) (x : Int) : Option Int := (ps.find? (has x)).map (·.2.2)
def mapP (ps : List Pc) (x : Int) : Int := x + (byP ps x).getD 0
def part (x : Int) (q : Pc) : Int := if has x q = true then q.2.2 else 0
def tot (x : Int) (ps : List Pc) : Int := (ps.map (part x)).sum
theorem hold_iff {l h : Option Int} {p : Int} : hold l h p = true ↔ (∀ a, l = some a → a ≤ p) ∧ ∀ b, h = some b → p ≤ b := by
  unfold hold
  cases l <;> cases h <;> simp
theorem ahead_has {p q : Pc} {x : Int} (h : ahead p q = true) (k : has x p = true) : has x q = false := by
  obtain ⟨u, l, e1, e2, e3⟩ := ahead_iff.mp h
  have z := (hold_iff.mp k).2 u e1
  cases c : has x q with
  | false => rfl
  | true =>
    have := (hold_iff.mp c).1 l e2
    omega
theorem tot_none {x : Int} : ∀ {ps : List Pc}, (∀ q ∈ ps, has x q = false) → tot x ps = 0
  | [], _ => rfl
  | q :: ps, h => by
    show part x q + tot x ps = 0
    rw [tot_none fun r hr => h r (List.mem_cons_of_mem _ hr)]
    unfold part
    rw [h q List.mem_cons_self]
    rfl
theorem map_tot {x : Int} : ∀ {ps : List Pc}, Chain ps → mapP ps x = x + tot x ps
  | [], _ => by
    show x + 0 = x + 0
    rfl
  | q :: ps, h => by
    obtain ⟨h1, h2⟩ := List.pairwise_cons.mp h
    have ih := map_tot (x := x) h2
    unfold mapP byP at ih ⊢
    show _ = x + (part x q + tot x ps)
    rw [List.find?_cons]
    unfold part
    cases c : has x q with
    | true =>
      rw [tot_none fun r hr => ahead_has (h1 r hr) c]
      show x + q.2.2 = x + (q.2.2 + 0)
      omega
    | false =>
      show _ = x + (0 + tot x ps)
      rw [ih]
      omega
abbrev mvs (p : Pc) : Bool := decide (p.2.2 ≠ 0)
theorem tot_filter {x : Int} : ∀ ps : List Pc, tot x (ps.filter mvs) = tot x ps
  | [] => rfl
  | q :: ps => by
    show _ = part x q + tot x ps
    rw [List.filter_cons]
    cases c : mvs q with
    | true =>
      show part x q + tot x (ps.filter mvs) = _
      rw [tot_filter ps]
    | false =>
      have e : q.2.2 = 0 := Decidable.byContradiction fun n => by
        exact absurd ((decide_eq_true (show q.2.2 ≠ 0 from n)).symm.trans c) (by decide)
      show tot x (ps.filter mvs) = _
      rw [tot_filter ps]
      unfold part
      rw [e]
      split <;> omega
theorem tot_app {x : Int} : ∀ (a b : List Pc), tot x (a ++ b) = tot x a + tot x b
  | [], b => by
    show tot x b = 0 + tot x b
    omega
  | q :: a, b => by
    show part x q + tot x (a ++ b) = part x q + tot x a + tot x b
    rw [tot_app a b]
    omega
theorem joins_iff {r p : Pc} : joins r p = true ↔ r.2.2 = p.2.2 ∧ ∃ h l, r.2.1 = some h ∧ p.1 = some l ∧ h + 1 = l := by
  unfold joins
  rw [Bool.and_eq_true, decide_eq_true_eq]
  refine and_congr_right fun _ => ?_
  cases r.2.1 with
  | none => exact ⟨(fun h => by cases h), (fun ⟨_, _, h, _⟩ => by cases h)⟩
  | some h =>
    cases p.1 with
    | none => exact ⟨(fun h => by cases h), (fun ⟨_, _, _, h, _⟩ => by cases h)⟩
    | some l => exact ⟨(fun z => ⟨h, l, rfl, rfl, of_decide_eq_true z⟩), (fun ⟨_, _, e1, e2, z⟩ => by cases e1; cases e2; exact decide_eq_true z)⟩
/-- what a step does -/
inductive Step (rs : List Pc) (p : Pc) : List Pc → Prop
  | app (h : ∀ r, rs.getLast? = some r → joins r p = false) : Step rs p (rs ++ [p])
  | join {r0 : List Pc} {r : Pc} (e : rs = r0 ++ [r]) (h : joins r p = true) : Step rs p (r0 ++ [(r.1, p.2.1, p.2.2)])
theorem step_is (rs : List Pc) (p : Pc) : Step rs p (mergeStep rs p) := by
  cases e : rs.getLast? with
  | none =>
    have n : ∀ r, rs.getLast? = some r → joins r p = false := fun r h => by rw [e] at h; cases h
    rw [step_app n]
    exact .app n
  | some r =>
    cases c : joins r p with
    | false =>
      have n : ∀ r, rs.getLast? = some r → joins r p = false := fun r2 h => by
        rw [e] at h
        cases h
        exact c
      rw [step_app n]
      exact .app n
    | true =>
      obtain ⟨r0, rfl⟩ := List.getLast?_eq_some_iff.mp e
      rw [step_join c]
      exact .join rfl c
theorem part_join {x : Int} {r p : Pc} (hr : okPc r) (hp : okPc p) (h : joins r p = true) : part x (r.1, p.2.1, p.2.2) = part x r + part x p := by
  obtain ⟨e, u, l, e1, e2, e3⟩ := joins_iff.mp h
  have q1 : has x r = true ↔ (∀ a, r.1 = some a → a ≤ x) ∧ x ≤ u := by
    rw [hold_iff, e1]
    exact and_congr_right fun _ => ⟨fun z => z u rfl, fun z b w => by cases w; exact z⟩
  have q2 : has x p = true ↔ l ≤ x ∧ ∀ b, p.2.1 = some b → x ≤ b := by
    rw [hold_iff, e2]
    exact and_congr_left fun _ => ⟨fun z => z l rfl, fun z b w => by cases w; exact z⟩
  have q3 : has x (r.1, p.2.1, p.2.2) = true ↔ (∀ a, r.1 = some a → a ≤ x) ∧ ∀ b, p.2.1 = some b → x ≤ b := hold_iff
  unfold part
  by_cases c : l ≤ x
  · have n1 : ¬ has x r = true := fun z => by have := (q1.mp z).2; omega
    rw [if_neg n1]
    by_cases d : has x p = true
    · have m : has x (r.1, p.2.1, p.2.2) = true := q3.mpr ⟨fun a ha => by have := okPc_le hr ha e1; omega, (q2.mp d).2⟩
      rw [if_pos m, if_pos d]
      show p.2.2 = 0 + p.2.2
      omega
    · have m : ¬ has x (r.1, p.2.1, p.2.2) = true := fun z => d (q2.mpr ⟨c, (q3.mp z).2⟩)
      rw [if_neg m, if_neg d]
      rfl
  · have n1 : ¬ has x p = true := fun z => c (q2.mp z).1
    rw [if_neg n1]
    by_cases d : has x r = true
    · have m : has x (r.1, p.2.1, p.2.2) = true := q3.mpr ⟨(q1.mp d).1, fun b hb => by have := okPc_le hp e2 hb; omega⟩
      rw [if_pos m, if_pos d]
      show p.2.2 = r.2.2 + 0
      omega
    · have m : ¬ has x (r.1, p.2.1, p.2.2) = true := fun z => d (q1.mpr ⟨(q3.mp z).1, by omega⟩)
      rw [if_neg m, if_neg d]
      rfl
theorem ok_join {r p : Pc} (hr : okPc r) (hp : okPc p) (h : joins r p = true) : okPc (r.1, p.2.1, p.2.2) := by
  obtain ⟨_, u, l, e1, e2, e3⟩ := joins_iff.mp h
  show okP r.1 p.2.1 = true
  cases a : r.1 with
  | none => rfl
  | some a' =>
    cases b : p.2.1 with
    | none => rfl
    | some b' =>
      have h1 := okPc_le hr a e1
      have h2 := okPc_le hp e2 b
      exact decide_eq_true (by omega)
/-- a chain in normal form -/
structure Nf (rs : List Pc) : Prop where
  pw : rs.Pairwise fun p q => ahead p q = true ∧ joins p q = false
  ok : ∀ r ∈ rs, okPc r
  mv : ∀ r ∈ rs, mvs r = true
theorem joins_far {p q r : Pc} (hq : okPc q) (h1 : ahead p q = true) (h2 : ahead q r = true) : joins p r = false := by
  cases c : joins p r with
  | false => rfl
  | true =>
    obtain ⟨_, u, l, e1, e2, e3⟩ := joins_iff.mp c
    obtain ⟨u2, l2, e4, e5, e6⟩ := ahead_iff.mp h1
    obtain ⟨u3, l3, e7, e8, e9⟩ := ahead_iff.mp h2
    rw [e1] at e4; cases e4
    rw [e2] at e8; cases e8
    have := okPc_le hq e5 e7
    omega
theorem Nf.step {rs : List Pc} {p : Pc} (h : Nf rs) (ha : ∀ r ∈ rs, ahead r p = true) (hp : okPc p) (hm : mvs p = true) : Nf (mergeStep rs p) := by
  generalize e : mergeStep rs p = zs
  have S := step_is rs p
  rw [e] at S
  cases S with
  | app n =>
    refine ⟨List.pairwise_append.mpr ⟨h.pw, List.pairwise_singleton _ _, fun r hr q hq => ?_⟩, fun r hr => ?_, fun r hr => ?_⟩
    · rw [List.mem_singleton.mp hq]
      refine ⟨ha r hr, ?_⟩
      have hne : rs ≠ [] := List.ne_nil_of_mem hr
      obtain ⟨r0, l, rfl⟩ : ∃ r0 l, rs = r0 ++ [l] := ⟨_, _, (List.dropLast_concat_getLast hne).symm⟩
      rcases List.mem_append.mp hr with hr0 | hr0
      · have q1 := ((List.pairwise_append.mp h.pw).2.2 r hr0 l (List.mem_singleton_self _)).1
        exact joins_far (h.ok l (by simp)) q1 (ha l (by simp))
      · rw [List.mem_singleton.mp hr0]
        exact n l (List.getLast?_concat)
    · rcases List.mem_append.mp hr with hr | hr
      · exact h.ok r hr
      · rw [List.mem_singleton.mp hr]; exact hp
    · rcases List.mem_append.mp hr with hr | hr
      · exact h.mv r hr
      · rw [List.mem_singleton.mp hr]; exact hm
  | @join r0 r e1 j =>
    subst e1
    have hpw := List.pairwise_append.mp h.pw
    refine ⟨List.pairwise_append.mpr ⟨hpw.1, List.pairwise_singleton _ _, fun x hx q hq => ?_⟩, fun x hx => ?_, fun x hx => ?_⟩
    · rw [List.mem_singleton.mp hq]
      obtain ⟨q1, q2⟩ := hpw.2.2 x hx r (List.mem_singleton_self _)
      refine ⟨q1, ?_⟩
      have e2 := (joins_iff.mp j).1
      have e3 : joins x (r.1, p.2.1, p.2.2) = joins x r := by
        unfold joins
        rw [e2]
      rw [e3]
      exact q2
    · rcases List.mem_append.mp hx with hx | hx
      · exact h.ok x (List.mem_append_left _ hx)
      · rw [List.mem_singleton.mp hx]
        exact ok_join (h.ok r (by simp)) hp j
    · rcases List.mem_append.mp hx with hx | hx
      · exact h.mv x (List.mem_append_left _ hx)
      · rw [List.mem_singleton.mp hx]; exact hm
theorem step_ahead {rs : List Pc} {p q : Pc} (h : ∀ r ∈ rs, ahead r q = true) (hp : ahead p q = true) : ∀ r ∈ mergeStep rs p, ahead r q = true := by
  generalize e : mergeStep rs p = zs
  have S := step_is rs p
  rw [e] at S
  cases S with
  | app n => exact fun r hr => (List.mem_append.mp hr).elim (h r) fun z => by rw [List.mem_singleton.mp z]; exact hp
  | @join r0 r e1 j =>
    subst e1
    exact fun x hx => (List.mem_append.mp hx).elim (fun z => h x (List.mem_append_left _ z)) fun z => by rw [List.mem_singleton.mp z]; exact hp
theorem step_tot {x : Int} {rs : List Pc} {p : Pc} (h : ∀ r ∈ rs, okPc r) (hp : okPc p) : tot x (mergeStep rs p) = tot x rs + part x p := by
  generalize e : mergeStep rs p = zs
  have S := step_is rs p
  rw [e] at S
  have one : ∀ q, tot x [q] = part x q := fun q => by
    show part x q + 0 = part x q
    omega
  cases S with
  | app n => rw [tot_app, one]
  | @join r0 r e1 j =>
    subst e1
    rw [tot_app, tot_app, one, one, part_join (h r (by simp)) hp j]
    omega
theorem fold_nf : ∀ (qs rs : List Pc), Nf rs → (∀ r ∈ rs, ∀ q ∈ qs, ahead r q = true) → Chain qs → (∀ q ∈ qs, okPc q) → (∀ q ∈ qs, mvs q = true) → Nf (qs.foldl mergeStep rs) ∧ ∀ x, tot x (qs.foldl mergeStep rs) = tot x rs + tot x qs
  | [], rs, h, _, _, _, _ => ⟨h, fun x => by
    show tot x rs = tot x rs + 0
    omega⟩
  | p :: qs, rs, h, ha, hc, hok, hm => by
    obtain ⟨c1, c2⟩ := List.pairwise_cons.mp hc
    have hp := hok p List.mem_cons_self
    obtain ⟨z1, z2⟩ := fold_nf qs (mergeStep rs p) (h.step (fun r hr => ha r hr p List.mem_cons_self) hp (hm p List.mem_cons_self)) (fun r hr q hq => step_ahead (fun r hr => ha r hr q (List.mem_cons_of_mem _ hq)) (c1 q hq) r hr) c2 (fun q hq => hok q (List.mem_cons_of_mem _ hq)) (fun q hq => hm q (List.mem_cons_of_mem _ hq))
    refine ⟨z1, fun x => ?_⟩
    show tot x (qs.foldl mergeStep (mergeStep rs p)) = tot x rs + (part x p + tot x qs)
    rw [z2 x, step_tot h.ok hp]
    omega
theorem nf_of {qs : List Pc} (hc : Chain qs) (hok : ∀ q ∈ qs, okPc q) (hm : ∀ q ∈ qs, mvs q = true) : Nf (mergeAll qs) ∧ ∀ x, tot x (mergeAll qs) = tot x qs := by
  obtain ⟨h1, h2⟩ := fold_nf qs [] ⟨.nil, (fun _ h => nomatch h), (fun _ h => nomatch h)⟩ (fun _ h => nomatch h) hc hok hm
  refine ⟨h1, fun x => (h2 x).trans ?_⟩
  show 0 + tot x qs = _
  omega
theorem fold_id : ∀ (qs rs : List Pc), ((rs ++ qs).Pairwise fun p q => ahead p q = true ∧ joins p q = false) → qs.foldl mergeStep rs = rs ++ qs
  | [], rs, _ => (List.append_nil rs).symm
  | p :: qs, rs, h => by
    have n : ∀ r, rs.getLast? = some r → joins r p = false := fun r hr => ((List.pairwise_append.mp h).2.2 r (List.mem_of_getLast? hr) p List.mem_cons_self).2
    show qs.foldl mergeStep (mergeStep rs p) = _
    rw [step_app n, fold_id qs (rs ++ [p]) (by rw [List.append_assoc]; exact h), List.append_assoc]
    rfl
theorem Nf.id {rs : List Pc} (h : Nf rs) : mergeAll rs = rs := fold_id rs [] h.pw
theorem Nf.chain {rs : List Pc} (h : Nf rs) : Chain rs := h.pw.imp fun h => h.1
theorem start_lt {p q : Pc} (hp : okPc p) (h : ahead p q = true) : SrtO.lexB (startK p) (startK q) = true := by
  cases c : SrtO.lexB (startK p) (startK q) with
  | true => rfl
  | false =>
    obtain ⟨u, l, e1, e2, e3⟩ := ahead_iff.mp h
    have z := SrtO.lexB_no.mp c
    have k1 : startK q = (1, l) := by unfold startK; rw [e2]
    rw [k1] at z
    cases d : p.1 with
    | none =>
      have k2 : startK p = (0, 0) := by unfold startK; rw [d]
      rw [k2] at z
      exact absurd (Or.inl (show (0 : Int) < 1 by decide)) z
    | some m =>
      have k2 : startK p = (1, m) := by unfold startK; rw [d]
      rw [k2] at z
      have := okPc_le hp d e1
      exact absurd (Or.inr ⟨rfl, (by show m < l; omega)⟩) z
/-- the sorted pieces of a chain are the chain -/
theorem sorted_is : ∀ (cs qs : List Pc), Chain cs → (∀ c ∈ cs, okPc c) → qs.Perm cs → (qs.Pairwise fun p q => SrtO.lexB (startK q) (startK p) = false) → qs = cs
  | [], qs, _, _, hp, _ => List.perm_nil.mp hp
  | c :: cs, [], _, _, hp, _ => by
    have := hp.length_eq
    cases this
  | c :: cs, q :: qs, hc, hok, hp, hs => by
    obtain ⟨c1, c2⟩ := List.pairwise_cons.mp hc
    obtain ⟨s1, s2⟩ := List.pairwise_cons.mp hs
    have e : q = c := by
      rcases List.mem_cons.mp (hp.mem_iff.mp (List.mem_cons_self (a := q))) with e | hq
      · exact e
      · have a1 := start_lt (hok c List.mem_cons_self) (c1 q hq)
        rcases List.mem_cons.mp (hp.mem_iff.mpr (List.mem_cons_self (a := c))) with e | hcq
        · exact e.symm
        · rw [s1 c hcq] at a1
          cases a1
    subst e
    rw [sorted_is cs qs c2 (fun c hc => hok c (List.mem_cons_of_mem _ hc)) hp.cons_inv s2]
theorem norm_is {rs ps ns : List Pc} (h : NormOf rs ns) (hp : rs.Perm ps) (hc : Chain ps) (hok : ∀ p ∈ ps, okPc p) : ns = mergeAll (ps.filter mvs) := by
  obtain ⟨qs, h1, h2, rfl⟩ := h
  rw [sorted_is (ps.filter mvs) qs (hc.sublist List.filter_sublist) (fun c hc => hok c (List.mem_filter.mp hc).1) (h1.trans (hp.filter _)) h2]
theorem chain_nf {ps : List Pc} (hc : Chain ps) (hok : ∀ p ∈ ps, okPc p) : Nf (mergeAll (ps.filter mvs)) ∧ ∀ x, mapP (mergeAll (ps.filter mvs)) x = mapP ps x := by
  obtain ⟨h1, h2⟩ := nf_of (qs := ps.filter mvs) (hc.sublist List.filter_sublist) (fun c hc => hok c (List.mem_filter.mp hc).1) (fun c hc => (List.mem_filter.mp hc).2)
  refine ⟨h1, fun x => ?_⟩
  rw [map_tot h1.chain, map_tot hc, h2 x, tot_filter]
theorem Nf.again {ns ms : List Pc} (h : Nf ns) (k : NormOf ns ms) : ms = ns := by
  rw [norm_is k (.refl _) h.chain h.ok, List.filter_eq_self.mpr h.mv, h.id]
/-- pieces that do not meet are taken -/
theorem fb_ok : ∀ (rs : List Pc) (i : Nat) (ps : List Pc), (rs.Pairwise fun p q => meets p q = false) → (∀ r ∈ rs, ∀ q ∈ ps, meets r q = false) → fbG i ps (rs.map some) = none
  | [], _, _, _, _ => rfl
  | p :: rs, i, ps, h, k => by
    obtain ⟨h1, h2⟩ := List.pairwise_cons.mp h
    show (if ps.any (meets p) = true then some i else fbG (i + 1) (ps ++ [p]) (rs.map some)) = none
    have e : ps.any (meets p) = false := List.any_eq_false.mpr fun q hq z => by
      rw [k p List.mem_cons_self q hq] at z
      cases z
    rw [e]
    refine fb_ok rs (i + 1) (ps ++ [p]) h2 fun r hr q hq => ?_
    rcases List.mem_append.mp hq with hq | hq
    · exact k r (List.mem_cons_of_mem _ hr) q hq
    · rw [List.mem_singleton.mp hq]
      exact meets_symm (h1 r hr)
theorem ahead_meets {p q : Pc} (h : ahead p q = true) : meets p q = false := by
  unfold meets
  rw [h]
  rfl
theorem fb_perm {rs ps : List Pc} (hp : rs.Perm ps) (hc : Chain ps) : firstBad (rs.map some) = none :=
  fb_ok rs 0 [] ((hp.pairwise_iff fun h => meets_symm h).mpr (hc.imp fun h => ahead_meets h)) (fun _ _ _ h => nomatch h)
theorem any_find {x : Int} (ps : List Pc) : ps.any (has x) = (byP ps x).isSome := by
  unfold byP
  induction ps with
  | nil => rfl
  | cons p ps ih =>
    rw [List.any_cons, List.find?_cons, ih]
    cases has x p <;> rfl
end K04

set_option Elab.async false
set_option maxRecDepth 100000
set_option maxHeartbeats 1000000
/-! Runs, parts, what one slide behind another moves; when two move alike. -/
namespace K04
open PySem PySem.Spec PyProof.Rows L2 KX
def mv (e : Option Int) (b : Int) : Option Int := match e with
  | none => none
  | some a => some (a + b)
def maxL : Option Int → Option Int → Option Int
  | none, s => s
  | some l, none => some l
  | some l, some s => if s > l then some s else some l
def minH : Option Int → Option Int → Option Int
  | none, e => e
  | some h, none => some h
  | some h, some e => if e < h then some e else some h
def gap (low : Option Int) (p : Pc) : List Pc := match p.1 with
  | none => []
  | some s => if low = some s then [] else [(low, some (s - 1), 0)]
def runs : Option Int → List Pc → List Pc
  | low, [] => [(low, none, 0)]
  | low, p :: ps => gap low p ++ p :: (match p.2.1 with | none => [] | some e => runs (some (e + 1)) ps)
def after (e : Option Int) (ps : List Pc) : List Pc := match e with
  | none => []
  | some e => runs (some (e + 1)) ps
theorem runs_cons (low : Option Int) (p : Pc) (ps : List Pc) : runs low (p :: ps) = gap low p ++ p :: after p.2.1 ps := rfl
def pieceC (f t : Pc) : Option Pc :=
  if okP (maxL (mv f.1 f.2.2) t.1) (minH (mv f.2.1 f.2.2) t.2.1) = true then some (mv (maxL (mv f.1 f.2.2) t.1) (-f.2.2), mv (minH (mv f.2.1 f.2.2) t.2.1) (-f.2.2), f.2.2 + t.2.2) else none
def comp (fs ts : List Pc) : List Pc := fs.flatMap fun f => ts.filterMap (pieceC f)
/-- from low on, without a gap -/
inductive Tiles : Option Int → List Pc → Prop
  | last (l : Option Int) (b : Int) : Tiles l [(l, none, b)]
  | cons {l : Option Int} {h b : Int} {rest : List Pc} (ok : okP l (some h) = true) (t : Tiles (some (h + 1)) rest) : Tiles l ((l, some h, b) :: rest)
theorem tiles_lo {a : Int} {ts : List Pc} (h : Tiles (some a) ts) : ∀ t ∈ ts, ∃ c, t.1 = some c ∧ a ≤ c := by
  generalize e : (some a : Option Int) = l at h
  induction h generalizing a with
  | last l b =>
    intro t ht
    rw [List.mem_singleton.mp ht]
    exact ⟨a, e.symm, Int.le_refl _⟩
  | @cons l h b rest ok t ih =>
    intro t ht
    rcases List.mem_cons.mp ht with rfl | ht
    · exact ⟨a, e.symm, Int.le_refl _⟩
    · obtain ⟨c, h1, h2⟩ := ih rfl t ht
      subst e
      have : a ≤ h := of_decide_eq_true ok
      exact ⟨c, h1, by omega⟩
theorem tiles_ok {l : Option Int} {ts : List Pc} (h : Tiles l ts) : Chain ts ∧ ∀ t ∈ ts, okPc t := by
  induction h with
  | last l b =>
    refine ⟨List.pairwise_singleton _ _, fun t ht => ?_⟩
    rw [List.mem_singleton.mp ht]
    show okP l none = true
    cases l <;> rfl
  | @cons l h b rest ok t ih =>
    refine ⟨List.pairwise_cons.mpr ⟨fun q hq => ?_, ih.1⟩, fun q hq => ?_⟩
    · obtain ⟨c, h1, h2⟩ := tiles_lo t q hq
      exact ahead_iff.mpr ⟨h, c, rfl, h1, by omega⟩
    · rcases List.mem_cons.mp hq with rfl | hq
      · exact ok
      · exact ih.2 q hq
theorem sum_no {g : Pc → Int} {y : Int} : ∀ {ts : List Pc}, (∀ t ∈ ts, has y t = false) → (ts.map fun t => if has y t = true then g t else 0).sum = 0
  | [], _ => rfl
  | t :: ts, h => by
    have e1 := h t List.mem_cons_self
    have e2 := sum_no (g := g) fun q hq => h q (List.mem_cons_of_mem _ hq)
    show (if has y t = true then g t else 0) + (ts.map fun t => if has y t = true then g t else 0).sum = 0
    rw [e2, if_neg (by rw [e1]; decide)]
    rfl
theorem tile_one {l : Option Int} {ts : List Pc} {y : Int} (h : Tiles l ts) (hy : ∀ a, l = some a → a ≤ y) : ∃ t0 ∈ ts, has y t0 = true ∧ ∀ g : Pc → Int, (ts.map fun t => if has y t = true then g t else 0).sum = g t0 := by
  induction h with
  | last l b =>
    have e : has y (l, none, b) = true := hold_iff.mpr ⟨hy, fun _ z => nomatch z⟩
    refine ⟨_, List.mem_singleton_self _, e, fun g => ?_⟩
    show (if has y (l, none, b) = true then g (l, none, b) else 0) + 0 = _
    rw [if_pos e]
    omega
  | @cons l h b rest ok t ih =>
    by_cases c : y ≤ h
    · have e : has y (l, some h, b) = true := hold_iff.mpr ⟨hy, fun _ z => by cases z; exact c⟩
      refine ⟨_, List.mem_cons_self, e, fun g => ?_⟩
      show (if has y (l, some h, b) = true then g (l, some h, b) else 0) + (rest.map fun t => if has y t = true then g t else 0).sum = _
      rw [if_pos e, sum_no fun q hq => ?_]
      · omega
      · obtain ⟨a, h1, h2⟩ := tiles_lo t q hq
        cases z : has y q with
        | false => rfl
        | true =>
          have := (hold_iff.mp z).1 a h1
          omega
    · obtain ⟨t0, h1, h2, h3⟩ := ih fun a z => by cases z; omega
      refine ⟨t0, List.mem_cons_of_mem _ h1, h2, fun g => ?_⟩
      have e : ¬ has y (l, some h, b) = true := fun z => by
        have := (hold_iff.mp z).2 h rfl
        omega
      show (if has y (l, some h, b) = true then g (l, some h, b) else 0) + (rest.map fun t => if has y t = true then g t else 0).sum = _
      rw [if_neg e, h3 g]
      omega
theorem maxL_iff {l s : Option Int} {y : Int} : (∀ a, maxL l s = some a → a ≤ y) ↔ (∀ a, l = some a → a ≤ y) ∧ ∀ a, s = some a → a ≤ y := by
  cases l with
  | none => simp [maxL]
  | some l =>
    cases s with
    | none => simp [maxL]
    | some s =>
      have q : ∀ v : Int, (∀ a, some v = some a → a ≤ y) ↔ v ≤ y := fun v => ⟨fun h => h v rfl, fun h a e => by cases e; exact h⟩
      show (∀ a, (if s > l then some s else some l) = some a → a ≤ y) ↔ _
      split
      · rw [q, q]
        omega
      · rw [q, q]
        omega
theorem minH_iff {h e : Option Int} {y : Int} : (∀ a, minH h e = some a → y ≤ a) ↔ (∀ a, h = some a → y ≤ a) ∧ ∀ a, e = some a → y ≤ a := by
  cases h with
  | none => simp [minH]
  | some h =>
    cases e with
    | none => simp [minH]
    | some e =>
      have q : ∀ v : Int, (∀ a, some v = some a → y ≤ a) ↔ y ≤ v := fun v => ⟨fun h => h v rfl, fun h a e => by cases e; exact h⟩
      show (∀ a, (if e < h then some e else some h) = some a → y ≤ a) ↔ _
      split
      · rw [q, q]
        omega
      · rw [q, q]
        omega
theorem mv_le {e : Option Int} {b y : Int} : (∀ a, mv e b = some a → a ≤ y) ↔ ∀ a, e = some a → a + b ≤ y := by
  cases e <;> simp [mv]
theorem mv_ge {e : Option Int} {b y : Int} : (∀ a, mv e b = some a → y ≤ a) ↔ ∀ a, e = some a → y ≤ a + b := by
  cases e <;> simp [mv]
theorem has_and {f t : Pc} {x : Int} : (has x f = true ∧ has (x + f.2.2) t = true) ↔ (∀ a, maxL (mv f.1 f.2.2) t.1 = some a → a ≤ x + f.2.2) ∧ ∀ a, minH (mv f.2.1 f.2.2) t.2.1 = some a → x + f.2.2 ≤ a := by
  rw [hold_iff, hold_iff, maxL_iff, minH_iff, mv_le, mv_ge]
  constructor
  · rintro ⟨⟨a, b⟩, c, d⟩
    exact ⟨⟨fun q hq => by have := a q hq; omega, c⟩, fun q hq => by have := b q hq; omega, d⟩
  · rintro ⟨⟨a, c⟩, b, d⟩
    exact ⟨⟨fun q hq => by have := a q hq; omega, fun q hq => by have := b q hq; omega⟩, c, d⟩
theorem piece_has {f t q : Pc} (h : pieceC f t = some q) (x : Int) : has x q = true ↔ (has x f = true ∧ has (x + f.2.2) t = true) := by
  unfold pieceC at h
  split at h
  · cases h
    rw [has_and, hold_iff, mv_le, mv_ge]
    constructor
    · rintro ⟨a, b⟩
      exact ⟨fun q hq => by have := a q hq; omega, fun q hq => by have := b q hq; omega⟩
    · rintro ⟨a, b⟩
      exact ⟨fun q hq => by have := a q hq; omega, fun q hq => by have := b q hq; omega⟩
  · cases h
theorem piece_none {f t : Pc} (h : pieceC f t = none) (x : Int) : ¬ (has x f = true ∧ has (x + f.2.2) t = true) := by
  unfold pieceC at h
  split at h
  · cases h
  · rename_i n
    intro z
    obtain ⟨a, b⟩ := has_and.mp z
    refine n ?_
    generalize maxL (mv f.1 f.2.2) t.1 = l at a
    generalize minH (mv f.2.1 f.2.2) t.2.1 = u at b
    cases l with
    | none => rfl
    | some l =>
      cases u with
      | none => rfl
      | some u =>
        have h1 := a l rfl
        have h2 := b u rfl
        exact decide_eq_true (by omega)
theorem piece_by {f t q : Pc} (h : pieceC f t = some q) : q.2.2 = f.2.2 + t.2.2 := by
  unfold pieceC at h
  split at h
  · cases h; rfl
  · cases h
theorem zsum : ∀ ts : List Pc, (ts.map fun _ => (0 : Int)).sum = 0
  | [] => rfl
  | _ :: ts => by
    show 0 + (ts.map fun _ => (0 : Int)).sum = 0
    rw [zsum ts]
    rfl
theorem tot_part {f : Pc} {x : Int} : ∀ ts : List Pc, tot x (ts.filterMap (pieceC f)) = (ts.map fun t => if has x f = true ∧ has (x + f.2.2) t = true then f.2.2 + t.2.2 else 0).sum
  | [] => rfl
  | t :: ts => by
    show _ = (if has x f = true ∧ has (x + f.2.2) t = true then f.2.2 + t.2.2 else 0) + (ts.map fun t => if has x f = true ∧ has (x + f.2.2) t = true then f.2.2 + t.2.2 else 0).sum
    rw [List.filterMap_cons]
    cases e : pieceC f t with
    | none =>
      show tot x (ts.filterMap (pieceC f)) = _
      rw [tot_part ts, if_neg (piece_none e x)]
      omega
    | some q =>
      show part x q + tot x (ts.filterMap (pieceC f)) = _
      rw [tot_part ts]
      congr 1
      unfold part
      by_cases c : has x q = true
      · rw [if_pos c, if_pos ((piece_has e x).mp c), piece_by e]
      · rw [if_neg c, if_neg fun z => c ((piece_has e x).mpr z)]
theorem tot_flat {x : Int} (g : Pc → List Pc) : ∀ fs : List Pc, tot x (fs.flatMap g) = (fs.map fun f => tot x (g f)).sum
  | [] => rfl
  | f :: fs => by
    show tot x (g f ++ fs.flatMap g) = tot x (g f) + (fs.map fun f => tot x (g f)).sum
    rw [tot_app, tot_flat g fs]
theorem tot_tile {l : Option Int} {ts : List Pc} {y : Int} {t0 : Pc} (h : ∀ g : Pc → Int, (ts.map fun t => if has y t = true then g t else 0).sum = g t0) : tot y ts = t0.2.2 := h fun t => t.2.2
theorem comp_tot {fs ts : List Pc} (hf : Tiles none fs) (ht : Tiles none ts) (x : Int) : tot x (comp fs ts) = tot x fs + tot (x + tot x fs) ts := by
  obtain ⟨f0, _, _, h3⟩ := tile_one (y := x) hf fun _ z => nomatch z
  obtain ⟨t0, _, _, k3⟩ := tile_one (y := x + f0.2.2) ht fun _ z => nomatch z
  have e1 : tot x fs = f0.2.2 := tot_tile (l := none) h3
  have e2 : tot (x + f0.2.2) ts = t0.2.2 := tot_tile (l := none) k3
  rw [e1, e2]
  unfold comp
  rw [tot_flat]
  have e3 : (fs.map fun f => tot x (ts.filterMap (pieceC f))) = fs.map fun f => if has x f = true then (ts.map fun t => if has (x + f.2.2) t = true then f.2.2 + t.2.2 else 0).sum else 0 := by
    refine List.map_congr_left fun f _ => ?_
    rw [tot_part]
    by_cases c : has x f = true
    · rw [if_pos c]
      congr 1
      refine List.map_congr_left fun t _ => ?_
      by_cases d : has (x + f.2.2) t = true
      · rw [if_pos ⟨c, d⟩, if_pos d]
      · rw [if_neg (fun z => d z.2), if_neg d]
    · rw [if_neg c]
      have : (ts.map fun t => if has x f = true ∧ has (x + f.2.2) t = true then f.2.2 + t.2.2 else 0) = ts.map fun _ => (0 : Int) := List.map_congr_left fun t _ => if_neg fun z => c z.1
      rw [this]
      exact zsum ts
  rw [e3, h3 fun f => (ts.map fun t => if has (x + f.2.2) t = true then f.2.2 + t.2.2 else 0).sum, k3 fun t => f0.2.2 + t.2.2]
theorem minH_l {a : Int} {e : Option Int} : ∃ v, minH (some a) e = some v ∧ v ≤ a := by
  cases e with
  | none => exact ⟨a, rfl, Int.le_refl _⟩
  | some e =>
    show ∃ v, (if e < a then some e else some a) = some v ∧ v ≤ a
    split
    · exact ⟨e, rfl, by omega⟩
    · exact ⟨a, rfl, Int.le_refl _⟩
theorem minH_r {h : Option Int} {a : Int} : ∃ v, minH h (some a) = some v ∧ v ≤ a := by
  cases h with
  | none => exact ⟨a, rfl, Int.le_refl _⟩
  | some h =>
    show ∃ v, (if a < h then some a else some h) = some v ∧ v ≤ a
    split
    · exact ⟨a, rfl, Int.le_refl _⟩
    · exact ⟨h, rfl, by omega⟩
theorem maxL_l {a : Int} {e : Option Int} : ∃ v, maxL (some a) e = some v ∧ a ≤ v := by
  cases e with
  | none => exact ⟨a, rfl, Int.le_refl _⟩
  | some e =>
    show ∃ v, (if e > a then some e else some a) = some v ∧ a ≤ v
    split
    · exact ⟨e, rfl, by omega⟩
    · exact ⟨a, rfl, Int.le_refl _⟩
theorem maxL_r {h : Option Int} {a : Int} : ∃ v, maxL h (some a) = some v ∧ a ≤ v := by
  cases h with
  | none => exact ⟨a, rfl, Int.le_refl _⟩
  | some h =>
    show ∃ v, (if a > h then some a else some h) = some v ∧ a ≤ v
    split
    · exact ⟨a, rfl, Int.le_refl _⟩
    · exact ⟨h, rfl, by omega⟩
theorem piece_eq {f t q : Pc} (h : pieceC f t = some q) : q.1 = mv (maxL (mv f.1 f.2.2) t.1) (-f.2.2) ∧ q.2.1 = mv (minH (mv f.2.1 f.2.2) t.2.1) (-f.2.2) ∧ okPc q := by
  unfold pieceC at h
  split at h
  · rename_i c
    cases h
    refine ⟨rfl, rfl, ?_⟩
    show okP (mv (maxL (mv f.1 f.2.2) t.1) (-f.2.2)) (mv (minH (mv f.2.1 f.2.2) t.2.1) (-f.2.2)) = true
    generalize maxL (mv f.1 f.2.2) t.1 = l at c
    generalize minH (mv f.2.1 f.2.2) t.2.1 = u at c
    cases l with
    | none => rfl
    | some l =>
      cases u with
      | none => rfl
      | some u =>
        have : l ≤ u := of_decide_eq_true c
        exact decide_eq_true (show l + -f.2.2 ≤ u + -f.2.2 by omega)
  · cases h
theorem piece_same {f t1 t2 q1 q2 : Pc} (h : ahead t1 t2 = true) (e1 : pieceC f t1 = some q1) (e2 : pieceC f t2 = some q2) : ahead q1 q2 = true := by
  obtain ⟨u, l, a1, a2, a3⟩ := ahead_iff.mp h
  obtain ⟨_, b1, _⟩ := piece_eq e1
  obtain ⟨b2, _, _⟩ := piece_eq e2
  rw [a1] at b1
  rw [a2] at b2
  obtain ⟨v, c1, c2⟩ := minH_r (h := mv f.2.1 f.2.2) (a := u)
  obtain ⟨v2, d1, d2⟩ := maxL_r (h := mv f.1 f.2.2) (a := l)
  rw [c1] at b1
  rw [d1] at b2
  exact ahead_iff.mpr ⟨v + -f.2.2, v2 + -f.2.2, b1, b2, by omega⟩
theorem piece_far {f1 f2 t1 t2 q1 q2 : Pc} (h : ahead f1 f2 = true) (e1 : pieceC f1 t1 = some q1) (e2 : pieceC f2 t2 = some q2) : ahead q1 q2 = true := by
  obtain ⟨u, l, a1, a2, a3⟩ := ahead_iff.mp h
  obtain ⟨_, b1, _⟩ := piece_eq e1
  obtain ⟨b2, _, _⟩ := piece_eq e2
  rw [a1] at b1
  rw [a2] at b2
  obtain ⟨v, c1, c2⟩ := minH_l (a := u + f1.2.2) (e := t1.2.1)
  obtain ⟨v2, d1, d2⟩ := maxL_l (a := l + f2.2.2) (e := t2.1)
  have b1' : q1.2.1 = mv (minH (some (u + f1.2.2)) t1.2.1) (-f1.2.2) := b1
  have b2' : q2.1 = mv (maxL (some (l + f2.2.2)) t2.1) (-f2.2.2) := b2
  rw [c1] at b1'
  rw [d1] at b2'
  exact ahead_iff.mpr ⟨v + -f1.2.2, v2 + -f2.2.2, b1', b2', by omega⟩
theorem mem_part {f q : Pc} {ts : List Pc} (h : q ∈ ts.filterMap (pieceC f)) : ∃ t ∈ ts, pieceC f t = some q := List.mem_filterMap.mp h
theorem part_chain {f : Pc} : ∀ {ts : List Pc}, Chain ts → Chain (ts.filterMap (pieceC f))
  | [], _ => .nil
  | t :: ts, h => by
    obtain ⟨h1, h2⟩ := List.pairwise_cons.mp h
    rw [List.filterMap_cons]
    cases e : pieceC f t with
    | none => exact part_chain h2
    | some q =>
      refine List.pairwise_cons.mpr ⟨fun q2 hq => ?_, part_chain h2⟩
      obtain ⟨t2, ht, e2⟩ := mem_part hq
      exact piece_same (h1 t2 ht) e e2
theorem comp_chain : ∀ {fs ts : List Pc}, Chain fs → Chain ts → Chain (comp fs ts)
  | [], _, _, _ => .nil
  | f :: fs, ts, hf, ht => by
    obtain ⟨h1, h2⟩ := List.pairwise_cons.mp hf
    show Chain (ts.filterMap (pieceC f) ++ comp fs ts)
    refine List.pairwise_append.mpr ⟨part_chain ht, comp_chain h2 ht, fun q1 hq1 q2 hq2 => ?_⟩
    obtain ⟨t1, _, e1⟩ := mem_part hq1
    obtain ⟨f2, hf2, hq2⟩ := List.mem_flatMap.mp hq2
    obtain ⟨t2, _, e2⟩ := mem_part hq2
    exact piece_far (h1 f2 hf2) e1 e2
theorem comp_ok {fs ts : List Pc} : ∀ q ∈ comp fs ts, okPc q := fun q hq => by
  obtain ⟨f, _, hq⟩ := List.mem_flatMap.mp hq
  obtain ⟨t, _, e⟩ := mem_part hq
  exact (piece_eq e).2.2
def Fit (low : Option Int) (ps : List Pc) : Prop := ∀ p, ps.head? = some p → ∀ a, low = some a → ∃ s, p.1 = some s ∧ a ≤ s
theorem fit_next {p : Pc} {ps : List Pc} {e : Int} (h : Chain (p :: ps)) (he : p.2.1 = some e) : Fit (some (e + 1)) ps := by
  intro q hq a ha
  cases ps with
  | nil => cases hq
  | cons r ps =>
    cases hq
    cases ha
    obtain ⟨u, l, e1, e2, e3⟩ := ahead_iff.mp ((List.pairwise_cons.mp h).1 q List.mem_cons_self)
    rw [he] at e1
    cases e1
    exact ⟨l, e2, by omega⟩
theorem chain_end {p : Pc} {ps : List Pc} (h : Chain (p :: ps)) (he : p.2.1 = none) : ps = [] := by
  cases ps with
  | nil => rfl
  | cons r ps =>
    obtain ⟨u, l, e1, _⟩ := ahead_iff.mp ((List.pairwise_cons.mp h).1 r List.mem_cons_self)
    rw [he] at e1
    cases e1
theorem runs_tiles : ∀ (ps : List Pc) (low : Option Int), Chain ps → (∀ p ∈ ps, okPc p) → Fit low ps → Tiles low (runs low ps)
  | [], low, _, _, _ => .last low 0
  | (pl, ph, pb) :: ps, low, hc, hok, hfit => by
    have hp := hok _ List.mem_cons_self
    have rest : Tiles pl ((pl, ph, pb) :: after ph ps) := by
      cases ph with
      | none => exact .last pl pb
      | some e => exact .cons hp (runs_tiles ps (some (e + 1)) (List.pairwise_cons.mp hc).2 (fun p hp => hok p (List.mem_cons_of_mem _ hp)) (fit_next hc rfl))
    show Tiles low (gap low (pl, ph, pb) ++ (pl, ph, pb) :: after ph ps)
    unfold gap
    cases pl with
    | none =>
      cases low with
      | none => exact rest
      | some a =>
        obtain ⟨s, e, _⟩ := hfit _ rfl a rfl
        cases e
    | some s =>
      show Tiles low ((if low = some s then [] else [(low, some (s - 1), 0)]) ++ _)
      by_cases c : low = some s
      · rw [if_pos c, c]
        exact rest
      · rw [if_neg c]
        refine .cons ?_ ?_
        · cases low with
          | none => rfl
          | some a =>
            obtain ⟨s2, e, h2⟩ := hfit _ rfl a rfl
            cases e
            refine decide_eq_true ?_
            have : a ≠ s := fun z => c (by rw [z])
            omega
        · have e : s - 1 + 1 = s := by omega
          rw [e]
          exact rest
theorem gap_tot {x : Int} {low : Option Int} {p : Pc} : tot x (gap low p) = 0 := by
  unfold gap
  split
  · rfl
  · split
    · rfl
    · show part x _ + 0 = 0
      unfold part
      split <;> rfl
theorem runs_tot {x : Int} : ∀ (ps : List Pc) (low : Option Int), Chain ps → tot x (runs low ps) = tot x ps
  | [], low, _ => by
    show part x (low, none, 0) + 0 = 0
    unfold part
    split <;> rfl
  | (pl, ph, pb) :: ps, low, hc => by
    show tot x (gap low (pl, ph, pb) ++ (pl, ph, pb) :: after ph ps) = _
    rw [tot_app, gap_tot]
    show 0 + (part x (pl, ph, pb) + tot x (after ph ps)) = part x (pl, ph, pb) + tot x ps
    cases ph with
    | none =>
      rw [chain_end hc rfl]
      show 0 + (part x (pl, none, pb) + 0) = part x (pl, none, pb) + 0
      omega
    | some e =>
      show 0 + (part x (pl, some e, pb) + tot x (runs (some (e + 1)) ps)) = _
      rw [runs_tot ps (some (e + 1)) (List.pairwise_cons.mp hc).2]
      omega
/-- the parts of one slide behind another, and their normal form -/
abbrev compR (ns ms : List Pc) : List Pc := comp (runs none ns) (runs none ms)
abbrev compS (ns ms : List Pc) : List Pc := mergeAll ((compR ns ms).filter mvs)
theorem fit_none (ps : List Pc) : Fit none ps := fun _ _ _ z => nomatch z
theorem compR_good {ns ms : List Pc} (h1 : Nf ns) (h2 : Nf ms) : Chain (compR ns ms) ∧ ∀ q ∈ compR ns ms, okPc q :=
  ⟨comp_chain (tiles_ok (runs_tiles ns none h1.chain h1.ok (fit_none _))).1 (tiles_ok (runs_tiles ms none h2.chain h2.ok (fit_none _))).1, comp_ok⟩
theorem compS_good {ns ms : List Pc} (h1 : Nf ns) (h2 : Nf ms) : Nf (compS ns ms) ∧ ∀ x, mapP (compS ns ms) x = mapP ms (mapP ns x) := by
  obtain ⟨g1, g2⟩ := compR_good h1 h2
  obtain ⟨q1, q2⟩ := chain_nf g1 g2
  refine ⟨q1, fun x => ?_⟩
  rw [q2, map_tot g1, map_tot h1.chain, map_tot h2.chain, comp_tot (runs_tiles ns none h1.chain h1.ok (fit_none _)) (runs_tiles ms none h2.chain h2.ok (fit_none _)), runs_tot ns none h1.chain, runs_tot ms none h2.chain]
  omega
end K04

set_option Elab.async false
set_option maxRecDepth 100000
set_option maxHeartbeats 1000000
/-! Two normal forms that move alike are one; where two slides must be asked. -/
namespace K04
open PySem PySem.Spec PyProof.Rows L2 KX
theorem tot_head {x : Int} {p : Pc} {ps : List Pc} (h : Chain (p :: ps)) (k : has x p = true) : tot x (p :: ps) = p.2.2 := by
  show part x p + tot x ps = _
  rw [tot_none fun q hq => ahead_has ((List.pairwise_cons.mp h).1 q hq) k]
  unfold part
  rw [if_pos k]
  omega
theorem tot_some {x : Int} : ∀ {ps : List Pc}, Chain ps → tot x ps ≠ 0 → ∃ q ∈ ps, has x q = true ∧ q.2.2 = tot x ps
  | [], _, h => absurd rfl h
  | p :: ps, hc, h => by
    by_cases k : has x p = true
    · exact ⟨p, List.mem_cons_self, k, (tot_head hc k).symm⟩
    · have e : tot x (p :: ps) = tot x ps := by
        show part x p + tot x ps = tot x ps
        unfold part
        rw [if_neg k]
        omega
      rw [e] at h ⊢
      obtain ⟨q, h1, h2⟩ := tot_some (List.pairwise_cons.mp hc).2 h
      exact ⟨q, List.mem_cons_of_mem _ h1, h2⟩
theorem tot_mem {x : Int} : ∀ {ps : List Pc} {q : Pc}, Chain ps → q ∈ ps → has x q = true → tot x ps = q.2.2
  | p :: ps, q, hc, hq, hk => by
    rcases List.mem_cons.mp hq with rfl | hq
    · exact tot_head hc hk
    · have ha := (List.pairwise_cons.mp hc).1 q hq
      have e : ¬ has x p = true := fun z => by
        rw [ahead_has ha z] at hk
        cases hk
      show part x p + tot x ps = _
      rw [tot_mem (List.pairwise_cons.mp hc).2 hq hk]
      unfold part
      rw [if_neg e]
      omega
theorem has_low {p : Pc} {a : Int} (k : okPc p) (e : p.1 = some a) : has a p = true := hold_iff.mpr ⟨fun b h => by rw [e] at h; cases h; exact Int.le_refl _, fun b h => okPc_le k e h⟩
theorem has_high {p : Pc} {a : Int} (k : okPc p) (e : p.2.1 = some a) : has a p = true := hold_iff.mpr ⟨fun b h => okPc_le k h e, fun b h => by rw [e] at h; cases h; exact Int.le_refl _⟩
/-- where a chain begins: an integer below all ends -/
theorem below : ∀ ps : List Pc, ∃ m : Int, ∀ q ∈ ps, (∀ a, q.1 = some a → m < a) ∧ ∀ a, q.2.1 = some a → m < a
  | [] => ⟨0, fun _ h => nomatch h⟩
  | (l, h, b) :: ps => by
    obtain ⟨m, k⟩ := below ps
    refine ⟨min m (min ((l.getD 0) - 1) ((h.getD 0) - 1)), fun q hq => ?_⟩
    rcases List.mem_cons.mp hq with rfl | hq
    · refine ⟨fun a e => ?_, fun a e => ?_⟩
      · obtain rfl : l = some a := e
        show min m (min (a - 1) _) < a
        omega
      · obtain rfl : h = some a := e
        show min m (min _ (a - 1)) < a
        omega
    · obtain ⟨k1, k2⟩ := k q hq
      exact ⟨fun a e => by have := k1 a e; omega, fun a e => by have := k2 a e; omega⟩
theorem low_none {ps : List Pc} {p q : Pc} (hc : Chain (p :: ps)) (hq : q ∈ p :: ps) (e : q.1 = none) : q = p := by
  rcases List.mem_cons.mp hq with h | hq
  · exact h
  · obtain ⟨u, l, _, e2, _⟩ := ahead_iff.mp ((List.pairwise_cons.mp hc).1 q hq)
    rw [e] at e2
    cases e2
/-- each thing of a chain lies at or above the first one's low end -/
theorem low_le {ps : List Pc} {p q : Pc} {a x : Int} (hc : Chain (p :: ps)) (hk : okPc p) (e : p.1 = some a) (hq : q ∈ p :: ps) (h : has x q = true) : a ≤ x := by
  rcases List.mem_cons.mp hq with rfl | hq
  · exact (hold_iff.mp h).1 a e
  · obtain ⟨u, l, e1, e2, e3⟩ := ahead_iff.mp ((List.pairwise_cons.mp hc).1 q hq)
    have h1 := (hold_iff.mp h).1 l e2
    have h2 := okPc_le hk e e1
    omega
theorem mv_ne {p : Pc} (h : mvs p = true) : p.2.2 ≠ 0 := of_decide_eq_true h
theorem first_low {p q : Pc} {ps qs : List Pc} (h1 : Nf (p :: ps)) (h2 : Nf (q :: qs)) (h : ∀ x, tot x (p :: ps) = tot x (q :: qs)) : ∃ x, has x p = true ∧ has x q = true := by
  have hp := h1.ok p List.mem_cons_self
  have hq := h2.ok q List.mem_cons_self
  have np := mv_ne (h1.mv p List.mem_cons_self)
  have nq := mv_ne (h2.mv q List.mem_cons_self)
  cases ep : p.1 with
  | none =>
    obtain ⟨m, k⟩ := below (p :: ps ++ q :: qs)
    have hm : has m p = true := hold_iff.mpr ⟨(fun a e => by rw [ep] at e; cases e), fun a e => Int.le_of_lt ((k p (by simp)).2 a e)⟩
    refine ⟨m, hm, ?_⟩
    have e1 := tot_head h1.chain hm
    obtain ⟨r, hr, hr1, _⟩ := tot_some (x := m) h2.chain (by rw [← h m, e1]; exact np)
    have er : r.1 = none := by
      cases e : r.1 with
      | none => rfl
      | some a =>
        have z1 := (hold_iff.mp hr1).1 a e
        have z2 := (k r (List.mem_append_right _ hr)).1 a e
        omega
    rw [← low_none h2.chain hr er]
    exact hr1
  | some a =>
    have ha := has_low hp ep
    have e1 := tot_head h1.chain ha
    obtain ⟨r, hr, hr1, _⟩ := tot_some (x := a) h2.chain (by rw [← h a, e1]; exact np)
    cases eq : q.1 with
    | none =>
      obtain ⟨m, k⟩ := below (p :: ps ++ q :: qs)
      have hm : has m q = true := hold_iff.mpr ⟨(fun a e => by rw [eq] at e; cases e), fun a e => Int.le_of_lt ((k q (by simp)).2 a e)⟩
      obtain ⟨r2, hr2, hr3, _⟩ := tot_some (x := m) h1.chain (by rw [h m, tot_head h2.chain hm]; exact nq)
      have z1 := low_le h1.chain hp ep hr2 hr3
      have z2 := (k p (by simp)).1 a ep
      omega
    | some b =>
      have hb := has_low hq eq
      obtain ⟨r2, hr2, hr3, _⟩ := tot_some (x := b) h1.chain (by rw [h b, tot_head h2.chain hb]; exact nq)
      have z1 := low_le h1.chain hp ep hr2 hr3
      have z2 := low_le h2.chain hq eq hr hr1
      have e : a = b := by omega
      subst e
      exact ⟨a, ha, hb⟩
theorem low_eq {p q : Pc} {ps qs : List Pc} (h1 : Nf (p :: ps)) (h2 : Nf (q :: qs)) (h : ∀ x, tot x (p :: ps) = tot x (q :: qs)) {a : Int} (ep : p.1 = some a) : q.1 = some a := by
  have hp := h1.ok p List.mem_cons_self
  have hq := h2.ok q List.mem_cons_self
  have np := mv_ne (h1.mv p List.mem_cons_self)
  have nq := mv_ne (h2.mv q List.mem_cons_self)
  have ha := has_low hp ep
  obtain ⟨r, hr, hr1, _⟩ := tot_some (x := a) h2.chain (by rw [← h a, tot_head h1.chain ha]; exact np)
  cases eq : q.1 with
  | none =>
    obtain ⟨m, k⟩ := below (p :: ps ++ q :: qs)
    have hm : has m q = true := hold_iff.mpr ⟨(fun a e => by rw [eq] at e; cases e), fun a e => Int.le_of_lt ((k q (by simp)).2 a e)⟩
    obtain ⟨r2, hr2, hr3, _⟩ := tot_some (x := m) h1.chain (by rw [h m, tot_head h2.chain hm]; exact nq)
    have z1 := low_le h1.chain hp ep hr2 hr3
    have z2 := (k p (by simp)).1 a ep
    omega
  | some b =>
    have hb := has_low hq eq
    obtain ⟨r2, hr2, hr3, _⟩ := tot_some (x := b) h1.chain (by rw [h b, tot_head h2.chain hb]; exact nq)
    have z1 := low_le h1.chain hp ep hr2 hr3
    have z2 := low_le h2.chain hq eq hr hr1
    rw [show b = a by omega]
theorem high_le {p q : Pc} {ps qs : List Pc} (h1 : Nf (p :: ps)) (h2 : Nf (q :: qs)) (h : ∀ x, tot x (p :: ps) = tot x (q :: qs)) {u : Int} (ep : p.2.1 = some u) : ∃ v, q.2.1 = some v ∧ v ≤ u := by
  obtain ⟨x, hx1, hx2⟩ := first_low h1 h2 h
  have eb : p.2.2 = q.2.2 := by rw [← tot_head h1.chain hx1, ← tot_head h2.chain hx2, h x]
  have np := mv_ne (h1.mv p List.mem_cons_self)
  have hxu := (hold_iff.mp hx1).2 u ep
  refine Classical.byContradiction fun n => ?_
  have hq : has (u + 1) q = true := hold_iff.mpr ⟨fun a e => by have := (hold_iff.mp hx2).1 a e; omega, fun a e => by
    by_cases c : u + 1 ≤ a
    · exact c
    · exact absurd ⟨a, e, by omega⟩ n⟩
  have e1 := tot_head h2.chain hq
  have e2 : tot (u + 1) (p :: ps) = p.2.2 := by rw [h, e1, eb]
  obtain ⟨r, hr, hr1, hr2⟩ := tot_some (x := u + 1) h1.chain (by rw [e2]; exact np)
  rcases List.mem_cons.mp hr with rfl | hr
  · have := (hold_iff.mp hr1).2 u ep
    omega
  · obtain ⟨a1, a2⟩ := (List.pairwise_cons.mp h1.pw).1 r hr
    obtain ⟨u2, l2, e5, e6, e7⟩ := ahead_iff.mp a1
    rw [ep] at e5
    cases e5
    have z := (hold_iff.mp hr1).1 l2 e6
    have : joins p r = true := joins_iff.mpr ⟨by rw [hr2, e2], u, l2, ep, e6, by omega⟩
    rw [a2] at this
    cases this
theorem Nf.tail {p : Pc} {ps : List Pc} (h : Nf (p :: ps)) : Nf ps := ⟨(List.pairwise_cons.mp h.pw).2, fun r hr => h.ok r (List.mem_cons_of_mem _ hr), fun r hr => h.mv r (List.mem_cons_of_mem _ hr)⟩
theorem nf_empty {p : Pc} {ps : List Pc} (h : Nf (p :: ps)) (k : ∀ x, tot x (p :: ps) = 0) : False := by
  have np := mv_ne (h.mv p List.mem_cons_self)
  have hp := h.ok p List.mem_cons_self
  cases e : p.1 with
  | some a => exact np (by rw [← tot_head h.chain (has_low hp e), k])
  | none =>
    obtain ⟨m, z⟩ := below (p :: ps)
    have hm : has m p = true := hold_iff.mpr ⟨(fun a e2 => by rw [e] at e2; cases e2), fun a e => Int.le_of_lt ((z p (by simp)).2 a e)⟩
    exact np (by rw [← tot_head h.chain hm, k])
theorem nf_unique : ∀ {ns ms : List Pc}, Nf ns → Nf ms → (∀ x, tot x ns = tot x ms) → ns = ms
  | [], [], _, _, _ => rfl
  | [], q :: qs, _, h2, h => (nf_empty h2 fun x => (h x).symm).elim
  | p :: ps, [], h1, _, h => (nf_empty h1 fun x => h x).elim
  | p :: ps, q :: qs, h1, h2, h => by
    have hs : ∀ x, tot x (q :: qs) = tot x (p :: ps) := fun x => (h x).symm
    obtain ⟨x, hx1, hx2⟩ := first_low h1 h2 h
    have eb : p.2.2 = q.2.2 := by rw [← tot_head h1.chain hx1, ← tot_head h2.chain hx2, h x]
    have el : p.1 = q.1 := by
      cases e : p.1 with
      | some a => exact (low_eq h1 h2 h e).symm
      | none =>
        cases e2 : q.1 with
        | none => rfl
        | some b =>
          have := low_eq h2 h1 hs e2
          rw [e] at this
          cases this
    have eh : p.2.1 = q.2.1 := by
      cases e : p.2.1 with
      | some u =>
        obtain ⟨v, e2, l1⟩ := high_le h1 h2 h e
        obtain ⟨u2, e3, l2⟩ := high_le h2 h1 hs e2
        rw [e] at e3
        cases e3
        rw [e2, show u = v by omega]
      | none =>
        cases e2 : q.2.1 with
        | none => rfl
        | some v =>
          obtain ⟨u, e3, _⟩ := high_le h2 h1 hs e2
          rw [e] at e3
          cases e3
    have ep : p = q := by
      obtain ⟨a, b, c⟩ := p
      obtain ⟨d, e, f⟩ := q
      cases el
      cases eh
      cases eb
      rfl
    subst ep
    rw [nf_unique h1.tail h2.tail fun x => by
      have := h x
      have e1 : tot x (p :: ps) = part x p + tot x ps := rfl
      have e2 : tot x (p :: qs) = part x p + tot x qs := rfl
      omega]
theorem nf_map {ns ms : List Pc} (h1 : Nf ns) (h2 : Nf ms) (h : ∀ x, mapP ns x = mapP ms x) : ns = ms := nf_unique h1 h2 fun x => by
  have := h x
  rw [map_tot h1.chain, map_tot h2.chain] at this
  omega
/-- the places where what a list moves may change -/
def brk (ps : List Pc) : List Int := ps.flatMap fun q => q.1.toList ++ (q.2.1.map (· + 1)).toList
theorem tot_near {x y : Int} : ∀ {ps : List Pc}, (∀ b ∈ brk ps, b ≤ x ↔ b ≤ y) → tot x ps = tot y ps
  | [], _ => rfl
  | (l, h, b) :: ps, k => by
    have e : has x (l, h, b) = has y (l, h, b) := by
      refine Bool.eq_iff_iff.mpr ?_
      rw [hold_iff, hold_iff]
      have k1 : ∀ a, l = some a → (a ≤ x ↔ a ≤ y) := fun a e => k a (by subst e; simp [brk])
      have k2 : ∀ a, h = some a → (a + 1 ≤ x ↔ a + 1 ≤ y) := fun a e => k (a + 1) (by subst e; simp [brk])
      constructor
      · rintro ⟨q1, q2⟩
        exact ⟨fun a e => (k1 a e).mp (q1 a e), fun a e => by have := k2 a e; have := q2 a e; omega⟩
      · rintro ⟨q1, q2⟩
        exact ⟨fun a e => (k1 a e).mpr (q1 a e), fun a e => by have := k2 a e; have := q2 a e; omega⟩
    show part x (l, h, b) + tot x ps = part y (l, h, b) + tot y ps
    rw [tot_near fun c hc => k c (List.mem_append_right _ hc)]
    unfold part
    rw [e]
theorem near (x : Int) : ∀ L : List Int, (∃ y ∈ L, y ≤ x ∧ ∀ b ∈ L, b ≤ x → b ≤ y) ∨ ∀ b ∈ L, x < b
  | [] => .inr fun _ h => nomatch h
  | c :: L => by
    rcases near x L with ⟨y, h1, h2, h3⟩ | h
    · by_cases k : c ≤ x ∧ y < c
      · refine .inl ⟨c, List.mem_cons_self, k.1, fun b hb hx => ?_⟩
        rcases List.mem_cons.mp hb with rfl | hb
        · exact Int.le_refl _
        · have := h3 b hb hx
          omega
      · refine .inl ⟨y, List.mem_cons_of_mem _ h1, h2, fun b hb hx => ?_⟩
        rcases List.mem_cons.mp hb with rfl | hb
        · omega
        · exact h3 b hb hx
    · by_cases k : c ≤ x
      · refine .inl ⟨c, List.mem_cons_self, k, fun b hb hx => ?_⟩
        rcases List.mem_cons.mp hb with rfl | hb
        · exact Int.le_refl _
        · have := h b hb
          omega
      · refine .inr fun b hb => ?_
        rcases List.mem_cons.mp hb with rfl | hb
        · omega
        · exact h b hb
theorem least : ∀ L : List Int, L = [] ∨ ∃ c ∈ L, ∀ b ∈ L, c ≤ b
  | [] => .inl rfl
  | c :: L => by
    rcases least L with rfl | ⟨d, h1, h2⟩
    · exact .inr ⟨c, List.mem_cons_self, fun b hb => by rw [List.mem_singleton.mp hb]; exact Int.le_refl _⟩
    · by_cases k : c ≤ d
      · refine .inr ⟨c, List.mem_cons_self, fun b hb => ?_⟩
        rcases List.mem_cons.mp hb with rfl | hb
        · exact Int.le_refl _
        · have := h2 b hb; omega
      · refine .inr ⟨d, List.mem_cons_of_mem _ h1, fun b hb => ?_⟩
        rcases List.mem_cons.mp hb with rfl | hb
        · omega
        · exact h2 b hb
/-- a place to ask instead of x -/
theorem ask (x : Int) (L : List Int) : ∃ y, (y ∈ L ∨ y + 1 ∈ L ∨ y = 0) ∧ ∀ b ∈ L, b ≤ x ↔ b ≤ y := by
  rcases near x L with ⟨y, h1, h2, h3⟩ | h
  · exact ⟨y, .inl h1, fun b hb => ⟨h3 b hb, fun z => by omega⟩⟩
  · rcases least L with rfl | ⟨c, h1, h2⟩
    · exact ⟨0, .inr (.inr rfl), fun _ z => nomatch z⟩
    · refine ⟨c - 1, .inr (.inl (by rw [Int.sub_add_cancel]; exact h1)), fun b hb => ?_⟩
      have k1 := h b hb
      have k2 := h2 b hb
      omega
end K04

set_option Elab.async false
set_option maxRecDepth 100000
set_option maxHeartbeats 1000000
/-! The least fault of a slide over 1 to a count. -/
namespace K04
open PySem PySem.Spec PyProof.Rows L2 KX
abbrev Tri := Int × Int × Int
def wrap (t : Tri) : Pc := (some t.1, some t.2.1, t.2.2)
def clip (N : Int) (p : Pc) : Option Pc := if okP (maxL p.1 (some 1)) (minH p.2.1 (some N)) = true then some (maxL p.1 (some 1), minH p.2.1 (some N), p.2.2) else none
def max1 : Option Int → Int
  | none => 1
  | some l => max l 1
inductive Seg : Int → Int → List Tri → Prop
  | nil {a N : Int} (h : N < a) : Seg a N []
  | cons {a h N b : Int} {W : List Tri} (h1 : a ≤ h) (h2 : h ≤ N) (t : Seg (h + 1) N W) : Seg a N ((a, h, b) :: W)
theorem seg_cons {a N l h b : Int} {W : List Tri} (s : Seg a N ((l, h, b) :: W)) : a = l ∧ a ≤ h ∧ h ≤ N ∧ Seg (h + 1) N W := by
  cases s with
  | cons h1 h2 t => exact ⟨rfl, h1, h2, t⟩
theorem seg_far {a N : Int} {W : List Tri} (h : Seg a N W) (k : N < a) : W = [] := by
  cases h with
  | nil _ => rfl
  | cons h1 h2 _ => omega
theorem maxL_1 (l : Option Int) : maxL l (some 1) = some (max1 l) := by
  cases l with
  | none => rfl
  | some a =>
    show (if (1 : Int) > a then some 1 else some a) = some (max a 1)
    by_cases c : (1 : Int) > a
    · rw [if_pos c]; congr 1; omega
    · rw [if_neg c]; congr 1; omega
theorem minH_N (h N : Int) : minH (some h) (some N) = some (min h N) := by
  show (if N < h then some N else some h) = some (min h N)
  by_cases c : N < h
  · rw [if_pos c]; congr 1; omega
  · rw [if_neg c]; congr 1; omega
theorem clip_last (N b : Int) (l : Option Int) : clip N (l, none, b) = if max1 l ≤ N then some (some (max1 l), some N, b) else none := by
  unfold clip
  rw [maxL_1]
  show (if decide (max1 l ≤ N) = true then _ else _) = _
  by_cases c : max1 l ≤ N
  · rw [if_pos (decide_eq_true c), if_pos c]; rfl
  · rw [if_neg (by rw [decide_eq_false c]; decide), if_neg c]
theorem clip_cons (N h b : Int) (l : Option Int) : clip N (l, some h, b) = if max1 l ≤ min h N then some (some (max1 l), some (min h N), b) else none := by
  unfold clip
  rw [maxL_1, minH_N]
  show (if decide (max1 l ≤ min h N) = true then _ else _) = _
  by_cases c : max1 l ≤ min h N
  · rw [if_pos (decide_eq_true c), if_pos c]
  · rw [if_neg (by rw [decide_eq_false c]; decide), if_neg c]
theorem clip_seg {N : Int} {l : Option Int} {ts : List Pc} (h : Tiles l ts) : ∃ W, ts.filterMap (clip N) = W.map wrap ∧ Seg (max1 l) N W := by
  induction h with
  | last l b =>
    rw [List.filterMap_cons, clip_last]
    by_cases c : max1 l ≤ N
    · rw [if_pos c]
      exact ⟨[(max1 l, N, b)], rfl, .cons c (Int.le_refl _) (.nil (by omega))⟩
    · rw [if_neg c]
      exact ⟨[], rfl, .nil (by omega)⟩
  | @cons l h b rest ok t ih =>
    obtain ⟨W, e, sg⟩ := ih
    have hl : ∀ a, l = some a → a ≤ h := fun a e => okPc_le (p := (l, some h, b)) ok e rfl
    have m1 : max1 (some (h + 1)) = max (h + 1) 1 := rfl
    have m0 : max1 l = 1 ∨ ∃ a, l = some a ∧ max1 l = a ∧ 1 ≤ a := by
      cases l with
      | none => exact .inl rfl
      | some a =>
        show max a 1 = 1 ∨ _
        by_cases c : a ≤ 1
        · exact .inl (by omega)
        · exact .inr ⟨a, rfl, by show max a 1 = a; omega, by omega⟩
    have m2 : max1 l ≤ h ∨ (h < 1 ∧ max1 l = 1) := by
      rcases m0 with m0 | ⟨a, e, m0, _⟩
      · by_cases c : h < 1
        · exact .inr ⟨c, m0⟩
        · exact .inl (by omega)
      · exact .inl (by have := hl a e; omega)
    rw [List.filterMap_cons, clip_cons]
    by_cases c : max1 l ≤ min h N
    · rw [if_pos c, e]
      refine ⟨(max1 l, min h N, b) :: W, rfl, .cons c (by omega) ?_⟩
      by_cases d : h ≤ N
      · have e9 : min h N + 1 = max1 (some (h + 1)) := by
          rw [m1]
          have : 1 ≤ max1 l := by
            rcases m0 with m0 | ⟨a, _, m0, k⟩
            · omega
            · rw [m0]
              exact k
          clear m0 m2 hl
          omega
        rw [e9]
        exact sg
      · have := seg_far sg (by omega)
        subst this
        exact .nil (by omega)
    · rw [if_neg c, e]
      refine ⟨W, rfl, ?_⟩
      rcases m2 with m2 | ⟨m2, m3⟩
      · have := seg_far sg (by omega)
        subst this
        exact .nil (by omega)
      · have e8 : max1 l = max1 (some (h + 1)) := by
          clear m0
          rw [m1]
          omega
        rw [e8]
        exact sg
/-- the runs of a slide within 1 to N, and what they move -/
structure Wr (f : Int → Int) (a N : Int) (W : List Tri) : Prop where
  seg : Seg a N W
  mv : ∀ s ∈ W, ∀ x, s.1 ≤ x → x ≤ s.2.1 → f x = x + s.2.2
theorem within_wr {ns : List Pc} (n : Nf ns) (N : Int) : ∃ W, (runs none ns).filterMap (clip N) = W.map wrap ∧ Wr (mapP ns) 1 N W := by
  have ht := runs_tiles ns none n.chain n.ok (fit_none _)
  obtain ⟨W, e, sg⟩ := clip_seg (N := N) ht
  refine ⟨W, e, sg, fun s hs x h1 h2 => ?_⟩
  have hm : wrap s ∈ (runs none ns).filterMap (clip N) := by rw [e]; exact List.mem_map_of_mem hs
  obtain ⟨r, hr, k⟩ := List.mem_filterMap.mp hm
  unfold clip at k
  by_cases c : okP (maxL r.1 (some 1)) (minH r.2.1 (some N)) = true
  · rw [if_pos c] at k
    obtain ⟨sl, sh, sb⟩ := s
    have k := Option.some.inj k
    have k1 : maxL r.1 (some 1) = some sl := congrArg (·.1) k
    have k2 : minH r.2.1 (some N) = some sh := congrArg (·.2.1) k
    have k3 : r.2.2 = sb := congrArg (·.2.2) k
    have hx : has x r = true := hold_iff.mpr ⟨fun a ea => ((maxL_iff (l := r.1) (s := some 1) (y := x)).mp fun b eb => by rw [k1] at eb; cases eb; exact h1).1 a ea, fun a ea => ((minH_iff (h := r.2.1) (e := some N) (y := x)).mp fun b eb => by rw [k2] at eb; cases eb; exact h2).1 a ea⟩
    rw [map_tot n.chain, ← runs_tot ns none n.chain, tot_mem (tiles_ok ht).1 hr hx, k3]
  · rw [if_neg c] at k
    cases k
theorem Wr.tail {f : Int → Int} {a h N b : Int} {W : List Tri} (w : Wr f a N ((a, h, b) :: W)) : Wr f (h + 1) N W := by
  cases w.seg with
  | cons h1 h2 t => exact ⟨t, fun s hs => w.mv s (List.mem_cons_of_mem _ hs)⟩
structure Least (P : Int → Prop) (a N p : Int) : Prop where
  lo : a ≤ p
  hi : p ≤ N
  is : P p
  no : ∀ x, a ≤ x → x < p → ¬ P x
theorem Least.one {P : Int → Prop} {a N p q : Int} (h : Least P a N p) (k : Least P a N q) : p = q := by
  by_cases c : p < q
  · exact absurd h.is (k.no p h.lo c)
  · by_cases d : q < p
    · exact absurd k.is (h.no q k.lo d)
    · omega
def lowF : List Tri → Option Int
  | [] => none
  | (l, _, b) :: W => if l + b < 1 then some l else lowF W
def highF (N : Int) : List Tri → Option Int
  | [] => none
  | (l, h, b) :: W => if h + b > N then some (max l (N - b + 1)) else highF N W
theorem low_spec {f : Int → Int} {N : Int} : ∀ {W : List Tri} {a : Int}, Wr f a N W → (∀ p, lowF W = some p → Least (fun x => f x < 1) a N p) ∧ (lowF W = none → ∀ x, a ≤ x → x ≤ N → ¬ f x < 1)
  | [], a, w => ⟨fun p h => (nomatch h), fun _ x h1 h2 => by cases w.seg; omega⟩
  | (l, h, b) :: W, a, w => by
    obtain ⟨rfl, h1, h2, t⟩ := seg_cons w.seg
    have m : ∀ x, a ≤ x → x ≤ h → f x = x + b := w.mv (a, h, b) List.mem_cons_self
    obtain ⟨i1, i2⟩ := low_spec w.tail
    unfold lowF
    by_cases c : a + b < 1
    · rw [if_pos c]
      refine ⟨fun p e => ?_, fun e => nomatch e⟩
      cases e
      exact ⟨Int.le_refl _, by omega, by show f a < 1; rw [m a (Int.le_refl _) h1]; exact c, fun x x1 x2 => by omega⟩
    · rw [if_neg c]
      have here : ∀ x, a ≤ x → x ≤ h → ¬ f x < 1 := fun x x1 x2 => by rw [m x x1 x2]; show ¬ x + b < 1; omega
      refine ⟨fun p e => ?_, fun e x x1 x2 => ?_⟩
      · have q := i1 p e
        exact ⟨by have := q.lo; omega, q.hi, q.is, fun x x1 x2 => if d : x ≤ h then here x x1 d else q.no x (by omega) x2⟩
      · exact if d : x ≤ h then here x x1 d else i2 e x (by omega) x2
theorem high_spec {f : Int → Int} {N : Int} : ∀ {W : List Tri} {a : Int}, Wr f a N W → (∀ p, highF N W = some p → Least (fun x => N < f x) a N p) ∧ (highF N W = none → ∀ x, a ≤ x → x ≤ N → ¬ N < f x)
  | [], a, w => ⟨fun p h => (nomatch h), fun _ x h1 h2 => by cases w.seg; omega⟩
  | (l, h, b) :: W, a, w => by
    obtain ⟨rfl, h1, h2, t⟩ := seg_cons w.seg
    have m : ∀ x, a ≤ x → x ≤ h → f x = x + b := w.mv (a, h, b) List.mem_cons_self
    obtain ⟨i1, i2⟩ := high_spec w.tail
    unfold highF
    by_cases c : h + b > N
    · rw [if_pos c]
      refine ⟨fun p e => ?_, fun e => nomatch e⟩
      cases e
      have e1 : a ≤ max a (N - b + 1) := by omega
      have e2 : max a (N - b + 1) ≤ h := by omega
      exact ⟨e1, by omega, by show N < f _; rw [m _ e1 e2]; show N < max a (N - b + 1) + b; omega, fun x x1 x2 => by rw [m x x1 (by omega)]; show ¬ N < x + b; omega⟩
    · rw [if_neg c]
      have here : ∀ x, a ≤ x → x ≤ h → ¬ N < f x := fun x x1 x2 => by rw [m x x1 x2]; show ¬ N < x + b; omega
      refine ⟨fun p e => ?_, fun e x x1 x2 => ?_⟩
      · have q := i1 p e
        exact ⟨by have := q.lo; omega, q.hi, q.is, fun x x1 x2 => if d : x ≤ h then here x x1 d else q.no x (by omega) x2⟩
      · exact if d : x ≤ h then here x x1 d else i2 e x (by omega) x2
/-! doubles -/
def comI (r o : Tri) : Bool := decide (r.1 + r.2.2 ≤ o.2.1 + o.2.2) && decide (o.1 + o.2.2 ≤ r.2.1 + r.2.2)
def dblI (r o : Tri) : Int × Int := (max (r.1 + r.2.2) (o.1 + o.2.2) - o.2.2, max (r.1 + r.2.2) (o.1 + o.2.2) - r.2.2)
def fndI (A : List Tri) (r : Tri) : List (Int × Int) := (A.filter fun e => comI e r).map fun e => dblI e r
def lexMin (x : Int × Int) (xs : List (Int × Int)) : Int × Int := xs.foldl (fun a y => if SrtO.lexB y a = true then y else a) x
theorem lexMin_is : ∀ (xs : List (Int × Int)) (x : Int × Int), lexMin x xs ∈ x :: xs ∧ ∀ y ∈ x :: xs, (lexMin x xs).1 ≤ y.1
  | [], x => ⟨List.mem_cons_self, fun y hy => by rw [List.mem_singleton.mp hy]; exact Int.le_refl _⟩
  | z :: xs, x => by
    obtain ⟨h1, h2⟩ := lexMin_is xs (if SrtO.lexB z x = true then z else x)
    have hd : lexMin x (z :: xs) = lexMin (if SrtO.lexB z x = true then z else x) xs := rfl
    rw [hd]
    have hx : (if SrtO.lexB z x = true then z else x).1 ≤ x.1 ∧ (if SrtO.lexB z x = true then z else x).1 ≤ z.1 := by
      cases c : SrtO.lexB z x with
      | true =>
        have := SrtO.lexB_iff.mp c
        rw [if_pos rfl]
        omega
      | false =>
        have := SrtO.lexB_no.mp c
        rw [if_neg (by decide)]
        omega
    have h0 := h2 _ List.mem_cons_self
    refine ⟨?_, fun y hy => ?_⟩
    · rcases List.mem_cons.mp h1 with e | e
      · rw [e]
        split
        · exact List.mem_cons_of_mem _ List.mem_cons_self
        · exact List.mem_cons_self
      · exact List.mem_cons_of_mem _ (List.mem_cons_of_mem _ e)
    · rcases List.mem_cons.mp hy with rfl | hy
      · omega
      · rcases List.mem_cons.mp hy with rfl | hy
        · omega
        · exact h2 y (List.mem_cons_of_mem _ hy)
def dblF : List Tri → List Tri → Option (Int × Int)
  | _, [] => none
  | A, r :: B => match fndI A r with
    | [] => dblF (A ++ [r]) B
    | x :: xs => some ((lexMin x xs).2, (lexMin x xs).1)
/-- q comes to where a lesser one comes to -/
def IsDbl (f : Int → Int) (q : Int) : Prop := ∃ p, 1 ≤ p ∧ p < q ∧ f p = f q
theorem com_iff {f : Int → Int} {r o : Tri} (hr : ∀ x, r.1 ≤ x → x ≤ r.2.1 → f x = x + r.2.2) (ho : ∀ x, o.1 ≤ x → x ≤ o.2.1 → f x = x + o.2.2) (kr : r.1 ≤ r.2.1) (ko : o.1 ≤ o.2.1) :
    (comI r o = true → r.1 ≤ (dblI r o).2 ∧ (dblI r o).2 ≤ r.2.1 ∧ o.1 ≤ (dblI r o).1 ∧ (dblI r o).1 ≤ o.2.1 ∧ f (dblI r o).2 = f (dblI r o).1) ∧
    ∀ p q, r.1 ≤ p → p ≤ r.2.1 → o.1 ≤ q → q ≤ o.2.1 → f p = f q → comI r o = true ∧ (dblI r o).1 ≤ q := by
  obtain ⟨rl, rh, rb⟩ := r
  obtain ⟨ol, oh, ob⟩ := o
  dsimp only at hr ho kr ko
  refine ⟨fun h => ?_, fun p q p1 p2 q1 q2 e => ?_⟩
  · obtain ⟨h1, h2⟩ := Bool.and_eq_true_iff.mp h
    have h1 := of_decide_eq_true h1
    have h2 := of_decide_eq_true h2
    dsimp only at h1 h2
    show rl ≤ max (rl + rb) (ol + ob) - rb ∧ max (rl + rb) (ol + ob) - rb ≤ rh ∧ ol ≤ max (rl + rb) (ol + ob) - ob ∧ max (rl + rb) (ol + ob) - ob ≤ oh ∧ f (max (rl + rb) (ol + ob) - rb) = f (max (rl + rb) (ol + ob) - ob)
    refine ⟨by omega, by omega, by omega, by omega, ?_⟩
    rw [hr _ (by omega) (by omega), ho _ (by omega) (by omega)]
    omega
  · dsimp only at p1 p2 q1 q2
    rw [hr p p1 p2, ho q q1 q2] at e
    refine ⟨Bool.and_eq_true_iff.mpr ⟨decide_eq_true (by dsimp only; omega), decide_eq_true (by dsimp only; omega)⟩, ?_⟩
    show max (rl + rb) (ol + ob) - ob ≤ q
    omega
/-- segments from a to N: each place lies in one; earlier ones lie ahead -/
theorem seg_mem {N : Int} : ∀ {W : List Tri} {a x : Int}, Seg a N W → a ≤ x → x ≤ N → ∃ s ∈ W, s.1 ≤ x ∧ x ≤ s.2.1
  | [], a, x, h, h1, h2 => by cases h; omega
  | (l, h, b) :: W, a, x, sg, x1, x2 => by
    obtain ⟨rfl, h1, h2, t⟩ := seg_cons sg
    by_cases c : x ≤ h
    · exact ⟨_, List.mem_cons_self, x1, c⟩
    · obtain ⟨s, hs, k⟩ := seg_mem t (by omega) x2
      exact ⟨s, List.mem_cons_of_mem _ hs, k⟩
theorem seg_lo {N : Int} : ∀ {W : List Tri} {a : Int}, Seg a N W → ∀ s ∈ W, a ≤ s.1 ∧ s.1 ≤ s.2.1 ∧ s.2.1 ≤ N
  | [], _, _, s, hs => nomatch hs
  | (l, h, b) :: W, a, sg, s, hs => by
    obtain ⟨rfl, h1, h2, t⟩ := seg_cons sg
    rcases List.mem_cons.mp hs with rfl | hs
    · exact ⟨Int.le_refl _, h1, h2⟩
    · have := seg_lo t s hs
      exact ⟨by omega, this.2.1, this.2.2⟩
/-- earlier runs A lie in 1 to a - 1, and no q below a is a double -/
theorem dbl_spec {f : Int → Int} {N : Int} : ∀ {W A : List Tri} {a : Int}, Wr f a N W → (∀ s ∈ A, 1 ≤ s.1 ∧ s.1 ≤ s.2.1 ∧ s.2.1 < a ∧ ∀ x, s.1 ≤ x → x ≤ s.2.1 → f x = x + s.2.2) → (∀ x, 1 ≤ x → x < a → ∃ s ∈ A, s.1 ≤ x ∧ x ≤ s.2.1) → 1 ≤ a → (∀ q, q < a → ¬ IsDbl f q) →
    (∀ p q, dblF A W = some (p, q) → Least (IsDbl f) 1 N q ∧ 1 ≤ p ∧ p < q ∧ f p = f q) ∧ (dblF A W = none → ∀ q, q ≤ N → ¬ IsDbl f q)
  | [], A, a, w, hA, hc, h1, hn => ⟨fun _ _ e => (nomatch e), fun _ q hq => hn q (by cases w.seg; omega)⟩
  | (l, h, b) :: W, A, a, w, hA, hc, ha, hn => by
    obtain ⟨rfl, g1, g2, t⟩ := seg_cons w.seg
    have m : ∀ x, a ≤ x → x ≤ h → f x = x + b := w.mv (a, h, b) List.mem_cons_self
    have wt := w.tail
    have cm : ∀ e ∈ A, _ := fun e he => com_iff (f := f) (r := e) (o := (a, h, b)) (hA e he).2.2.2 m (hA e he).2.1 g1
    -- a double in this run is found
    have here : ∀ q, a ≤ q → q ≤ h → IsDbl f q → ∃ z ∈ fndI A (a, h, b), z.1 ≤ q := by
      rintro q q1 q2 ⟨p, p1, p2, pe⟩
      by_cases c : p < a
      · obtain ⟨e, he, e1, e2⟩ := hc p p1 c
        obtain ⟨k1, k2⟩ := (cm e he).2 p q e1 e2 q1 q2 pe
        exact ⟨_, List.mem_map.mpr ⟨e, List.mem_filter.mpr ⟨he, k1⟩, rfl⟩, k2⟩
      · rw [m p (by omega) (by omega), m q q1 q2] at pe
        omega
    unfold dblF
    cases hf : fndI A (a, h, b) with
    | nil =>
      have no : ∀ q, q < h + 1 → ¬ IsDbl f q := fun q hq hd => by
        by_cases c : q < a
        · exact hn q c hd
        · obtain ⟨z, hz, _⟩ := here q (by omega) (by omega) hd
          rw [hf] at hz
          cases hz
      refine dbl_spec wt (fun s hs => ?_) (fun x x1 x2 => ?_) (by omega) no
      · rcases List.mem_append.mp hs with hs | hs
        · obtain ⟨k1, k2, k3, k4⟩ := hA s hs
          exact ⟨k1, k2, by omega, k4⟩
        · rw [List.mem_singleton.mp hs]
          exact ⟨ha, g1, by show h < h + 1; omega, m⟩
      · by_cases c : x < a
        · obtain ⟨s, hs, k⟩ := hc x x1 c
          exact ⟨s, List.mem_append_left _ hs, k⟩
        · exact ⟨_, List.mem_append_right _ (List.mem_singleton_self _), by show a ≤ x; omega, by show x ≤ h; omega⟩
    | cons x xs =>
      refine ⟨fun p q e => ?_, fun e => nomatch e⟩
      obtain ⟨z1, z2⟩ := lexMin_is xs x
      have e := Option.some.inj e
      have ep : (lexMin x xs).2 = p := congrArg (·.1) e
      have eq : (lexMin x xs).1 = q := congrArg (·.2) e
      rw [← hf] at z1 z2
      obtain ⟨r, hr, k⟩ := List.mem_map.mp z1
      obtain ⟨hr, kc⟩ := List.mem_filter.mp hr
      obtain ⟨r1, r2, r3, r4⟩ := hA r hr
      obtain ⟨c1, c2, c3, c4, c5⟩ := (cm r hr).1 kc
      rw [k, ep] at c1 c2
      rw [k, eq] at c3 c4
      rw [k, ep, eq] at c5
      dsimp only at c3 c4
      refine ⟨⟨by omega, by omega, ⟨p, by omega, by omega, c5⟩, fun y y1 y2 hd => ?_⟩, by omega, by omega, c5⟩
      by_cases c : y < a
      · exact hn y c hd
      · obtain ⟨z, hz, hzq⟩ := here y (by omega) (by omega) hd
        have := z2 z hz
        omega
inductive Flt
  | no
  | low (p : Int)
  | high (p : Int)
  | dbl (p q : Int)
/-- the first fault there is -/
inductive FIs (f : Int → Int) (N : Int) : Flt → Prop
  | low {p : Int} (h : Least (fun x => f x < 1) 1 N p) : FIs f N (.low p)
  | high {p : Int} (h0 : ∀ x, 1 ≤ x → x ≤ N → ¬ f x < 1) (h : Least (fun x => N < f x) 1 N p) : FIs f N (.high p)
  | dbl {p q : Int} (h0 : ∀ x, 1 ≤ x → x ≤ N → ¬ f x < 1) (h1 : ∀ x, 1 ≤ x → x ≤ N → ¬ N < f x) (h : Least (IsDbl f) 1 N q) (p1 : 1 ≤ p) (p2 : p < q) (e : f p = f q) : FIs f N (.dbl p q)
  | no (h0 : ∀ x, 1 ≤ x → x ≤ N → ¬ f x < 1) (h1 : ∀ x, 1 ≤ x → x ≤ N → ¬ N < f x) (h : ∀ q, q ≤ N → ¬ IsDbl f q) : FIs f N .no
theorem FIs.one {f : Int → Int} {N : Int} {x y : Flt} (h : FIs f N x) (k : FIs f N y) : x = y := by
  cases h with
  | low h =>
    cases k with
    | low k => rw [h.one k]
    | high k0 _ => exact absurd h.is (k0 _ h.lo h.hi)
    | dbl k0 _ _ _ _ _ => exact absurd h.is (k0 _ h.lo h.hi)
    | no k0 _ _ => exact absurd h.is (k0 _ h.lo h.hi)
  | high h0 h =>
    cases k with
    | low k => exact absurd k.is (h0 _ k.lo k.hi)
    | high k0 k => rw [h.one k]
    | dbl _ k1 _ _ _ _ => exact absurd h.is (k1 _ h.lo h.hi)
    | no _ k1 _ => exact absurd h.is (k1 _ h.lo h.hi)
  | @dbl p q h0 h1 h p1 p2 e =>
    cases k with
    | low k => exact absurd k.is (h0 _ k.lo k.hi)
    | high k0 k => exact absurd k.is (h1 _ k.lo k.hi)
    | @dbl p' q' _ _ k r1 r2 e' =>
      have eq := h.one k
      subst eq
      by_cases c : p = p'
      · rw [c]
      · exfalso
        by_cases d : p < p'
        · exact h.no p' (by omega) (by omega) ⟨p, p1, d, by rw [e, e']⟩
        · exact h.no p (by omega) (by omega) ⟨p', r1, by omega, by rw [e, e']⟩
    | no _ _ k2 => exact absurd h.is (k2 _ h.hi)
  | no h0 h1 h =>
    cases k with
    | low k => exact absurd k.is (h0 _ k.lo k.hi)
    | high k0 k => exact absurd k.is (h1 _ k.lo k.hi)
    | dbl _ _ k _ _ _ => exact absurd k.is (h _ k.hi)
    | no _ _ _ => rfl
def firstF (N : Int) (W : List Tri) : Flt := match lowF W with
  | some p => .low p
  | none => match highF N W with
    | some p => .high p
    | none => match dblF [] W with
      | some (p, q) => .dbl p q
      | none => .no
theorem first_is {f : Int → Int} {N : Int} {W : List Tri} (w : Wr f 1 N W) : FIs f N (firstF N W) := by
  obtain ⟨l1, l2⟩ := low_spec w
  obtain ⟨g1, g2⟩ := high_spec w
  obtain ⟨d1, d2⟩ := dbl_spec (A := []) w (fun _ h => nomatch h) (fun x h1 h2 => by omega) (Int.le_refl _) (fun q hq hd => by obtain ⟨p, p1, p2, _⟩ := hd; omega)
  unfold firstF
  cases e1 : lowF W with
  | some p => exact .low (l1 p e1)
  | none =>
    cases e2 : highF N W with
    | some p => exact .high (l2 e1) (g1 p e2)
    | none =>
      cases e3 : dblF [] W with
      | some z =>
        obtain ⟨p, q⟩ := z
        obtain ⟨k, p1, p2, pe⟩ := d1 p q e3
        exact .dbl (l2 e1) (g2 e2) k p1 p2 pe
      | none => exact .no (l2 e1) (g2 e2) (d2 e3)
end K04

set_option Elab.async false
set_option maxRecDepth 100000
set_option maxHeartbeats 1000000
/-! The candidates are enough. -/
namespace K04
open PySem PySem.Spec PyProof.Rows L2 KX
def bysL (ps : List Pc) : List Int := 0 :: ps.map (·.2.2)
def stL (ps : List Pc) : List Int := 1 :: brk ps
def candL (ps : List Pc) (N : Int) : List Int := stL ps ++ (bysL ps).map (fun b => N - b + 1) ++ (stL ps).flatMap fun s => (bysL ps).flatMap fun b => (bysL ps).map fun o => s + b - o
theorem tot_bys {ps : List Pc} (hc : Chain ps) (x : Int) : tot x ps ∈ bysL ps := by
  by_cases c : tot x ps = 0
  · rw [c]
    exact List.mem_cons_self
  · obtain ⟨q, hq, _, e⟩ := tot_some hc c
    exact List.mem_cons_of_mem _ (List.mem_map.mpr ⟨q, hq, e⟩)
theorem tot_pred {ps : List Pc} {p : Int} (h : p ∉ brk ps) : tot (p - 1) ps = tot p ps := tot_near fun b hb => ⟨fun z => by omega, fun z => by
  by_cases c : b = p
  · rw [c] at hb
    exact absurd hb h
  · omega⟩
open Classical in
theorem least_of {P : Int → Prop} {a N : Int} : ∀ (k : Nat) (x : Int), x = a + k → x ≤ N → P x → ∃ p, Least P a N p ∧ p ≤ x := by
  intro k
  induction k using Nat.strongRecOn with
  | ind k ih =>
    intro x e hx hp
    by_cases c : ∃ y, a ≤ y ∧ y < x ∧ P y
    · obtain ⟨y, y1, y2, y3⟩ := c
      obtain ⟨p, h1, h2⟩ := ih (y - a).toNat (by omega) y (by omega) (by omega) y3
      exact ⟨p, h1, by omega⟩
    · exact ⟨x, ⟨by omega, hx, hp, fun y y1 y2 y3 => c ⟨y, y1, y2, y3⟩⟩, Int.le_refl _⟩
theorem least_ex {P : Int → Prop} {a N x : Int} (h1 : a ≤ x) (h2 : x ≤ N) (h : P x) : ∃ p, Least P a N p ∧ p ≤ x := least_of (x - a).toNat x (by omega) h2 h
section
variable {ps : List Pc} {N : Int} (hc : Chain ps)
include hc
theorem map_pred {p : Int} (h : p ∉ brk ps) : mapP ps (p - 1) = mapP ps p - 1 := by
  rw [map_tot hc, map_tot hc, tot_pred h]
  omega
theorem can_low {p : Int} (h : Least (fun x => mapP ps x < 1) 1 N p) : p ∈ candL ps N := by
  refine List.mem_append_left _ (List.mem_append_left _ ?_)
  by_cases c : p ∈ brk ps
  · exact List.mem_cons_of_mem _ c
  · by_cases d : p = 1
    · rw [d]; exact List.mem_cons_self
    · have := h.lo
      have k := h.is
      exact absurd (show mapP ps (p - 1) < 1 by rw [map_pred hc c]; omega) (h.no (p - 1) (by omega) (by omega))
theorem can_high {p : Int} (h : Least (fun x => N < mapP ps x) 1 N p) : p ∈ candL ps N := by
  by_cases c : p ∈ stL ps
  · exact List.mem_append_left _ (List.mem_append_left _ c)
  · have c1 : p ≠ 1 := fun z => c (by rw [z]; exact List.mem_cons_self)
    have c2 : p ∉ brk ps := fun z => c (List.mem_cons_of_mem _ z)
    have := h.lo
    have k := h.is
    have n := h.no (p - 1) (by omega) (by omega)

    rw [map_pred hc c2] at n
    refine List.mem_append_left _ (List.mem_append_right _ (List.mem_map.mpr ⟨_, tot_bys hc p, ?_⟩))
    have e := map_tot (x := p) hc
    omega
theorem can_dbl {q : Int} (h : Least (IsDbl (mapP ps)) 1 N q) : q ∈ candL ps N := by
  obtain ⟨p, p1, p2, e⟩ := h.is
  by_cases c : q ∈ stL ps
  · exact List.mem_append_left _ (List.mem_append_left _ c)
  · have c2 : q ∉ brk ps := fun z => c (List.mem_cons_of_mem _ z)
    have s : p ∈ stL ps := by
      by_cases d : p ∈ brk ps
      · exact List.mem_cons_of_mem _ d
      · by_cases d1 : p = 1
        · rw [d1]; exact List.mem_cons_self
        · exact absurd ⟨p - 1, by omega, by omega, by rw [map_pred hc d, map_pred hc c2, e]⟩ (h.no (q - 1) (by omega) (by omega))
    refine List.mem_append_right _ (List.mem_flatMap.mpr ⟨p, s, List.mem_flatMap.mpr ⟨_, tot_bys hc p, List.mem_map.mpr ⟨_, tot_bys hc q, ?_⟩⟩⟩)
    rw [map_tot hc, map_tot hc] at e
    omega
end
/-- what the law tells over sorted candidates -/
def dblAt (ps : List Pc) (q b : Int) : Bool := (decide (1 ≤ mapP ps q - b) && decide (mapP ps q - b < q)) && decide (mapP ps (mapP ps q - b) = mapP ps q)
def dblL (ps : List Pc) (q : Int) : Option Int := (bysL ps).find? (dblAt ps q)
def lawF (ps : List Pc) (N : Int) (C : List Int) : Flt := match C.find? fun p => decide (mapP ps p < 1) with
  | some p => .low p
  | none => match C.find? fun p => decide (mapP ps p > N) with
    | some p => .high p
    | none => match C.find? fun q => (dblL ps q).isSome with
      | some q => .dbl (mapP ps q - (dblL ps q).getD 0) q
      | none => .no
structure Cand (ps : List Pc) (N : Int) (C : List Int) : Prop where
  srt : C.Pairwise (· ≤ ·)
  mem : ∀ x, x ∈ C ↔ x ∈ candL ps N ∧ 1 ≤ x ∧ x ≤ N
theorem find_least {P : Int → Bool} : ∀ {C : List Int} {p : Int}, C.Pairwise (· ≤ ·) → C.find? P = some p → p ∈ C ∧ P p = true ∧ ∀ x ∈ C, x < p → P x = false
  | c :: C, p, hs, h => by
    obtain ⟨h1, h2⟩ := List.pairwise_cons.mp hs
    rw [List.find?_cons] at h
    cases e : P c with
    | true =>
      rw [e] at h
      cases h
      refine ⟨List.mem_cons_self, e, fun x hx k => ?_⟩
      rcases List.mem_cons.mp hx with rfl | hx
      · omega
      · have := h1 x hx
        omega
    | false =>
      rw [e] at h
      obtain ⟨k1, k2, k3⟩ := find_least h2 h
      refine ⟨List.mem_cons_of_mem _ k1, k2, fun x hx k => ?_⟩
      rcases List.mem_cons.mp hx with rfl | hx
      · exact e
      · exact k3 x hx k
theorem dbl_some {ps : List Pc} (hc : Chain ps) {q : Int} : (dblL ps q).isSome = true ↔ IsDbl (mapP ps) q := by
  unfold dblL
  rw [List.find?_isSome]
  constructor
  · rintro ⟨b, hb, k⟩
    obtain ⟨k1, k2⟩ := Bool.and_eq_true_iff.mp k
    obtain ⟨k3, k4⟩ := Bool.and_eq_true_iff.mp k1
    exact ⟨_, of_decide_eq_true k3, of_decide_eq_true k4, of_decide_eq_true k2⟩
  · rintro ⟨p, p1, p2, e⟩
    refine ⟨tot p ps, tot_bys hc p, ?_⟩
    have e2 : mapP ps q - tot p ps = p := by rw [← e, map_tot hc]; omega
    unfold dblAt
    rw [e2, decide_eq_true p1, decide_eq_true p2, decide_eq_true e]
    rfl
theorem law_is {ps : List Pc} (hc : Chain ps) {N : Int} {C : List Int} (k : Cand ps N C) : FIs (mapP ps) N (lawF ps N C) := by
  -- what the candidates do not show there is not
  have none_of : ∀ {P : Int → Bool}, C.find? P = none → (∀ p, Least (fun x => P x = true) 1 N p → p ∈ candL ps N) → ∀ x, 1 ≤ x → x ≤ N → P x = false := by
    intro P h hl x x1 x2
    cases e : P x with
    | false => rfl
    | true =>
      obtain ⟨p, hp, _⟩ := least_ex (P := fun x => P x = true) x1 x2 e
      exact absurd hp.is (List.find?_eq_none.mp h p ((k.mem p).mpr ⟨hl p hp, hp.lo, hp.hi⟩))
  have least_some : ∀ {P : Int → Bool} {p : Int}, C.find? P = some p → (∀ p, Least (fun x => P x = true) 1 N p → p ∈ candL ps N) → Least (fun x => P x = true) 1 N p := by
    intro P p h hl
    obtain ⟨h1, h2, h3⟩ := find_least k.srt h
    obtain ⟨_, a1, a2⟩ := (k.mem p).mp h1
    refine ⟨a1, a2, h2, fun x x1 x2 hx => ?_⟩
    obtain ⟨y, hy, hyx⟩ := least_ex (P := fun x => P x = true) (N := N) x1 (by omega) hx
    have := h3 y ((k.mem y).mpr ⟨hl y hy, hy.lo, hy.hi⟩) (by omega)
    rw [hy.is] at this
    cases this
  have cv : ∀ {P Q : Int → Prop} {p : Int}, (∀ x, P x ↔ Q x) → Least P 1 N p → Least Q 1 N p := fun e h => ⟨h.lo, h.hi, (e _).mp h.is, fun x x1 x2 z => h.no x x1 x2 ((e x).mpr z)⟩
  have dI : ∀ x : Int, (fun x => decide (mapP ps x < 1) = true) x ↔ mapP ps x < 1 := fun x => decide_eq_true_iff
  have gI : ∀ x : Int, (fun x => decide (mapP ps x > N) = true) x ↔ N < mapP ps x := fun x => decide_eq_true_iff
  unfold lawF
  cases e1 : C.find? fun p => decide (mapP ps p < 1) with
  | some p => exact .low (cv dI (least_some e1 fun p hp => can_low hc (cv dI hp)))
  | none =>
    have n1 := none_of e1 fun p hp => can_low hc (cv dI hp)
    have n1' : ∀ x, 1 ≤ x → x ≤ N → ¬ mapP ps x < 1 := fun x x1 x2 => of_decide_eq_false (n1 x x1 x2)
    cases e2 : C.find? fun p => decide (mapP ps p > N) with
    | some p => exact .high n1' (cv gI (least_some e2 fun p hp => can_high hc (cv gI hp)))
    | none =>
      have n2 := none_of e2 fun p hp => can_high hc (cv gI hp)
      have n2' : ∀ x, 1 ≤ x → x ≤ N → ¬ N < mapP ps x := fun x x1 x2 => of_decide_eq_false (n2 x x1 x2)
      cases e3 : C.find? fun q => (dblL ps q).isSome with
      | some q =>
        have hl := cv (fun x => dbl_some hc) (least_some e3 fun p hp => can_dbl hc (cv (fun x => dbl_some hc) hp))
        obtain ⟨b, hb⟩ := Option.isSome_iff_exists.mp ((dbl_some hc).mpr hl.is)
        have hk := List.find?_some (show (bysL ps).find? (dblAt ps q) = some b from hb)
        obtain ⟨k1, k2⟩ := Bool.and_eq_true_iff.mp hk
        obtain ⟨k3, k4⟩ := Bool.and_eq_true_iff.mp k1
        show FIs _ _ (.dbl (mapP ps q - (dblL ps q).getD 0) q)
        rw [hb]
        exact .dbl n1' n2' hl (of_decide_eq_true k3) (of_decide_eq_true k4) (of_decide_eq_true k2)
      | none =>
        have n3 := none_of e3 fun p hp => can_dbl hc (cv (fun x => dbl_some hc) hp)
        refine .no n1' n2' fun q hq hd => ?_
        obtain ⟨p, p1, p2, _⟩ := hd
        have := n3 q (by omega) hq
        rw [(dbl_some hc).mpr ⟨p, p1, p2, by assumption⟩] at this
        cases this
theorem pigeon : ∀ (n : Nat) (g : Nat → Nat), (∀ x y, x < n → y < n → g x = g y → x = y) → (∀ x, x < n → g x < n) → ∀ y, y < n → ∃ x, x < n ∧ g x = y := by
  intro n
  induction n with
  | zero => exact fun _ _ _ y hy => absurd hy (Nat.not_lt_zero _)
  | succ n ih =>
    intro g inj into y hy
    by_cases c : g n = n
    · have i2 : ∀ x, x < n → g x < n := fun x hx => by
        have h1 := into x (by omega)
        have h2 : g x ≠ n := fun z => by
          have := inj x n (by omega) (by omega) (by rw [z, c])
          omega
        omega
      by_cases d : y = n
      · exact ⟨n, by omega, by rw [d, c]⟩
      · obtain ⟨x, h1, h2⟩ := ih g (fun x y hx hy => inj x y (by omega) (by omega)) i2 y (by omega)
        exact ⟨x, by omega, h2⟩
    · have hm : g n < n := by have := into n (by omega); omega
      have key := ih (fun x => if g x = n then g n else g x) (fun x y hx hy e => by

        by_cases e1 : g x = n
        · by_cases e2 : g y = n
          · exact inj x y (by omega) (by omega) (by rw [e1, e2])
          · rw [if_pos e1, if_neg e2] at e
            have := inj n y (by omega) (by omega) e
            omega
        · by_cases e2 : g y = n
          · rw [if_neg e1, if_pos e2] at e
            have := inj x n (by omega) (by omega) e
            omega
          · rw [if_neg e1, if_neg e2] at e
            exact inj x y (by omega) (by omega) e) (fun x hx => by

        by_cases e1 : g x = n
        · rw [if_pos e1]
          exact hm
        · rw [if_neg e1]
          have := into x (by omega)
          omega)
      by_cases d : y = n
      · obtain ⟨x, h1, h2⟩ := key (g n) hm

        by_cases e1 : g x = n
        · exact ⟨x, by omega, by rw [d, e1]⟩
        · rw [if_neg e1] at h2
          have := inj x n (by omega) (by omega) h2
          omega
      · obtain ⟨x, h1, h2⟩ := key y (by omega)

        by_cases e1 : g x = n
        · rw [if_pos e1] at h2
          exact ⟨n, by omega, h2⟩
        · rw [if_neg e1] at h2
          exact ⟨x, by omega, h2⟩
theorem onto {ps : List Pc} {N : Int} (h : FIs (mapP ps) N .no) {q : Int} (q1 : 1 ≤ q) (q2 : q ≤ N) : ∃ x, 1 ≤ x ∧ x ≤ N ∧ mapP ps x = q := by
  cases h with
  | no h0 h1 h2 =>
    have b : ∀ x : Nat, x < N.toNat → 1 ≤ mapP ps (x + 1) ∧ mapP ps (x + 1) ≤ N := fun x hx => by
      have a0 := h0 (x + 1) (by omega) (by omega)
      have a1 := h1 (x + 1) (by omega) (by omega)
      omega
    obtain ⟨x, x1, x2⟩ := pigeon N.toNat (fun x => (mapP ps ((x : Int) + 1) - 1).toNat) (fun x y hx hy e => by
      have := b x hx
      have := b y hy

      by_cases c : x < y
      · exact absurd ⟨(x : Int) + 1, by omega, by omega, by omega⟩ (h2 ((y : Int) + 1) (by omega))
      · by_cases d : y < x
        · exact absurd ⟨(y : Int) + 1, by omega, by omega, by omega⟩ (h2 ((x : Int) + 1) (by omega))
        · omega) (fun x hx => by have := b x hx; omega) (q - 1).toNat (by omega)
    have := b x x1

    exact ⟨(x : Int) + 1, by omega, by omega, by omega⟩
theorem image_of {ps : List Pc} (hc : Chain ps) {N q : Int} (h : FIs (mapP ps) N .no) (q1 : 1 ≤ q) (q2 : q ≤ N) : ∃ b ∈ bysL ps, 1 ≤ q - b ∧ q - b ≤ N ∧ mapP ps (q - b) = q := by
  obtain ⟨x, x1, x2, x3⟩ := onto h q1 q2
  refine ⟨tot x ps, tot_bys hc x, ?_⟩
  have e : q - tot x ps = x := by rw [← x3, map_tot hc]; omega
  rw [e]
  exact ⟨x1, x2, x3⟩
end K04

set_option Elab.async false
set_option maxRecDepth 100000
set_option maxHeartbeats 1000000
namespace K04
open PySem PySem.Spec PyProof.Rows L2 He KX
abbrev sHolds : Stmt := top 15
abbrev sCall : Stmt := inClass (top 7) 1
abbrev sEq : Stmt := inClass (top 7) 5
abbrev MtP (K : PySem.W.Frag) (x q : Str) (st : Stmt) (f : Addr) (fd : FuncData) : Prop := FunD K x q (defArgs st) (defBody st) (defScope st) [] [] f fd
def spHolds : Sp := fun vs H Q _ => ∃ (l h : Option Int) (p : Int), vs = [endV l, endV h, .int p] ∧ Q (.bl (hold l h p)) H
def spCall (K : PySem.W.Frag) : Sp := fun vs H Q _ => ∃ (s : Addr) (rs : List Pc) (p : Int), vs = [.ref s, .int p] ∧ SlAt K H s rs ∧ Q (.int (mapP rs p)) H
def spEq (K : PySem.W.Frag) : Sp := fun vs H Q _ => ∃ (s : Addr) (rs : List Pc) (y : V), vs = [.ref s, y] ∧ SlAt K H s rs ∧ ((∃ s2 rs2, y = .ref s2 ∧ SlAt K H s2 rs2 ∧ Q (.bl (decide (rs = rs2))) H) ∨ ((∃ a xs, y = .ref a ∧ Sq K H a xs) ∧ Q (.bl false) H))
def absL (rs : List Pc) : List Int := rs.map fun q => if q.2.2 < 0 then -q.2.2 else q.2.2
def am (ns : List Int) : Int := match ns with | [] => 0 | n :: r => r.foldl max n
def spAbs (K : PySem.W.Frag) : Sp := fun vs H Q _ => ∃ (s : Addr) (rs : List Pc), vs = [.ref s] ∧ SlAt K H s rs ∧ rs.length ≤ 1000 ∧ ∀ H', Same H H' → Q (.int (am (absL rs))) H'
def spLen (K : PySem.W.Frag) : Sp := fun vs H Q _ => ∃ (s : Addr) (rs : List Pc), vs = [.ref s] ∧ SlAt K H s rs ∧ Q (.int (rs.length : Nat)) H
def spBool (K : PySem.W.Frag) : Sp := fun vs H Q _ => ∃ (s : Addr) (rs : List Pc), vs = [.ref s] ∧ SlAt K H s rs ∧ Q (.bl (!rs.isEmpty)) H
def spCont (K : PySem.W.Frag) : Sp := fun vs H Q _ => ∃ (s : Addr) (rs : List Pc) (x : V) (t : String), vs = [.ref s, x] ∧ SlAt K H s rs ∧ rs.length ≤ 1000 ∧ Kd K H x t ∧ ∀ H', Same H H' → Q (.bl (match x with | .int i => rs.any (has i) | _ => false)) H'
theorem yes {b : Bool} {A B : Prop} (h : b = true) (a : A) : if b = true then A else B := by rw [if_pos h]; exact a
theorem no {b : Bool} {A B : Prop} (h : b = false) (a : B) : if b = true then A else B := by rw [if_neg (by rw [h]; decide)]; exact a
theorem end_eqv (l m : Option Int) : PyData.eqv (endD l) (endD m) = decide (l = m) := by
  cases l with
  | none => cases m <;> first | rfl | (unfold endD; rw [decide_eq_false (fun h => nomatch h)]; rfl)
  | some a =>
    cases m with
    | none => unfold endD; rw [decide_eq_false (fun h => nomatch h)]; rfl
    | some b =>
      show decide (a = b) = _
      by_cases c : a = b
      · rw [decide_eq_true c, decide_eq_true (by rw [c])]
      · rw [decide_eq_false c, decide_eq_false fun h => c (Option.some.inj h)]
theorem piece_eqv (p q : Pc) : PyData.eqv (pieceD p) (pieceD q) = decide (p = q) := by
  obtain ⟨a, b, c⟩ := p
  obtain ⟨d, e, f⟩ := q
  show (PyData.eqv (endD a) (endD d) && (PyData.eqv (endD b) (endD e) && (decide (c = f) && true))) = _
  rw [end_eqv, end_eqv]
  by_cases h1 : a = d <;> by_cases h2 : b = e <;> by_cases h3 : c = f <;> simp [h1, h2, h3]
theorem pieces_eqv : ∀ ps qs : List Pc, PyData.eqv (.tuple (ps.map pieceD)) (.tuple (qs.map pieceD)) = decide (ps = qs)
  | [], [] => rfl
  | [], _ :: _ => rfl
  | _ :: _, [] => rfl
  | p :: ps, q :: qs => by
    have ih := pieces_eqv ps qs
    show (PyData.eqv (pieceD p) (pieceD q) && PyData.eqv (.tuple (ps.map pieceD)) (.tuple (qs.map pieceD))) = _
    rw [ih, piece_eqv]
    by_cases h1 : p = q <;> by_cases h2 : ps = qs <;> simp [h1, h2]
/-- what the written part says of Slide -/
structure Sld1 (K : PySem.W.Frag) : Prop where
  made : Mk K (ga K "Slide") (ma K (ga K "Slide") "__init__")
  cls : Cls K (ga K "Slide")
  noat : NoAttr K (ga K "Slide") "pieces"
  mth : ∀ m ∈ meths, Meth K (ga K "Slide") m (ma K (ga K "Slide") m)
  fi : PySem.W.fnIn K (ma K (ga K "Slide") "__call__") = true
  k1 : PySem.W.kitOne K (.ref (ga K "Slide")) (.ref (ga K "Slide")) = some true
  k2 : PySem.W.kitOne K (.type "list") (.ref (ga K "Slide")) = some false
  k3 : PySem.W.kitOne K (.type "tuple") (.ref (ga K "Slide")) = some false
  n1 : PySem.W.notFirst K (ga K "Slide") (.ref (ga K "Slide")) = true
  n2 : PySem.W.notFirst K (ga K "Slide") (.type "list") = true
  n3 : PySem.W.notFirst K (ga K "Slide") (.type "tuple") = true
  c1 : PySem.W.findIn K (.ref (ga K "Slide")) "__class__" = some (some (.builtin "object.__class__"))
  c2 : PySem.W.mroIn K (ga K "Slide") (.type "object") = some true
  c3 : PySem.W.specialIn K (.builtin "object.__class__") "__get__" = some (some (.builtin "getset_descriptor.__get__"))
  c4 : PySem.W.takesIn K (.builtin "object.__class__") = some true
  o1 : PySem.W.selfFirst K (ga K "Slide") = true
  o2 : PySem.W.findIn K (.ref (ga K "Slide")) (PySem.dunder "rshift") = some (some (.ref (ma K (ga K "Slide") "__rshift__")))
  o3 : PySem.W.findIn K (.ref (ga K "Slide")) (PySem.dunder "add") = some (some (.ref (ma K (ga K "Slide") "__add__")))
  o4 : PySem.W.findIn K (.ref (ga K "Slide")) (PySem.dunderR "add") = some (some (.ref (ma K (ga K "Slide") "__radd__")))
  o5 : PySem.W.findIn K (.ref (ga K "Slide")) "__ne__" = some (some (.builtin "object.__ne__"))
  o6 : PySem.W.findIn K (.type "int") (PySem.dunder "add") = some (some (.builtin "int.__add__"))
  o7 : PySem.W.findIn K (.type "int") (PySem.dunderR "add") = some (some (.builtin "int.__radd__"))
  o8 : PySem.W.subIn K (.ref (ga K "Slide")) (.type "int") = some false
  o9 : PySem.W.subIn K (.type "int") (.ref (ga K "Slide")) = some false
  k4 : PySem.W.kitOne K (.ref (ga K "Slide")) (.type "list") = some false
theorem sld_of {K : PySem.W.Frag} (h : sldB K = true) : Sld1 K := by
  unfold sldB at h
  obtain ⟨h1, h⟩ := ba h
  obtain ⟨h2, h⟩ := ba h
  obtain ⟨h3, h⟩ := ba h
  obtain ⟨h4, h⟩ := ba h
  obtain ⟨h5, h⟩ := ba h
  obtain ⟨h6, h⟩ := ba h
  obtain ⟨h7, h⟩ := ba h
  obtain ⟨h8, h⟩ := ba h
  obtain ⟨h9, h⟩ := ba h
  obtain ⟨h10, h⟩ := ba h
  obtain ⟨h11, h⟩ := ba h
  obtain ⟨h12, h⟩ := ba h
  obtain ⟨h13, h⟩ := ba h
  obtain ⟨h14, h⟩ := ba h
  obtain ⟨h15, h⟩ := ba h
  obtain ⟨h16, h⟩ := ba h
  obtain ⟨h17, h⟩ := ba h
  obtain ⟨h18, h⟩ := ba h
  obtain ⟨h19, h⟩ := ba h
  obtain ⟨h20, h⟩ := ba h
  obtain ⟨h21, h⟩ := ba h
  obtain ⟨h22, h⟩ := ba h
  obtain ⟨h23, h⟩ := ba h
  obtain ⟨h24, h25⟩ := ba h
  exact ⟨mkr_ok h1, cls_ok h2, noat_ok h3, fun m hm => meth_ok (List.all_eq_true.mp h4 m hm), h5, of_decide_eq_true h6, of_decide_eq_true h7, of_decide_eq_true h8, h9, h10, h11, eqO_ok h12, of_decide_eq_true h13, eqO_ok h14, of_decide_eq_true h15, h16, eqO_ok h17, eqO_ok h18, eqO_ok h19, eqO_ok h20, eqO_ok h21, eqO_ok h22, of_decide_eq_true h23, of_decide_eq_true h24, of_decide_eq_true h25⟩
theorem sl_ty {K : PySem.W.Frag} (S : Sld1 K) {H : Hp} {s : Addr} {rs : List Pc} (h : SlAt K H s rs) : TyX K H (.ref s) (.ref (ga K "Slide")) := by
  obtain ⟨dx, tz, zs, hs, _⟩ := h
  exact .base (.ins hs S.cls S.c1 S.c3 S.c4 S.c2)
theorem pcs_at {H : Hp} {zs : List V} {ps : List Pc} {i : Nat} {x : V} (h : Pcs H zs ps) (e : zs[i]? = some x) : ∃ p, ps[i]? = some p ∧ IsPc H x p := by
  induction h generalizing i with
  | nil => cases e
  | cons h t ih =>
    cases i with
    | zero => cases e; exact ⟨_, rfl, h⟩
    | succ i => exact ih e
theorem byP_none {ps : List Pc} {x : Int} {i : Nat} {p : Pc} (h : byP ps x = byP (ps.drop i) x) (e : ps[i]? = some p) (n : has x p = false) : byP ps x = byP (ps.drop (i + 1)) x := by
  rw [h, drop_at e]
  unfold byP
  rw [List.find?_cons, n]
theorem byP_some {ps : List Pc} {x : Int} {i : Nat} {p : Pc} (h : byP ps x = byP (ps.drop i) x) (e : ps[i]? = some p) (n : has x p = true) : byP ps x = some p.2.2 := by
  rw [h, drop_at e]
  unfold byP
  rw [List.find?_cons, n]
  rfl
section
variable {P : Program} {w : World} {K : PySem.W.Frag} {mg : Str → Option Value} {base : Heap}
theorem scHolds : FnScope ["low", "high", "p"] ["low", "high", "p"] (defScope sHolds) := ⟨rfl, rfl, rfl, by decide +kernel, rfl, by decide +kernel, by decide +kernel⟩
theorem ok_holds {f : Addr} {fd : FuncData} (F : FnP K "_holds" sHolds f fd) : FnOk P w K mg base CX0 1 f fd ["low", "high", "p"] spHolds := by
  refine F.ok scHolds (fun vs H Q E h => ?_) (fun cdv A outer s H vs Q E hr h => ?_)
  · obtain ⟨l, h, p, rfl, _⟩ := h
    rfl
  · obtain ⟨l, h, p, rfl, k⟩ := h
    refine ⟨_, PSs.nox (pss_one (ps_ret (pe_and (pe_or (pe_cmpR op_isN (pv 0) pe_non (nomark _)) (pe_one (pe_cmpR op_le (pv 0) (pv 2) (nomark _)))) (pe_one (pe_or (pe_cmpR op_isN (pv 1) pe_non (nomark _)) (pe_one (pe_cmpR op_le (pv 2) (pv 1) (nomark _)))))))), ?_⟩
    cases l with
    | none =>
      cases h with
      | none => exact ⟨_, rfl, rfl, _, rfl, yes rfl ⟨_, rfl, yes rfl ⟨_, rfl, rfl, _, rfl, yes rfl k⟩⟩⟩
      | some b => exact ⟨_, rfl, rfl, _, rfl, yes rfl ⟨_, rfl, yes rfl ⟨_, rfl, rfl, _, rfl, no rfl ⟨_, rfl, _, rfl, _, _, rfl, rfl, k⟩⟩⟩⟩
    | some a =>
      refine ⟨_, rfl, rfl, _, rfl, no rfl ⟨_, rfl, _, rfl, _, _, rfl, rfl, _, rfl, ite2' (fun c => ?_) (fun c => ?_)⟩⟩
      · have e : hold (some a) h p = hold none h p := by
          show (decide (a ≤ p) && _) = (true && _)
          rw [show decide (a ≤ p) = true from c]
        rw [e] at k
        cases h with
        | none => exact ⟨_, rfl, rfl, _, rfl, yes rfl k⟩
        | some b => exact ⟨_, rfl, rfl, _, rfl, no rfl ⟨_, rfl, _, rfl, _, _, rfl, rfl, k⟩⟩
      · have e : hold (some a) h p = false := by
          show (decide (a ≤ p) && _) = false
          rw [show decide (a ≤ p) = false from c]
          rfl
        rw [e] at k
        exact k
theorem scCall : FnScope ["self", "p", "low", "high", "by"] ["self", "p"] (defScope sCall) := ⟨rfl, rfl, rfl, by decide +kernel, rfl, by decide +kernel, by decide +kernel⟩
theorem ok_call {f fH : Addr} {fd fdH : FuncData} (F : MtP K "__call__" "Slide.__call__" sCall f fd) (GH : FnOk P w K mg base CX0 1 fH fdH ["low", "high", "p"] spHolds) (bH : Binds K fdH ["low", "high", "p"] []) (kH : PySem.W.keepIn K (.ref fH) = true) (gH : mg "_holds" = some (.ref fH))
    (cS : Cls K (ga K "Slide")) (nS : NoAttr K (ga K "Slide") "pieces") : FnOk P w K mg base CX0 2 f fd ["self", "p"] (spCall K) := by
  refine F.ok scCall (fun vs H Q E h => ?_) (fun cdv A outer s H vs Q E hr h => ?_)
  · obtain ⟨s, rs, p, rfl, _⟩ := h
    rfl
  · obtain ⟨s, rs, p, rfl, ⟨dx, tz, zs, hs, hz, hP⟩, k⟩ := h
    have nd := scCall.nd
    refine ⟨_, PSs.nox (pss_cons (ps_for PassesOwn.never rfl (pi_tup (pe_fld (pv 0) rfl)) (pg_tup rfl (pgs_cons (pg_name (i := 2) nd rfl (Or.inl rfl)) (pgs_cons (pg_name (i := 3) nd rfl (Or.inl rfl)) (pgs_cons (pg_name (i := 4) nd rfl (Or.inl rfl)) pgs_nil))))
(pss_one (ps_if (pt_val (pe_call GH hr (by rfl) gH kH bH .nil pass0 (pa_cons (pv 2) (pa_cons (pv 3) (pa_cons (pv 1) pa_nil)))))
(pss_one (ps_ret (pe_op op_add (pv 1) (pv 4))))
pss_nil)))
(pss_one (ps_ret (pv 1)))), ?_⟩
    refine ⟨_, rfl, s, _, dx, _, _, rfl, hs, cS, nS, rfl, tz, rfl, ⟨zs, SqT.of hz⟩, ?_⟩
    refine for_it (walk_tup (K := K) (a := tz) (xs := zs)) (fun i σ G => ∃ y2 y3 y4, σ = [some (.ref s), some (.int p), y2, y3, y4] ∧ G = H ∧ byP rs p = byP (rs.drop i) p)
      ⟨none, none, none, rfl, rfl, rfl⟩ (fun i σ G _ h => by obtain ⟨_, _, _, _, e, _⟩ := h; rw [e]; exact SqT.of hz) ?_ ?_
    · rintro i x σ G G' hi ⟨y2, y3, y4, rfl, rfl, hb⟩ ⟨rfl, hx⟩
      obtain ⟨q, hq, hpq⟩ := pcs_at hP hx
      obtain ⟨ql, qh, qb⟩ := q
      obtain ⟨a, rfl, ha⟩ := hpq
      refine ⟨_, _, rfl, SqT.of ha, rfl, ⟨_, _, rfl, ⟨_, _, rfl, ⟨_, _, rfl, ⟨rfl, ?_⟩⟩⟩⟩⟩
      refine ⟨_, rfl, _, rfl, _, rfl, ql, qh, p, rfl, _, rfl, ite2' (fun c => ?_) (fun c => ?_)⟩
      · refine ⟨_, rfl, _, rfl, _, _, rfl, rfl, ?_⟩
        have e := byP_some hb hq c
        unfold mapP at k
        rw [e] at k
        exact k
      · exact ⟨_, _, _, rfl, rfl, byP_none hb hq c⟩
    · rintro σ G ⟨y2, y3, y4, rfl, rfl, hb⟩
      rw [Paired.length hP, List.drop_length] at hb
      refine ⟨_, rfl, ?_⟩
      unfold mapP at k
      rw [hb] at k
      have e : p + (byP [] p).getD 0 = p := by
        show p + 0 = p
        omega
      rw [e] at k
      exact k
theorem scEq : FnScope ["self", "other"] ["self", "other"] (defScope sEq) := ⟨rfl, rfl, rfl, by decide +kernel, rfl, by decide +kernel, by decide +kernel⟩
theorem ok_eq {f : Addr} {fd : FuncData} (F : MtP K "__eq__" "Slide.__eq__" sEq f fd) (S : Sld1 K) (gS : mg "Slide" = some (.ref (ga K "Slide"))) (n_isinstance : mg "isinstance" = none) : FnOk P w K mg base CX0 2 f fd ["self", "other"] (spEq K) := by
  refine F.ok scEq (fun vs H Q E h => ?_) (fun cdv A outer s H vs Q E hr h => ?_)
  · obtain ⟨s, rs, y, rfl, _⟩ := h
    rfl
  · obtain ⟨s, rs, y, rfl, ⟨dx, tz, zs, hs, hz, hP⟩, h⟩ := h
    have nd := scEq.nd
    have cS := S.cls
    have nS := S.noat
    have hu := hr.units
    refine ⟨_, PSs.nox (pss_one (ps_ret (pe_and (pe_callB call_isi (by rfl) n_isinstance (by decide +kernel) (pa_cons (pv 1) (pa_cons (pe_glob (v := .ref (ga K "Slide")) rfl gS rfl) pa_nil))) (pe_one (pe_cmpR (op_eqD hu) (pe_fld (pv 0) rfl) (pe_fld (pv 1) rfl) (nomark _)))))), ?_⟩
    rcases h with ⟨s2, rs2, rfl, ⟨dx2, tz2, zs2, hs2, hz2, hP2⟩, k⟩ | ⟨⟨a, xs, rfl, h⟩, k⟩
    · refine ⟨_, rfl, _, _, _, _, _, rfl, .own _, sl_ty S ⟨dx2, tz2, zs2, hs2, hz2, hP2⟩, S.k1, _, rfl, ?_⟩
      refine ⟨_, rfl, s, _, dx, _, _, rfl, hs, cS, nS, rfl, _, rfl, s2, _, dx2, _, _, rfl, hs2, cS, nS, rfl, ?_⟩
      have sh : SeqAt.shaped (.tuple (rs.map pieceD)) = true := pieces_shaped rs
      have sh2 : SeqAt.shaped (.tuple (rs2.map pieceD)) = true := pieces_shaped rs2
      refine ⟨_, _, .tup (SqT.of hz) (pcs_dp hP), .tup (SqT.of hz2) (pcs_dp hP2), sh, sh2, ?_⟩
      rw [show PyData.eqv (.tuple (rs.map pieceD)) (.tuple (rs2.map pieceD)) = decide (rs = rs2) from pieces_eqv rs rs2]
      exact k
    · rcases h with h | h
      · exact ⟨_, rfl, _, _, _, _, _, rfl, .own _, (Kd.lst h).ty, S.k2, _, rfl, k⟩
      · exact ⟨_, rfl, _, _, _, _, _, rfl, .own _, (Kd.tup h).ty, S.k3, _, rfl, k⟩
end
end K04

set_option Elab.async false
set_option maxRecDepth 100000
set_option maxHeartbeats 1000000
namespace K04
open PySem PySem.Spec PyProof.Rows L2 He KX
abbrev sBy : Stmt := top 32
abbrev sTo : Stmt := top 33
abbrev sEnds : Stmt := top 34
def byV : Option Int → V
  | none => .non
  | some i => .int i
def spBy (K : PySem.W.Frag) : Sp := fun vs H Q _ => ∃ (l : Addr) (zs : List V) (ps : List Pc) (p : Int), vs = [.ref l, .int p] ∧ SqL K H l zs ∧ Pcs H zs ps ∧ Q (byV (byP ps p)) H
def spTo (K : PySem.W.Frag) : Sp := fun vs H Q _ => ∃ (l : Addr) (zs : List V) (ps : List Pc) (p : Int), vs = [.ref l, .int p] ∧ SqL K H l zs ∧ Pcs H zs ps ∧ Q (.int (mapP ps p)) H
def tri : Option Int → List Int
  | none => []
  | some e => [e - 1, e, e + 1]
def endsL (ps : List Pc) : List Int := 0 :: ps.flatMap fun p => tri p.1 ++ tri p.2.1
def spEnds (K : PySem.W.Frag) : Sp := fun vs H Q _ => ∃ (l : Addr) (zs : List V) (ps : List Pc), vs = [.ref l] ∧ Sq K H l zs ∧ Pcs H zs ps ∧ zs.length ≤ 100000 ∧ ∀ F H', Same H H' → H' F = some (.lst ((endsL ps).map V.int)) → H F = none → Q (.ref F) H'
section
variable {P : Program} {w : World} {K : PySem.W.Frag} {mg : Str → Option Value} {base : Heap}
theorem scBy : FnScope ["pieces", "p", "low", "high", "by"] ["pieces", "p"] (defScope sBy) := ⟨rfl, rfl, rfl, by decide +kernel, rfl, by decide +kernel, by decide +kernel⟩
theorem ok_by {f : Addr} {fd : FuncData} (F : FnP K "_law_by" sBy f fd) : FnOk P w K mg base CX0 1 f fd ["pieces", "p"] (spBy K) := by
  refine F.ok scBy (fun vs H Q E h => ?_) (fun cdv A outer s H vs Q E hr h => ?_)
  · obtain ⟨l, zs, ps, p, rfl, _⟩ := h
    rfl
  · obtain ⟨l, zs, rs, p, rfl, hz, hP, k⟩ := h
    have nd := scBy.nd
    refine ⟨_, PSs.nox (pss_cons (ps_for PassesOwn.never rfl (pi_list (pv 0)) (pg_tup rfl (pgs_cons (pg_name (i := 2) nd rfl (Or.inl rfl)) (pgs_cons (pg_name (i := 3) nd rfl (Or.inl rfl)) (pgs_cons (pg_name (i := 4) nd rfl (Or.inl rfl)) pgs_nil))))
(pss_one (ps_if (PW.pt (pw_and (PW.pt (pw_or (pt_cmpR op_isN (pv 2) pe_non (nomark _)) (pw_or1 (pt_cmpR op_le (pv 2) (pv 1) (nomark _))))) (pw_and1 (PW.pt (pw_or (pt_cmpR op_isN (pv 3) pe_non (nomark _)) (pw_or1 (pt_cmpR op_le (pv 1) (pv 3) (nomark _))))))))
(pss_one (ps_ret (pv 4)))
pss_nil)))
(pss_one (ps_ret pe_non))), ?_⟩
    refine ⟨_, rfl, l, rfl, ⟨zs, hz⟩, ?_⟩
    refine for_it (walk_list (K := K) (a := l) (xs := zs)) (fun i σ G => ∃ y2 y3 y4, σ = [some (.ref l), some (.int p), y2, y3, y4] ∧ G = H ∧ byP rs p = byP (rs.drop i) p)
      ⟨none, none, none, rfl, rfl, rfl⟩ (fun i σ G _ h => by obtain ⟨_, _, _, _, e, _⟩ := h; rw [e]; exact hz) ?_ ?_
    · rintro i x σ G G' hi ⟨y2, y3, y4, rfl, rfl, hb⟩ ⟨rfl, hx⟩
      obtain ⟨q, hq, hpq⟩ := pcs_at hP hx
      obtain ⟨ql, qh, qb⟩ := q
      obtain ⟨a, rfl, ha⟩ := hpq
      refine ⟨_, _, rfl, SqT.of ha, rfl, ⟨_, _, rfl, ⟨_, _, rfl, ⟨_, _, rfl, ⟨rfl, ?_⟩⟩⟩⟩⟩
      have yesK : has p (ql, qh, qb) = true → byP rs p = some qb := fun c => byP_some hb hq c
      have noK : has p (ql, qh, qb) = false → byP rs p = byP (rs.drop (i + 1)) p := fun c => byP_none hb hq c
      have fin : ∀ c : Bool, c = has p (ql, qh, qb) → (if c = true then (∃ v, ([some (.ref l), some (.int p), some (endV ql), some (endV qh), some (.int qb)] : L2.St)[4]? = some (some v) ∧ Q v G') else ∃ y2 y3 y4, ([some (.ref l), some (.int p), some (endV ql), some (endV qh), some (.int qb)] : L2.St) = [some (.ref l), some (.int p), y2, y3, y4] ∧ G' = G' ∧ byP rs p = byP (rs.drop (i + 1)) p) := by
        intro c hc
        refine ite2' (fun c1 => ⟨_, rfl, ?_⟩) (fun c1 => ⟨_, _, _, rfl, rfl, noK (hc.symm.trans c1)⟩)
        have e := yesK (hc.symm.trans c1)
        rw [e] at k
        exact k
      cases ql with
      | none =>
        cases qh with
        | none => exact ⟨_, rfl, rfl, _, rfl, yes rfl (yes rfl ⟨_, rfl, rfl, _, rfl, yes rfl (fin _ rfl)⟩)⟩
        | some b => exact ⟨_, rfl, rfl, _, rfl, yes rfl (yes rfl ⟨_, rfl, rfl, _, rfl, no rfl ⟨_, rfl, _, rfl, _, _, rfl, rfl, _, rfl, fin _ rfl⟩⟩)⟩
      | some a =>
        refine ⟨_, rfl, rfl, _, rfl, no rfl ⟨_, rfl, _, rfl, _, _, rfl, rfl, _, rfl, ite2' (fun c => ?_) (fun c => ?_)⟩⟩
        · have e : has p (some a, qh, qb) = hold none qh p := by
            show (decide (a ≤ p) && _) = (true && _)
            rw [show decide (a ≤ p) = true from c]
          rw [e] at fin
          cases qh with
          | none => exact ⟨_, rfl, rfl, _, rfl, yes rfl (fin _ rfl)⟩
          | some b => exact ⟨_, rfl, rfl, _, rfl, no rfl ⟨_, rfl, _, rfl, _, _, rfl, rfl, _, rfl, fin _ rfl⟩⟩
        · have e : has p (some a, qh, qb) = false := by
            show (decide (a ≤ p) && _) = false
            rw [show decide (a ≤ p) = false from c]
            rfl
          exact fin _ e.symm
    · rintro σ G ⟨y2, y3, y4, rfl, rfl, hb⟩
      rw [Paired.length hP, List.drop_length] at hb
      rw [hb] at k
      exact k
theorem scTo : FnScope ["pieces", "p", "by"] ["pieces", "p"] (defScope sTo) := ⟨rfl, rfl, rfl, by decide +kernel, rfl, by decide +kernel, by decide +kernel⟩
theorem ok_to {f fY : Addr} {fd fdY : FuncData} (F : FnP K "_law_to" sTo f fd) (GY : FnOk P w K mg base CX0 1 fY fdY ["pieces", "p"] (spBy K)) (bY : Binds K fdY ["pieces", "p"] []) (kY : PySem.W.keepIn K (.ref fY) = true) (gY : mg "_law_by" = some (.ref fY)) : FnOk P w K mg base CX0 2 f fd ["pieces", "p"] (spTo K) := by
  refine F.ok scTo (fun vs H Q E h => ?_) (fun cdv A outer s H vs Q E hr h => ?_)
  · obtain ⟨l, zs, ps, p, rfl, _⟩ := h
    rfl
  · obtain ⟨l, zs, rs, p, rfl, hz, hP, k⟩ := h
    have nd := scTo.nd
    refine ⟨_, PSs.nox (pss_cons (ps_set (i := 2) nd rfl (Or.inl rfl) (pe_call GY hr (by rfl) gY kY bY .nil pass0 (pa_cons (pv 0) (pa_cons (pv 1) pa_nil))))
(pss_one (ps_ret (pe_ifExp (pt_cmpR op_isN (pv 2) pe_non (nomark _)) (pv 1) (pe_op op_add (pv 1) (pv 2)))))), ?_⟩
    refine ⟨_, rfl, _, rfl, l, zs, rs, p, rfl, hz, hP, ?_⟩
    unfold mapP at k
    cases e : byP rs p with
    | none =>
      rw [e] at k
      refine ⟨_, rfl, rfl, _, rfl, yes rfl ⟨_, rfl, ?_⟩⟩
      have e2 : p + (none : Option Int).getD 0 = p := by
        show p + 0 = p
        omega
      rw [e2] at k
      exact k
    | some b =>
      rw [e] at k
      exact ⟨_, rfl, rfl, _, rfl, no rfl ⟨_, rfl, _, rfl, _, _, rfl, rfl, k⟩⟩
theorem scEnds : FnScope ["pieces", "found", "piece", "end"] ["pieces"] (defScope sEnds) := ⟨rfl, rfl, rfl, by decide +kernel, rfl, by decide +kernel, by decide +kernel⟩
theorem ok_ends {f : Addr} {fd : FuncData} (F : FnP K "_law_ends" sEnds f fd) : FnOk P w K mg base CX0 1 f fd ["pieces"] (spEnds K) := by
  refine F.ok scEnds (fun vs H Q E h => ?_) (fun cdv A outer s H vs Q E hr h => ?_)
  · obtain ⟨l, zs, ps, rfl, _⟩ := h
    rfl
  · obtain ⟨l, zs, rs, rfl, hz, hP, hl, k⟩ := h
    have nd := scEnds.nd
    refine ⟨_, PSs.nox (pss_cons (ps_set (i := 1) nd rfl (Or.inl rfl) (pe_lst (pa_cons pe_int pa_nil)))
(pss_cons (ps_for PassesOwn.never rfl (pi_seq (pv 0)) (pg_name (i := 2) nd rfl (Or.inl rfl))
(pss_one (ps_for PassesOwn.never rfl (pi_tup (pe_slice sl_tupA (pv 2) po_none (po_some pe_int))) (pg_name (i := 3) nd rfl (Or.inl rfl))
(pss_one (ps_if (pt_cmpR op_notN (pv 3) pe_non (nomark _))
(pss_one (ps_set (i := 1) nd rfl (Or.inl rfl) (pe_op op_cat (pv 1) (pe_lst (pa_cons (pe_op op_sub (pv 3) pe_int) (pa_cons (pv 3) (pa_cons (pe_op op_add (pv 3) pe_int) pa_nil)))))))
pss_nil)))))
(pss_one (ps_ret (pv 1))))), ?_⟩
    refine ⟨(by show 1 ≤ sizeLine; decide), fun F0 nF => ?_⟩
    have s0 := same_put (o := .lst [.int 0]) nF
    have f0 : upd H F0 (.lst [.int 0]) F0 = some (.lst [.int 0]) := upd_same
    generalize upd H F0 (.lst [.int 0]) = H1 at s0 f0
    refine ⟨_, rfl, l, zs, rfl, hz.same s0, fun J wk => ?_⟩
    refine for_it wk (fun i σ G => Same H1 G ∧ ∃ F1 ms y2 y3, σ = [some (.ref l), some (.ref F1), y2, y3] ∧ Same H G ∧ G F1 = some (.lst (ms.map V.int)) ∧ ms.length ≤ 1 + 6 * i ∧ ms = endsL (rs.take i) ∧ H F1 = none)
      ⟨Same.refl _, F0, [0], none, none, rfl, s0, f0, (by show 1 ≤ 1 + 6 * 0; decide), rfl, nF⟩ (fun i σ G _ h => h.1) ?_ ?_
    · rintro i x σ G G' hi ⟨sH1, F1, ms, y2, y3, rfl, sG, hF1, hml, hme, hnF⟩ ⟨rfl, hx⟩
      obtain ⟨q, hq, hpq⟩ := pcs_at hP hx
      obtain ⟨ql, qh, qb⟩ := q
      obtain ⟨a, rfl, ha⟩ := hpq.same sG
      refine ⟨_, rfl, _, rfl, a, _, rfl, SqT.of ha, (fun z => absurd (show (2 : Nat) = 3 from z.2) (by decide)), fun _ pt npt => ?_⟩
      have s1 := same_put (o := .tup (cutV [endV ql, endV qh, .int qb] none (some 2))) npt
      have hpt : upd G' pt (.tup (cutV [endV ql, endV qh, .int qb] none (some 2))) pt = some (.tup [endV ql, endV qh]) := upd_same
      generalize upd G' pt (.tup (cutV [endV ql, endV qh, .int qb] none (some 2))) = G1 at s1 hpt
      refine ⟨pt, rfl, ⟨_, SqT.of hpt⟩, ?_⟩
      refine for_it (walk_tup (K := K) (a := pt) (xs := [endV ql, endV qh])) (fun j σ G => ∃ F1 ms y3, σ = [some (.ref l), some (.ref F1), some (.ref a), y3] ∧ Same G1 G ∧ G F1 = some (.lst (ms.map V.int)) ∧ ms.length ≤ 1 + 6 * i + 3 * j ∧ ms = endsL (rs.take i) ++ ([ql, qh].take j).flatMap tri ∧ H F1 = none)
        ⟨F1, ms, _, rfl, Same.refl _, s1 _ _ hF1, hml, by rw [hme]; exact (List.append_nil _).symm, hnF⟩ (fun j σ G _ h => by obtain ⟨_, _, _, _, s, _⟩ := h; exact SqT.of (s _ _ hpt)) ?_ ?_
      · rintro j y σ G2 G3 hj ⟨F2, ms2, y3, rfl, s2, hF2, hml2, hme2, hnF2⟩ ⟨rfl, hy⟩
        have hye : ∃ e : Option Int, y = endV e ∧ ([ql, qh].take (j + 1)).flatMap tri = ([ql, qh].take j).flatMap tri ++ tri e := by
          match j, hy with
          | 0, hy => exact ⟨ql, (Option.some.inj hy).symm, by simp⟩
          | 1, hy => exact ⟨qh, (Option.some.inj hy).symm, by simp⟩
        have hj2 : j < 2 := hj
        obtain ⟨e, rfl, hte⟩ := hye
        cases e with
        | none => exact ⟨_, rfl, rfl, _, rfl, no rfl ⟨F2, ms2, _, rfl, s2, hF2, by omega, by rw [hte, hme2]; show _ = _ ++ (_ ++ []); rw [List.append_nil], hnF2⟩⟩
        | some e =>
          refine ⟨_, rfl, rfl, _, rfl, yes rfl ?_⟩
          refine ⟨_, rfl, _, rfl, _, _, rfl, rfl, _, rfl, _, rfl, _, _, rfl, rfl, (by show 3 ≤ sizeLine; decide), fun L nL => ?_⟩
          have s3 := same_put (o := .lst [.int (e - 1), .int e, .int (e + 1)]) nL
          refine ⟨F2, L, _, _, rfl, rfl, s3 _ _ hF2, upd_same, ?_, fun N nN => ?_⟩
          · rw [List.length_map, sizeLine_eq]
            show ms2.length + 3 ≤ _
            omega
          · have s4 := same_put (o := .lst (ms2.map V.int ++ [.int (e - 1), .int e, .int (e + 1)])) nN
            refine ⟨N, ms2 ++ [e - 1, e, e + 1], _, rfl, s2.trans (s3.trans s4), ?_, ?_, by rw [hte, hme2, List.append_assoc]; rfl, (sG.trans (s1.trans (s2.trans s3))).free nN⟩
            · rw [upd_same, List.map_append]
              rfl
            · rw [List.length_append]
              show ms2.length + 3 ≤ _
              omega
      · rintro σ G2 ⟨F2, ms2, y3, rfl, s2, hF2, hml2, hme2, hnF2⟩
        exact ⟨sH1.trans (s1.trans s2), F2, ms2, _, _, rfl, sG.trans (s1.trans s2), hF2, (by have h2 : ms2.length ≤ 1 + 6 * i + 3 * 2 := hml2; omega), by
          rw [hme2, take_at hq]
          show 0 :: _ = 0 :: _
          rw [List.flatMap_append]
          simp, hnF2⟩
    · rintro σ G ⟨sH1, F1, ms, y2, y3, rfl, sG, hF1, hml, hme, hnF⟩
      rw [Paired.length hP, List.take_length] at hme
      exact ⟨_, rfl, k F1 G sG (by rw [← hme]; exact hF1) hnF⟩
end
end K04

set_option Elab.async false
set_option maxRecDepth 100000
set_option maxHeartbeats 2000000
/-! a >> b, a + b of one own class; own + int; int + own; != by an own __eq__ alone. -/
namespace KX
open PySem PySem.Spec PySem.Calls PyProof.Rows L2
open PySem.W (Frag InstAt)
section
variable {prog : Program} {w : World} {A : Around} {E : Value → Shared → Prop} {s : Shared} {K : Frag} {x C L f f0 : Addr} {h₀ : Heap} {m : Str → Option Value} {ox : Obj} {od : Option Obj}
theorem int_add_none {c : Int} {t : Tok} (hx : s.heap.get? x = some ox) (hd : ox.data = .plain) {Q : Fin → Shared → Prop} (q : Q (.done (.ret .notImplemented)) s) : wpAny (model prog w) A (Builtin.«int.__add__» ⟨[.int c t, .ref x], []⟩) Q E s := by
  obtain ⟨hp, g, d, tk, os⟩ := s
  unfold Builtin.«int.__add__» Builtin.Int.intBinary asInt?
  repeat (any_goals (first | assumption | (with_reducible refine wpAny_load hx ?_) | wp_step | (rw [hd])))
theorem try_none {c : Int} {t : Tok} (hx : s.heap.get? x = some ox) (hd : ox.data = .plain) {Q : Option Value → Shared → Prop} (q : Q none s) : wpAny (model prog w) A (tryMethod (.int c t) (dunder "add") (.ref x)) Q E s := by
  unfold tryMethod
  refine wpAny_bind (wpAny_callSpecial?_slot (typeIs_int s c t) F.slot_int_add ?_)
  exact wpAny_call_entry F.slot_int_add (typeIs_int s c t) F.entry_int_add (int_add_none hx hd ⟨_, rfl, wpAny_pure q⟩) (F.args_int_add_2 _ _)
end
end KX

set_option Elab.async false
set_option maxRecDepth 100000
set_option maxHeartbeats 2000000
/-! a >> b, a + b of one own class; own + int; int + own; != by an own __eq__ alone. -/
namespace KX
open PySem PySem.Spec PySem.Calls PyProof.Rows L2
open PySem.W (Frag InstAt Looks looks_subIn)
section
variable {prog : Program} {w : World} {A : Around} {E : Value → Shared → Prop} {s : Shared} {K : Frag} {x C L f f0 : Addr} {h₀ : Heap} {m : Str → Option Value} {ox : Obj} {od : Option Obj}
theorem radd_K {c : Int} {t : Tok} {Q : Value → Shared → Prop} (F0 : Fr h₀ L s.heap m) (X₀ : K.In h₀) (I : InstAt s.heap x ox C od) (hx : s.heap.get? x = some ox) (hd : ox.data = .plain) (hc : PySem.W.selfFirst K C = true)
    (hs : PySem.W.findIn K (.ref C) (dunder "add") = some (some (.ref f0))) (hr : PySem.W.findIn K (.ref C) (dunderR "add") = some (some (.ref f))) (hf : PySem.W.isFn K (.ref f) = true) (hsub : PySem.W.subIn K (.ref C) (.type "int") = some false)
    (h : wpAny (model prog w) A (call (.ref f) [.ref x, .int c t]) (PySem.W.CmpBack Q) E s) : wpAny (model prog w) A (binaryOp .Add (.int c t) (.ref x)) Q E s := by
  have X := X₀.keeps F0.keep
  obtain ⟨cd, rest, hcd, hm⟩ := PySem.W.ksp_first hc
  have hi : Operator.info .Add = ("+", "add") := rfl
  have one := PySem.W.ksp_try X I hr hf h
  have none1 : ∀ {Q : Option Value → Shared → Prop}, Q none s → wpAny (model prog w) A (tryMethod (.int c t) (dunder "add") (.ref x)) Q E s := fun q => try_none hx hd q
  obtain ⟨hh, g, d, tt, os⟩ := s
  have L1 : Looks (model prog w) hh (typeOf (.int c t)) (.type "int") := Looks.of_pure rfl
  have L2 : Looks (model prog w) hh (typeOf (.ref x)) (.ref C) := I.type
  have L3 : Looks (model prog w) hh (fillsNumberSlot (.type "int") "add") true := Looks.of_pure F.fills_int_add
  have L4 : Looks (model prog w) hh (fillsNumberSlot (.ref C) "add") true := PySem.W.fills_K X hcd hm hs
  have L5 : Looks (model prog w) hh (isSubtype (.ref C) (.type "int")) false := PySem.W.looks_subIn X hsub
  have L7 : Looks (model prog w) hh (numberSlotInPython (.type "int") "add") false := Looks.of_pure rfl
  have hne : (Value.type "int" == Value.ref C) = false := Bool.eq_false_iff.mpr fun q => by cases beq_iff_eq.mp q
  simp only [binaryOp, hi]
  refine wpAny_holding (wpAny_bind ?_)
  unfold binaryOp1
  refine wpAny_bind (L1.at (wpAny_bind (L2.at (wpAny_bind (L3.at ?_)))))
  simp only [hne, Bool.false_eq_true, if_false]
  ksp_lk
  refine none1 ?_
  ksp_lk
  refine wpAny_mono one (fun r s' hr' => ?_) fun _ _ e => e
  obtain ⟨v, rfl, hq⟩ := hr'
  ksp_lk
  exact hq
end
end KX

set_option Elab.async false
set_option maxRecDepth 100000
set_option maxHeartbeats 2000000
namespace KX
open PySem PySem.Spec PySem.Calls PyProof.Rows L2
open PySem.W (Frag InstAt Looks looks_subIn looks_findIn looks_mroIn)
section
variable {prog : Program} {w : World} {A : Around} {E : Value → Shared → Prop} {s : Shared} {K : Frag} {x C L f f0 : Addr} {h₀ : Heap} {m : Str → Option Value} {ox : Obj} {od : Option Obj} {b tb : Value}
theorem bind_ne (self : Value) : bindSpecial (.builtin "object.__ne__") self = pure (.builtin "object.__ne__", [self]) :=
  (Slot.of (T := "object") (name := "__ne__") (owner := "object") (n := "__ne__") (by rw [typeLookup_type, builtinLookup_eq_fast]; kernel_rfl) (by decide +kernel) (by decide +kernel) (by decide +kernel)
    (.inl (by decide +kernel)) (by rw [isSubtype_type]; kernel_rfl)).bind self
theorem plain_ne : plainId "object.__ne__" = true := by decide +kernel
theorem ne_entry (hu : A.units < cLine) (X : K.In s.heap) (I : InstAt s.heap x ox C od) (he : PySem.W.findIn K (.ref C) "__eq__" = some (some (.ref f))) (hf : PySem.W.isFn K (.ref f) = true) {Q : Fin → Shared → Prop}
    (h : wpAny (model prog w) A (call (.ref f) [.ref x, b]) (fun v s' => ∃ c, v = .bool c ∧ Q (.done (.ret (.bool (!c)))) s') E s) : wpAny (model prog w) A (Builtin.«object.__ne__» ⟨[.ref x, b], []⟩) Q E s := by
  unfold Builtin.«object.__ne__»
  refine wpAny_bind (wpAny_pure ?_)
  refine wpAny_bind (wpAny_cRoomFor hu ?_)
  refine wpAny_bind (PySem.W.ifBound_K X I he hf (wpAny_mono h (fun v s' hv => ?_) fun _ _ e => e))
  obtain ⟨c, rfl, q⟩ := hv
  exact wpAny_bind (wpAny_truthy_bool (wpAny_pure q))
theorem ifBound_ne {Q : Option Value → Shared → Prop} (hu : A.units + 1 < cLine) (X : K.In s.heap) (I : InstAt s.heap x ox C od) (hs : PySem.W.findIn K (.ref C) "__ne__" = some (some (.builtin "object.__ne__"))) (he : PySem.W.findIn K (.ref C) "__eq__" = some (some (.ref f))) (hf : PySem.W.isFn K (.ref f) = true) (hm : PySem.W.mroIn K C (.type "object") = some true)
    (h : wpAny (model prog w) A.in1 (call (.ref f) [.ref x, b]) (fun v s' => ∃ c, v = .bool c ∧ Q (some (.bool (!c))) s') E s) : wpAny (model prog w) A (callSpecialIfBound? (.ref x) "__ne__" [b]) Q E s := by
  simp only [callSpecialIfBound?, bindSpecialIfBound?]
  refine wpAny_holding (wpAny_bind (wpAny_bind (wpAny_bind (I.type.here ((looks_findIn X hs).here ?_)))))
  refine wpAny_bind (wpAny_askSetting (wpAny_ite ?_))
  have one : wpAny (model prog w) A (call (.builtin "object.__ne__") [.ref x, b]) (fun v => Q (some v)) E s :=
    wpAny_call (codeAny_call_builtin plain_ne F.cmpEntry_ne (PySem.W.check_slot (i := "object.__ne__") (owner := "object") (n := "__ne__") F.cmpKind_ne F.cmpSplit_ne (I.type.andThen (looks_mroIn X hm)) (F.cmpArgs_ne _ _) (ne_entry (A := A.in1) hu X I he hf (wpAny_mono h (fun v s' z => z) fun _ _ e => e))))
  have fin : wpAny (model prog w) A (call (.builtin "object.__ne__") ([.ref x] ++ [b]) >>= fun v => pure (some v)) Q E s := wpAny_bind (wpAny_mono one (fun v s' h' => wpAny_pure h') fun _ _ h' => h')
  split
  · rw [bind_ne]
    exact wpAny_bind (wpAny_pure (wpAny_pure (by exact fin)))
  · rw [bind_ne]
    exact wpAny_tryCatch (wpAny_bind (wpAny_pure (wpAny_pure (by exact fin))))
theorem ne_K {Q : Value → Shared → Prop} (hu : A.units + 1 < cLine) (F : Fr h₀ L s.heap m) (X₀ : K.In h₀) (I : InstAt s.heap x ox C od) (hb : Looks (model prog w) s.heap (typeOf b) tb) (hn : PySem.W.notFirst K C tb = true)
    (hs : PySem.W.findIn K (.ref C) "__ne__" = some (some (.builtin "object.__ne__"))) (he : PySem.W.findIn K (.ref C) "__eq__" = some (some (.ref f))) (hf : PySem.W.isFn K (.ref f) = true) (hm : PySem.W.mroIn K C (.type "object") = some true)
    (h : wpAny (model prog w) A.in1 (call (.ref f) [.ref x, b]) (fun v s' => ∃ c, v = .bool c ∧ Q (.bool (!c)) s') E s) : wpAny (model prog w) A (richCompare .NotEq (.ref x) b) Q E s := by
  have X := X₀.keeps F.keep
  have one : wpAny (model prog w) A (tryCompare (.ref x) (cmpInfo .NotEq).2.1 b) (fun r s' => ∃ v, r = some v ∧ Q v s') E s := by
    unfold tryCompare
    refine wpAny_bind (ifBound_ne hu X I hs he hf hm (wpAny_mono h (fun v s' hv => ?_) fun _ _ e => e))
    obtain ⟨c, rfl, q⟩ := hv
    exact ⟨c, rfl, wpAny_pure ⟨_, rfl, q⟩⟩
  unfold richCompare
  simp only [oneThing_ref]
  refine wpAny_holding (wpAny_bind (wpAny_cRoomFor (Nat.lt_of_succ_lt hu) ?_))
  refine wpAny_bind (I.type.here (wpAny_bind (hb.here ?_)))
  split
  · rename_i q
    have e : PySem.W.subIn K tb (.ref C) = some false := by
      rcases Bool.or_eq_true_iff.mp hn with e | e
      · rw [beq_iff_eq.mp e] at q; simp at q
      · exact beq_iff_eq.mp e
    refine wpAny_bind ((looks_subIn X e).here ?_)
    simp only [Bool.false_eq_true, if_false]
    refine wpAny_bind (wpAny_mono one (fun r s' z => ?_) fun _ _ e => e)
    obtain ⟨v, rfl, hq⟩ := z
    exact wpAny_pure hq
  · refine wpAny_bind (wpAny_pure ?_)
    simp only [Bool.false_eq_true, if_false]
    refine wpAny_bind (wpAny_mono one (fun r s' z => ?_) fun _ _ e => e)
    obtain ⟨v, rfl, hq⟩ := z
    exact wpAny_pure hq
end
section
variable {X : Cx} {pins : List (Addr × Obj)} {σ : L2.St} {H : Hp} {s : Shared} {CX : CXT} {k : Nat} {f f0 C : Addr} {fd : FuncData} {ps : List Str} {sp : Sp} {E : XK}
theorem insT_pl (I : Inv X pins σ H s) {a : Addr} (h : InsT H a C) : ∃ ox od, PySem.W.InstAt s.heap a ox C od ∧ ox.data = .plain := StX.insC_at I (.inr h)
/-- x != y by x's own __eq__ -/
theorem op_neO (hm : PySem.W.mroIn X.K C (.type "object") = some true) (hs : PySem.W.findIn X.K (.ref C) "__ne__" = some (some (.builtin "object.__ne__"))) (m : Meth X.K C "__eq__" f) (F : FnOk X.prog X.w X.K X.mg X.base CX k f fd ps sp) (hr : Room (k + 1) X.A) (hb : Binds X.K fd ps []) (hx : Passes CX X E) (hu : X.A.units + 1 < cLine) :
    OpR X (compareOp .NotEq) (fun x y H Q => ∃ (a : Addr) (t : Value), x = .ref a ∧ InsT H a C ∧ TyX X.K H y t ∧ PySem.W.notFirst X.K C t = true ∧ sp [.ref a, y] H (fun v H' => ∃ b, v = .bl b ∧ Q (.bl (!b)) H') E) := by
  intro pins s σ H x y v u Q I rx ry h
  obtain ⟨a, t, rfl, hi, ty, hn, q⟩ := h
  cases (show v = Value.ref a from rx)
  obtain ⟨ox, od, J⟩ := insT_at I hi
  obtain ⟨m', fr⟩ := I.fr
  obtain ⟨P, Z, p, _⟩ := kit_of I ry ty
  show wpAny _ _ (richCompare .NotEq (.ref a) u) _ _ _
  refine ne_K hu fr I.mod.kin J (Z.ty _ _ I.kIn p) hn hs m.at_ m.fn hm (wpAny_mono (run_in1 F hr hb hx I (us := [.ref a, u]) (vs := [.ref a, y]) (.cons rfl (.cons ry .nil)) q) (fun w s' z => ?_) fun _ _ z => z)
  obtain ⟨v', H', I', rv, b, rfl, q'⟩ := z
  cases (show w = Value.bool b from rv)
  exact ⟨b, rfl, .bl (!b), H', I', rfl, q'⟩
/-- a op b, both of C -/
theorem op_binO {op : Operator} (hc : PySem.W.selfFirst X.K C = true) (hs : PySem.W.findIn X.K (.ref C) (PySem.dunder op.info.2) = some (some (.ref f))) (hf : PySem.W.isFn X.K (.ref f) = true) (F : FnOk X.prog X.w X.K X.mg X.base CX k f fd ps sp) (hr : Room k X.A) (hb : Binds X.K fd ps []) (hx : Passes CX X E) :
    OpR X (binaryOp op) (fun x y H Q => ∃ a b, x = .ref a ∧ y = .ref b ∧ InsT H a C ∧ InsT H b C ∧ sp [.ref a, .ref b] H (fun v H' => ∃ r, v = .ref r ∧ Q (.ref r) H') E) := by
  intro pins s σ H x y v u Q I rx ry h
  obtain ⟨a, b, rfl, rfl, hi, hj, q⟩ := h
  cases (show v = Value.ref a from rx)
  cases (show u = Value.ref b from ry)
  obtain ⟨ox, od, J⟩ := insT_at I hi
  obtain ⟨oy, oe, J2⟩ := insT_at I hj
  obtain ⟨m', fr⟩ := I.fr
  refine PySem.W.binop_K fr I.mod.kin J J2.type hc hs hf (wpAny_mono (run_in0 F hr hb hx I (us := [.ref a, .ref b]) (vs := [.ref a, .ref b]) (.cons rfl (.cons rfl .nil)) q) (fun w s' z => ?_) fun _ _ z => z)
  obtain ⟨v', H', I', rv, r, rfl, q'⟩ := z
  cases (show w = Value.ref r from rv)
  exact ⟨.ref r, H', I', rfl, q'⟩
/-- a + n, n a whole number -/
theorem op_addI (hc : PySem.W.selfFirst X.K C = true) (hs : PySem.W.findIn X.K (.ref C) (PySem.dunder "add") = some (some (.ref f))) (hf : PySem.W.isFn X.K (.ref f) = true) (hrd : PySem.W.findIn X.K (.ref C) (dunderR "add") = some (some (.ref f0)))
    (h1 : PySem.W.findIn X.K (.type "int") (PySem.dunder "add") = some (some (.builtin "int.__add__"))) (h2 : PySem.W.findIn X.K (.type "int") (dunderR "add") = some (some (.builtin "int.__radd__"))) (hsub : PySem.W.subIn X.K (.type "int") (.ref C) = some false)
    (F : FnOk X.prog X.w X.K X.mg X.base CX k f fd ps sp) (hr : Room k X.A) (hb : Binds X.K fd ps []) (hx : Passes CX X E) :
    OpR X (binaryOp .Add) (fun x y H Q => ∃ a c, x = .ref a ∧ y = .int c ∧ InsT H a C ∧ sp [.ref a, .int c] H (fun v H' => ∃ r, v = .ref r ∧ Q (.ref r) H') E) := by
  intro pins s σ H x y v u Q I rx ry h
  obtain ⟨a, c, rfl, rfl, hi, q⟩ := h
  cases (show v = Value.ref a from rx)
  obtain ⟨t, rfl⟩ := ry
  obtain ⟨ox, od, J⟩ := insT_at I hi
  obtain ⟨m', fr⟩ := I.fr
  refine PySem.W.ksp_binT (op := .Add) (T := "int") fr I.mod.kin J rfl hc hs hf hrd (.inr ⟨_, rfl⟩) h1 h2 hsub (wpAny_mono (run_in0 F hr hb hx I (us := [.ref a, .int c t]) (vs := [.ref a, .int c]) (.cons rfl (.cons ⟨t, rfl⟩ .nil)) q) (fun w s' z => ?_) fun _ _ z => z)
  obtain ⟨v', H', I', rv, r, rfl, q'⟩ := z
  cases (show w = Value.ref r from rv)
  exact ⟨.ref r, H', I', rfl, q'⟩
/-- n + a -/
theorem op_raddI (hc : PySem.W.selfFirst X.K C = true) (hs : PySem.W.findIn X.K (.ref C) (PySem.dunder "add") = some (some (.ref f0))) (hf : PySem.W.isFn X.K (.ref f) = true) (hrd : PySem.W.findIn X.K (.ref C) (dunderR "add") = some (some (.ref f))) (hsub : PySem.W.subIn X.K (.ref C) (.type "int") = some false)
    (F : FnOk X.prog X.w X.K X.mg X.base CX k f fd ps sp) (hr : Room k X.A) (hb : Binds X.K fd ps []) (hx : Passes CX X E) :
    OpR X (binaryOp .Add) (fun x y H Q => ∃ a c, x = .int c ∧ y = .ref a ∧ InsT H a C ∧ sp [.ref a, .int c] H (fun v H' => ∃ r, v = .ref r ∧ Q (.ref r) H') E) := by
  intro pins s σ H x y v u Q I rx ry h
  obtain ⟨a, c, rfl, rfl, hi, q⟩ := h
  obtain ⟨t, rfl⟩ := rx
  cases (show u = Value.ref a from ry)
  obtain ⟨ox, od, J, hd⟩ := insT_pl I hi
  obtain ⟨m', fr⟩ := I.fr
  refine radd_K fr I.mod.kin J J.at_ hd hc hs hrd hf hsub (wpAny_mono (run_in0 F hr hb hx I (us := [.ref a, .int c t]) (vs := [.ref a, .int c]) (.cons rfl (.cons ⟨t, rfl⟩ .nil)) q) (fun w s' z => ?_) fun _ _ z => z)
  obtain ⟨v', H', I', rv, r, rfl, q'⟩ := z
  cases (show w = Value.ref r from rv)
  exact ⟨.ref r, H', I', rfl, q'⟩
end
end KX

set_option Elab.async false
set_option maxRecDepth 100000
set_option maxHeartbeats 1000000
namespace K04
open PySem PySem.Spec PyProof.Rows L2 He KX
abbrev sMov : Stmt := top 16
abbrev sRuns : Stmt := top 17
abbrev sCom : Stmt := top 18
abbrev sComp : Stmt := top 19
def spMov : Sp := fun vs H Q _ => ∃ (e : Option Int) (b : Int), vs = [endV e, .int b] ∧ Q (endV (mv e b)) H
def spRuns (K : PySem.W.Frag) : Sp := fun vs H Q _ => ∃ (t : Addr) (zs : List V) (ps : List Pc), vs = [.ref t] ∧ SqT K H t zs ∧ Pcs H zs ps ∧ ps.length ≤ 1000 ∧ Chain ps ∧ ∀ F xs H', H F = none → Same H H' → H' F = some (.lst xs) → Pcs H' xs (runs none ps) → Q (.ref F) H'
def spCom : Sp := fun vs H Q _ => ∃ l h s e : Option Int, vs = [endV l, endV h, endV s, endV e] ∧ (okP (maxL l s) (minH h e) = false → Q .non H) ∧ (okP (maxL l s) (minH h e) = true → ∀ T, H T = none → Q (.ref T) (upd H T (.tup [endV (maxL l s), endV (minH h e)])))
def spComp (K : PySem.W.Frag) : Sp := fun vs H Q _ => ∃ (t1 t2 : Addr) (z1 z2 : List V) (ns ms : List Pc), vs = [.ref t1, .ref t2] ∧ SqT K H t1 z1 ∧ SqT K H t2 z2 ∧ Pcs H z1 ns ∧ Pcs H z2 ms ∧ ns.length ≤ 100 ∧ ms.length ≤ 100 ∧ Nf ns ∧ Nf ms ∧
  ∀ F xs H', Same H H' → H' F = some (.lst xs) → Pcs H' xs (compR ns ms) → xs.length ≤ 100000 → Q (.ref F) H'
theorem runs_len : ∀ (ps : List Pc) (low : Option Int), (runs low ps).length ≤ 2 * ps.length + 1
  | [], _ => Nat.le_refl _
  | (pl, ph, pb) :: ps, low => by
    have g : (gap low (pl, ph, pb)).length ≤ 1 := by
      unfold gap
      split
      · exact Nat.zero_le _
      · split <;> simp
    show (gap low (pl, ph, pb) ++ (pl, ph, pb) :: after ph ps).length ≤ 2 * (ps.length + 1) + 1
    rw [List.length_append, List.length_cons]
    have a : (after ph ps).length ≤ 2 * ps.length + 1 := by
      cases ph with
      | none => exact Nat.zero_le _
      | some e => exact runs_len ps _
    omega
theorem part_len {f : Pc} (ts : List Pc) : (ts.filterMap (pieceC f)).length ≤ ts.length := List.length_filterMap_le _ _
theorem comp_len : ∀ (fs ts : List Pc), (comp fs ts).length ≤ fs.length * ts.length
  | [], _ => Nat.zero_le _
  | f :: fs, ts => by
    show (ts.filterMap (pieceC f) ++ comp fs ts).length ≤ _
    rw [List.length_append, List.length_cons, Nat.add_mul, Nat.one_mul]
    have := comp_len fs ts
    have := part_len (f := f) ts
    omega
section
variable {P : Program} {w : World} {K : PySem.W.Frag} {mg : Str → Option Value} {base : Heap}
theorem scMov : FnScope ["end", "by"] ["end", "by"] (defScope sMov) := ⟨rfl, rfl, rfl, by decide +kernel, rfl, by decide +kernel, by decide +kernel⟩
theorem ok_mov {f : Addr} {fd : FuncData} (F : FnP K "_moved" sMov f fd) : FnOk P w K mg base CX0 1 f fd ["end", "by"] spMov := by
  refine F.ok scMov (fun vs H Q E h => ?_) (fun cdv A outer s H vs Q E hr h => ?_)
  · obtain ⟨e, b, rfl, _⟩ := h
    rfl
  · obtain ⟨e, b, rfl, k⟩ := h
    have nd := scMov.nd
    refine ⟨_, PSs.nox (pss_one (ps_ret (pe_ifExp (pt_cmpR op_isN (pv 0) pe_non (nomark _)) pe_non (pe_op op_add (pv 0) (pv 1))))), ?_⟩
    cases e with
    | none => exact ⟨_, rfl, rfl, _, rfl, yes rfl k⟩
    | some a => exact ⟨_, rfl, rfl, _, rfl, no rfl ⟨_, rfl, _, rfl, _, _, rfl, rfl, k⟩⟩
theorem scCom : FnScope ["low", "high", "start", "end"] ["low", "high", "start", "end"] (defScope sCom) := ⟨rfl, rfl, rfl, by decide +kernel, rfl, by decide +kernel, by decide +kernel⟩
theorem ok_com {f : Addr} {fd : FuncData} (F : FnP K "_common" sCom f fd) : FnOk P w K mg base CX0 1 f fd ["low", "high", "start", "end"] spCom := by
  refine F.ok scCom (fun vs H Q E h => ?_) (fun cdv A outer s H vs Q E hr h => ?_)
  · obtain ⟨l, h, s, e, rfl, _⟩ := h
    rfl
  · obtain ⟨l, h, s, e, rfl, k1, k2⟩ := h
    have nd := scCom.nd
    refine ⟨_, PSs.nox (pss_cons (ps_if (PW.pt (pw_or (pt_cmpR op_isN (pv 0) pe_non (nomark _)) (pw_or1 (PW.pt (pw_and (pt_cmpR op_notN (pv 2) pe_non (nomark _)) (pw_and1 (pt_cmpR op_gt (pv 2) (pv 0) (nomark _))))))))
(pss_one (ps_set (i := 0) nd rfl (Or.inl rfl) (pv 2)))
pss_nil)
(pss_cons (ps_if (PW.pt (pw_or (pt_cmpR op_isN (pv 1) pe_non (nomark _)) (pw_or1 (PW.pt (pw_and (pt_cmpR op_notN (pv 3) pe_non (nomark _)) (pw_and1 (pt_cmpR op_lt (pv 3) (pv 1) (nomark _))))))))
(pss_one (ps_set (i := 1) nd rfl (Or.inl rfl) (pv 3)))
pss_nil)
(pss_cons (ps_if (PW.pt (pw_and (pt_cmpR op_notN (pv 0) pe_non (nomark _)) (pw_and (pt_cmpR op_notN (pv 1) pe_non (nomark _)) (pw_and1 (pt_cmpR op_gt (pv 0) (pv 1) (nomark _))))))
(pss_one (ps_ret pe_non))
pss_nil)
(pss_one (ps_ret (pe_tup (pa_cons (pv 0) (pa_cons (pv 1) pa_nil)))))))), ?_⟩
    refine seq_by (fun σ G => σ = [some (endV (maxL l s)), some (endV h), some (endV s), some (endV e)] ∧ G = H) ?_ (fun nxt => ?_)
    · rintro σ G ⟨rfl, rfl⟩
      generalize maxL l s = L at k1 k2
      refine seq_by (fun σ H => σ = [some (endV L), some (endV (minH h e)), some (endV s), some (endV e)] ∧ H = G) ?_ (fun nxt => ?_)
      · rintro σ H ⟨rfl, rfl⟩
        generalize minH h e = U at k1 k2
        cases L with
        | none =>
          refine ⟨_, rfl, rfl, _, rfl, no rfl (no rfl ⟨_, rfl, _, rfl, (by show 2 ≤ sizeLine; decide), fun T nT => k2 rfl T nT⟩)⟩
        | some a =>
          cases U with
          | none => refine ⟨_, rfl, rfl, _, rfl, yes rfl ⟨_, rfl, rfl, _, rfl, no rfl (no rfl ⟨_, rfl, _, rfl, (by show 2 ≤ sizeLine; decide), fun T nT => k2 rfl T nT⟩)⟩⟩
          | some b =>
            refine ⟨_, rfl, rfl, _, rfl, yes rfl ⟨_, rfl, rfl, _, rfl, yes rfl ⟨_, rfl, _, rfl, _, _, rfl, rfl, _, rfl, ite2' (fun c => ?_) (fun c => ?_)⟩⟩⟩
            · have c1 : a > b := of_decide_eq_true c
              exact k1 (decide_eq_false (show ¬ a ≤ b by omega))
            · have c1 : ¬ a > b := of_decide_eq_false c
              exact ⟨_, rfl, _, rfl, (by show 2 ≤ sizeLine; decide), fun T nT => k2 (decide_eq_true (show a ≤ b by omega)) T nT⟩
      · cases h with
        | none => exact ⟨_, rfl, rfl, _, rfl, yes rfl ⟨_, rfl, nxt _ _ ⟨rfl, rfl⟩⟩⟩
        | some b =>
          cases e with
          | none => exact ⟨_, rfl, rfl, _, rfl, no rfl ⟨_, rfl, rfl, _, rfl, no rfl (no rfl (nxt _ _ ⟨rfl, rfl⟩))⟩⟩
          | some c =>
            refine ⟨_, rfl, rfl, _, rfl, no rfl ⟨_, rfl, rfl, _, rfl, yes rfl ⟨_, rfl, _, rfl, _, _, rfl, rfl, _, rfl, ite2' (fun d => ?_) (fun d => ?_)⟩⟩⟩
            · exact ⟨_, rfl, nxt _ _ ⟨by rw [show minH (some b) (some c) = some c from if_pos (of_decide_eq_true d)] <;> rfl, rfl⟩⟩
            · exact nxt _ _ ⟨by rw [show minH (some b) (some c) = some b from if_neg (of_decide_eq_false d)] <;> rfl, rfl⟩
    · cases l with
      | none => exact ⟨_, rfl, rfl, _, rfl, yes rfl ⟨_, rfl, nxt _ _ ⟨rfl, rfl⟩⟩⟩
      | some b =>
        cases s with
        | none => exact ⟨_, rfl, rfl, _, rfl, no rfl ⟨_, rfl, rfl, _, rfl, no rfl (no rfl (nxt _ _ ⟨rfl, rfl⟩))⟩⟩
        | some c =>
          refine ⟨_, rfl, rfl, _, rfl, no rfl ⟨_, rfl, rfl, _, rfl, yes rfl ⟨_, rfl, _, rfl, _, _, rfl, rfl, _, rfl, ite2' (fun d => ?_) (fun d => ?_)⟩⟩⟩
          · exact ⟨_, rfl, nxt _ _ ⟨by rw [show maxL (some b) (some c) = some c from if_pos (of_decide_eq_true d)] <;> rfl, rfl⟩⟩
          · exact nxt _ _ ⟨by rw [show maxL (some b) (some c) = some b from if_neg (of_decide_eq_false d)] <;> rfl, rfl⟩
theorem scRuns : FnScope ["pieces", "found", "low", "piece", "start", "end", "_"] ["pieces"] (defScope sRuns) := ⟨rfl, rfl, rfl, by decide +kernel, rfl, by decide +kernel, by decide +kernel⟩
theorem ok_runs {f : Addr} {fd : FuncData} (F : FnP K "_runs" sRuns f fd) : FnOk P w K mg base CX0 1 f fd ["pieces"] (spRuns K) := by
  refine F.ok scRuns (fun vs H Q E h => ?_) (fun cdv A outer s H vs Q E hr h => ?_)
  · obtain ⟨t, zs, ps, rfl, _⟩ := h
    rfl
  · obtain ⟨t, zs, ps, rfl, hz, hP, hl, hch, k⟩ := h
    have nd := scRuns.nd
    refine ⟨_, PSs.nox (pss_cons (ps_set (i := 1) nd rfl (Or.inl rfl) (pe_lst pa_nil))
(pss_cons (ps_set (i := 2) nd rfl (Or.inl rfl) pe_non)
(pss_cons (ps_for PassesOwn.never rfl (pi_tup (pv 0)) (pg_name (i := 3) nd rfl (Or.inl rfl))
(pss_cons (ps_asg (pv 3) (pg_tup rfl (pgs_cons (pg_name (i := 4) nd rfl (Or.inl rfl)) (pgs_cons (pg_name (i := 5) nd rfl (Or.inl rfl)) (pgs_cons (pg_name (i := 6) nd rfl (Or.inl rfl)) pgs_nil)))))
(pss_cons (ps_if (PW.pt (pw_and (pt_cmpR op_notN (pv 4) pe_non (nomark _)) (pw_and1 (pt_cmpR op_ne (pv 4) (pv 2) (nomark _)))))
(pss_one (ps_expr (pe_bm PySem.F.plainAttrs_list PySem.F.slot_list_append PySem.F.type_list_append mt_append (pv 1) (pa_cons (pe_tup (pa_cons (pv 2) (pa_cons (pe_op op_sub (pv 4) pe_int) (pa_cons pe_int pa_nil)))) pa_nil))))
pss_nil)
(pss_cons (ps_expr (pe_bm PySem.F.plainAttrs_list PySem.F.slot_list_append PySem.F.type_list_append mt_append (pv 1) (pa_cons (pv 3) pa_nil)))
(pss_cons (ps_if (pt_cmpR op_isN (pv 5) pe_non (nomark _))
(pss_one (ps_ret (pv 1)))
pss_nil)
(pss_one (ps_set (i := 2) nd rfl (Or.inl rfl) (pe_op op_add (pv 5) pe_int))))))))
(pss_cons (ps_expr (pe_bm PySem.F.plainAttrs_list PySem.F.slot_list_append PySem.F.type_list_append mt_append (pv 1) (pa_cons (pe_tup (pa_cons (pv 2) (pa_cons pe_non (pa_cons pe_int pa_nil)))) pa_nil)))
(pss_one (ps_ret (pv 1))))))), ?_⟩
    refine ⟨by decide, fun F0 nF => ?_⟩
    have sF := same_put (o := .lst []) nF
    have fF : upd H F0 (.lst []) F0 = some (.lst []) := upd_same
    generalize upd H F0 (.lst []) = HF at sF fF
    have hlen := Paired.length hP
    refine ⟨_, rfl, t, rfl, ⟨zs, sqT_same sF hz⟩, ?_⟩
    refine for_it (walk_tup (K := K) (a := t) (xs := zs)) (fun i σ G => ∃ (low : Option Int) (xs : List V) (acc : List Pc) (y3 y4 y5 y6 : Option V), σ = [some (.ref t), some (.ref F0), some (endV low), y3, y4, y5, y6] ∧ Kept F0 HF G ∧ G F0 = some (.lst xs) ∧ Pcs G xs acc ∧ xs.length ≤ 2 * i ∧ acc ++ runs low (ps.drop i) = runs none ps)
      ⟨none, [], [], none, none, none, none, rfl, Kept.refl _ _, fF, .nil, Nat.le_refl _, rfl⟩ (fun i σ G _ h => by
        obtain ⟨_, _, _, _, _, _, _, _, kk, _⟩ := h
        exact sqT_same (fun x o e => kk x o (ne_of_none e nF) (sF _ _ e)) hz) ?_ ?_
    · rintro i x σ G' G hi ⟨low, xs, acc, y3, y4, y5, y6, rfl, kk, hF, hpc, hxl, hacc⟩ ⟨rfl, hx⟩
      have sG : Same H G := fun x o e => kk x o (ne_of_none e nF) (sF _ _ e)
      obtain ⟨p, hp, hpx⟩ := pcs_at hP hx
      rw [drop_at hp, runs_cons] at hacc
      have hcp : p.2.1 = none → ps.drop (i + 1) = [] := fun e => chain_end (p := p) (by rw [← drop_at hp]; exact hch.sublist (List.drop_sublist _ _)) e
      obtain ⟨pl, ph, pb⟩ := p
      obtain ⟨a, rfl, ha⟩ := hpx.same sG
      have hzi : i < 1000 := by omega
      refine ⟨_, rfl, a, _, rfl, SqT.of ha, rfl, _, _, rfl, _, _, rfl, _, _, rfl, rfl, ?_⟩
      dsimp only [gName, List.set]
      have tail : ∀ (G2 : Hp) (xs2 : List V) (acc2 : List Pc), Kept F0 HF G2 → G2 F0 = some (.lst xs2) → Pcs G2 xs2 acc2 → xs2.length ≤ 2 * i + 1 → acc2 = acc ++ gap low (pl, ph, pb) → G2 a = some (.tup [endV pl, endV ph, .int pb]) →
          Kept F0 HF (upd G2 F0 (.lst (xs2 ++ [.ref a]))) ∧ Same H (upd G2 F0 (.lst (xs2 ++ [.ref a]))) ∧ (upd G2 F0 (.lst (xs2 ++ [.ref a]))) F0 = some (.lst (xs2 ++ [.ref a])) ∧ Pcs (upd G2 F0 (.lst (xs2 ++ [.ref a]))) (xs2 ++ [.ref a]) (acc2 ++ [(pl, ph, pb)]) ∧ (xs2 ++ [V.ref a]).length ≤ 2 * (i + 1) := by
        intro G2 xs2 acc2 q1 q2 q3 q4 q5 q6
        have k2 : Kept F0 G2 (upd G2 F0 (.lst (xs2 ++ [.ref a]))) := fun b o n e => by rw [upd_ne n]; exact e
        have q7 := q1.trans k2
        refine ⟨q7, fun x o e => q7 x o (ne_of_none e nF) (sF _ _ e), upd_same, ?_, by rw [List.length_append]; show xs2.length + 1 ≤ _; omega⟩
        have hpa : IsPc G2 (.ref a) (pl, ph, pb) := ⟨a, rfl, q6⟩
        exact (pcs_snoc hpa q3).imp fun x p z => z.kept k2 q2
      refine seq_by (fun σ G2 => ∃ (xs2 : List V) (acc2 : List Pc), σ = [some (.ref t), some (.ref F0), some (endV low), some (.ref a), some (endV pl), some (endV ph), some (.int pb)] ∧ Kept F0 HF G2 ∧ G2 F0 = some (.lst xs2) ∧ Pcs G2 xs2 acc2 ∧ xs2.length ≤ 2 * i + 1 ∧ acc2 = acc ++ gap low (pl, ph, pb) ∧ G2 a = some (.tup [endV pl, endV ph, .int pb])) ?_ (fun nxt => ?_)
      · rintro σ G2 ⟨xs2, acc2, rfl, q1, q2, q3, q4, q5, q6⟩
        obtain ⟨r1, r2, r3, r4, r5⟩ := tail G2 xs2 acc2 q1 q2 q3 q4 q5 q6
        refine ⟨_, rfl, .inl ⟨rfl, _, SqL.of q2⟩, _, rfl, F0, xs2, _, rfl, rfl, q2, (by rw [sizeLine_eq]; omega), ?_⟩
        cases ph with
        | none =>
          refine ⟨_, rfl, rfl, _, rfl, yes rfl ⟨_, rfl, ?_⟩⟩
          refine k F0 _ _ nF r2 r3 ?_
          have e : runs none ps = acc2 ++ [(pl, none, pb)] := by
            rw [← hacc, q5, List.append_assoc]
            rfl
          rw [e]
          exact r4
        | some e =>
          refine ⟨_, rfl, rfl, _, rfl, no rfl ⟨_, rfl, _, _, rfl, rfl, ?_⟩⟩
          refine ⟨some (e + 1), _, _, _, _, _, _, rfl, r1, r3, r4, r5, ?_⟩
          rw [← hacc, q5, List.append_assoc, List.append_assoc]
          rfl
      · cases pl with
        | none =>
          refine ⟨_, rfl, rfl, _, rfl, no rfl (no rfl ?_)⟩
          refine nxt _ _ ⟨xs, acc, rfl, kk, hF, hpc, by omega, ?_, ha⟩
          exact (List.append_nil acc).symm
        | some st =>
          refine ⟨_, rfl, rfl, _, rfl, yes rfl ⟨_, rfl, _, rfl, (by cases low <;> rfl), _, rfl, ite2' (fun c => ?_) (fun c => ?_)⟩⟩
          · have n : ¬ low = some st := by
              rintro rfl
              exact absurd (show (!decide (V.int st = V.int st)) = true from c) (by rw [decide_eq_true rfl]; decide)
            refine ⟨_, rfl, .inl ⟨rfl, _, SqL.of hF⟩, _, rfl, _, rfl, _, _, rfl, rfl, (by show 3 ≤ sizeLine; decide), fun T nT => ?_⟩
            have sT := same_put (o := .tup [endV low, .int (st - 1), .int 0]) nT
            have nTF : T ≠ F0 := (ne_of_none hF nT).symm
            refine ⟨F0, xs, _, rfl, rfl, sT _ _ hF, (by rw [sizeLine_eq]; omega), ?_⟩
            have k2 : Kept F0 G (upd (upd G T (.tup [endV low, .int (st - 1), .int 0])) F0 (.lst (xs ++ [.ref T]))) := fun b o n e => by
              rw [upd_ne n]
              exact sT _ _ e
            refine nxt _ _ ⟨xs ++ [.ref T], acc ++ [(low, some (st - 1), 0)], rfl, kk.trans k2, upd_same, ?_, (by rw [List.length_append]; show xs.length + 1 ≤ _; omega), ?_, k2 _ _ (fun e => by subst e; rw [hF] at ha; cases ha) ha⟩
            · exact pcs_snoc ⟨T, rfl, by rw [upd_ne nTF, upd_same]; rfl⟩ (hpc.imp fun x p z => z.kept k2 hF)
            · show _ = acc ++ (if low = some st then [] else _)
              rw [if_neg n]
          · have y : low = some st := by
              have c2 : (!decide (V.int st = endV low)) = false := c
              have c3 : V.int st = endV low := by
                by_cases d : V.int st = endV low
                · exact d
                · rw [decide_eq_false d] at c2
                  cases c2
              cases low with
              | none => cases c3
              | some z => rw [V.int.inj c3]
            refine nxt _ _ ⟨xs, acc, rfl, kk, hF, hpc, by omega, ?_, ha⟩
            show acc = acc ++ (if low = some st then [] else _)
            rw [if_pos y, List.append_nil]
    · rintro σ G ⟨low, xs, acc, y3, y4, y5, y6, rfl, kk, hF, hpc, hxl, hacc⟩
      have sG : Same H G := fun x o e => kk x o (ne_of_none e nF) (sF _ _ e)
      rw [hlen, List.drop_length] at hacc
      refine ⟨_, rfl, .inl ⟨rfl, _, SqL.of hF⟩, _, rfl, (by show 3 ≤ sizeLine; decide), fun T nT => ?_⟩
      have sT := same_put (o := .tup [endV low, .non, .int 0]) nT
      have nTF : T ≠ F0 := (ne_of_none hF nT).symm
      refine ⟨F0, xs, _, rfl, rfl, sT _ _ hF, (by rw [sizeLine_eq]; omega), _, rfl, ?_⟩
      have k2 : Kept F0 G (upd (upd G T (.tup [endV low, .non, .int 0])) F0 (.lst (xs ++ [.ref T]))) := fun b o n e => by
        rw [upd_ne n]
        exact sT _ _ e
      refine k F0 _ _ nF (fun x o e => (kk.trans k2) x o (ne_of_none e nF) (sF _ _ e)) upd_same ?_
      rw [← hacc]
      exact pcs_snoc ⟨T, rfl, by rw [upd_ne nTF, upd_same]; rfl⟩ (hpc.imp fun x p z => z.kept k2 hF)
end
end K04

set_option Elab.async false
set_option maxRecDepth 100000
set_option maxHeartbeats 2000000
/-! sorted(xs) and min(xs) of a list of alike data (numbers, texts, tuples of these). -/
namespace KX
open PySem PySem.Spec PySem.W PyProof.Rows L2
theorem dp_all {K : PySem.W.Frag} {H : Hp} {d : V → PyData} : ∀ {xs : List V}, (∀ x ∈ xs, Dp K H x (d x)) → DpAll K H xs (xs.map d)
  | [], _ => .nil
  | x :: xs, h => .cons (h x List.mem_cons_self) (dp_all fun y hy => h y (List.mem_cons_of_mem _ hy))
theorem each_rel : ∀ {xs : List V} {us : List Value}, Vals xs us → EachIs (fun u x => RelV x u) us xs
  | _, _, .nil => .nil
  | _, _, .cons h t => .cons h (each_rel t)
theorem rel_each : ∀ {xs : List V} {us : List Value}, EachIs (fun u x => RelV x u) us xs → Vals xs us
  | _, _, .nil => .nil
  | _, _, .cons h t => .cons h (rel_each t)
/-- what sorted makes of xs, by their data -/
abbrev srtD (d : V → PyData) (xs : List V) : List V := xs.mergeSort (dataLe false d)
def rSortDp (K : PySem.W.Frag) : List V → Hp → VK → Prop := fun vs H Q => ∃ (a : Addr) (xs : List V) (d : V → PyData), vs = [V.ref a] ∧ SqL K H a xs ∧ (∀ x ∈ xs, Dp K H x (d x)) ∧ AllAlike (xs.map d) ∧ Sortable (xs.map d) ∧ (∀ x ∈ xs, (d x).depth ≤ 60) ∧
  ∀ p, H p = none → Q (.ref p) (upd H p (.lst (srtD d xs)))
def rMinDp (K : PySem.W.Frag) : List V → Hp → VK → Prop := fun vs H Q => ∃ (a : Addr) (x : V) (xs : List V) (d : V → PyData), vs = [V.ref a] ∧ SqL K H a (x :: xs) ∧ (∀ y ∈ x :: xs, Dp K H y (d y)) ∧ AlikeAll ((x :: xs).map d) ∧ PyData.depthAll ((x :: xs).map d) ≤ 60 ∧
  ∀ y ∈ x :: xs, d y = minD (d x) (xs.map d) → Q y H
section
variable {X : Cx}
theorem cr_sortedDp (hu : X.A.units + 64 < cLine) : CallR X (.builtin "sorted") (rSortDp X.K) := by
  intro pins s σ H vs us Q I r h
  obtain ⟨a, xs, d, rfl, hs, hd, hal, hk, hdp, q⟩ := h
  obtain ⟨its, rv, hl, hlen⟩ := I.list hs
  rw [Vals.ref1 r]
  obtain ⟨as, ra⟩ := Dp.readsAll I (xs.map d) xs its (dp_all hd) rv
  refine sorted_data (bs := xs) (enc := d) (R := fun u x => RelV x u) hl.isList (each_rel rv) (readsAll_each d ra) hal hk ?_ (fun b hb => by have := hdp b hb; omega) fun out h1 h2 => ?_
  · first | exact hlen | (have := rv.length; omega)
  obtain ⟨ep, he'⟩ := PyProof.Rows.sortedAll_at s.heap its out.toArray
  have hL : (srtD d xs).length ≤ sizeLine := by
    rw [List.length_mergeSort]
    first | exact hlen | (have := rv.length; omega)
  exact ⟨.ref _, upd H (s.heap.objs.size + 1) (.lst (srtD d xs)), I.laid (t' := s.toks) (fun _ _ => PyProof.Rows.sortedAll_old) (Nat.le_succ _) ⟨hL, out.toArray.toList, ep, rel_each (by simpa using h2), by simpa using he'⟩, rfl, q _ (I.hok.fresh (Nat.le_succ _))⟩
theorem cr_minDp (hc : X.calm = true) (hu : X.A.units + 64 < cLine) : CallR X (.builtin "min") (rMinDp X.K) := by
  intro pins s σ H vs us Q I r h
  obtain ⟨a, x, xs, d, rfl, hs, hd, hal, hdp, q⟩ := h
  obtain ⟨its, rv, hl, hlen⟩ := I.list hs
  rw [Vals.ref1 r]
  obtain ⟨as, ra⟩ := Dp.readsAll I ((x :: xs).map d) (x :: xs) its (dp_all hd) rv
  refine min_list_data (I.ok.hd hc) hl.isList (x := d x) (xs := xs.map d) (by simpa using ra) hal (by show _ + 1 + PyData.depthAll ((x :: xs).map d) < _; omega) fun i v h' tk bs hv hr kp => ?_
  have hv' : its[i]? = some v := by simpa using hv
  have hix : i < (x :: xs).length := by
    have := (List.getElem?_eq_some_iff.mp hv').1
    rw [rv.length]
    exact this
  obtain ⟨u, hu2, ru⟩ := rv.get (List.getElem?_eq_getElem hix)
  obtain rfl : u = v := Option.some.inj (hu2.symm.trans hv')
  have hm : (x :: xs)[i] ∈ x :: xs := List.getElem_mem hix
  obtain ⟨as2, r2⟩ := Dp.reads I _ _ u (hd _ hm) ru
  have e := (Reads.unique (PyProof.Rows.Reads.keeps kp r2) _ _ hr).1
  exact ⟨_, H, I.kept kp, ru, q _ hm e⟩
end
end KX

set_option Elab.async false
set_option maxRecDepth 100000
set_option maxHeartbeats 1000000
namespace K04
open PySem PySem.Spec PySem.W PyProof.Rows L2 He KX
abbrev sWit : Stmt := top 20
abbrev sFl : Stmt := top 21
abbrev sFh : Stmt := top 22
abbrev sFd : Stmt := top 23
abbrev sHci : Stmt := top 24
abbrev sDb : Stmt := top 25
abbrev sFf : Stmt := inClass (top 7) 11
abbrev Trs (H : Hp) (xs : List V) (W : List Tri) : Prop := Pcs H xs (W.map wrap)
/-- a fault as it stands -/
def FV (H : Hp) (v : V) : Flt → Prop
  | .no => v = .non
  | .low p => ∃ t, v = .ref t ∧ H t = some (.tup [.str "low", .int p])
  | .high p => ∃ t, v = .ref t ∧ H t = some (.tup [.str "high", .int p])
  | .dbl p q => ∃ t, v = .ref t ∧ H t = some (.tup [.str "double", .int p, .int q])
def oF (f : Int → Flt) : Option Int → Flt
  | some p => f p
  | none => .no
def oD : Option (Int × Int) → Flt
  | some (p, q) => .dbl p q
  | none => .no
def spWit (K : PySem.W.Frag) : Sp := fun vs H Q _ => ∃ (t : Addr) (zs : List V) (ps : List Pc) (N : Int), vs = [.ref t, .int N] ∧ SqT K H t zs ∧ Pcs H zs ps ∧ ps.length ≤ 100 ∧ Chain ps ∧
  ∀ F xs H', Same H H' → H' F = some (.lst xs) → Pcs H' xs ((runs none ps).filterMap (clip N)) → xs.length ≤ 201 → Q (.ref F) H'
def spFl (K : PySem.W.Frag) : Sp := fun vs H Q _ => ∃ (l : Addr) (xs : List V) (W : List Tri), vs = [.ref l] ∧ SqL K H l xs ∧ Trs H xs W ∧ ∀ v H', Same H H' → FV H' v (oF .low (lowF W)) → Q v H'
def spFh (K : PySem.W.Frag) : Sp := fun vs H Q _ => ∃ (l : Addr) (xs : List V) (W : List Tri) (N : Int), vs = [.ref l, .int N] ∧ SqL K H l xs ∧ Trs H xs W ∧ ∀ v H', Same H H' → FV H' v (oF .high (highF N W)) → Q v H'
def spHci : Sp := fun vs H Q _ => ∃ (x y : V) (r o : Tri), vs = [x, y] ∧ IsPc H x (wrap r) ∧ IsPc H y (wrap o) ∧ Q (.bl (comI r o)) H
def spDb : Sp := fun vs H Q _ => ∃ (x y : V) (r o : Tri), vs = [x, y] ∧ IsPc H x (wrap r) ∧ IsPc H y (wrap o) ∧ ∀ T, H T = none → Q (.ref T) (upd H T (.tup [.int (dblI r o).1, .int (dblI r o).2]))
def spFd (K : PySem.W.Frag) : Sp := fun vs H Q _ => ∃ (l : Addr) (xs : List V) (W : List Tri), vs = [.ref l] ∧ SqL K H l xs ∧ Trs H xs W ∧ xs.length ≤ 1000 ∧ ∀ v H', Same H H' → FV H' v (oD (dblF [] W)) → Q v H'
def spFf (K : PySem.W.Frag) : Sp := fun vs H Q _ => ∃ (a : Addr) (ns : List Pc) (N : Int), vs = [.ref a, .int N] ∧ SlAt K H a ns ∧ Nf ns ∧ ns.length ≤ 100 ∧ ∀ v H' x, Same H H' → FV H' v x → FIs (mapP ns) N x → Q v H'
theorem tri_at {H : Hp} {xs : List V} {W : List Tri} {i : Nat} {x : V} (h : Trs H xs W) (e : xs[i]? = some x) : ∃ r, W[i]? = some r ∧ IsPc H x (wrap r) := by
  obtain ⟨p, hp, hx⟩ := pcs_at h e
  rw [List.getElem?_map] at hp
  obtain ⟨r, hr, rfl⟩ := Option.map_eq_some_iff.mp hp
  exact ⟨r, hr, hx⟩
section
variable {P : Program} {w : World} {K : PySem.W.Frag} {mg : Str → Option Value} {base : Heap}
theorem scHci : FnScope ["run", "other"] ["run", "other"] (defScope sHci) := ⟨rfl, rfl, rfl, by decide +kernel, rfl, by decide +kernel, by decide +kernel⟩
theorem ok_hci {f : Addr} {fd : FuncData} (F : FnP K "_have_common_image" sHci f fd) : FnOk P w K mg base CX0 1 f fd ["run", "other"] spHci := by
  refine F.ok scHci (fun vs H Q E h => ?_) (fun cdv A outer s H vs Q E hr h => ?_)
  · obtain ⟨x, y, r, o, rfl, _⟩ := h
    rfl
  · obtain ⟨x, y, ⟨rl, rh, rb⟩, ⟨ol, oh, ob⟩, rfl, ⟨a, rfl, ha⟩, ⟨b, rfl, hb⟩, k⟩ := h
    have nd := scHci.nd
    refine ⟨_, PSs.nox (pss_one (ps_ret (pe_and (pe_cmpR op_le (pe_op op_add (pe_ix ix_tup (pv 0) pe_int (fun _ _ => rfl)) (pe_ix ix_tup (pv 0) pe_int (fun _ _ => rfl))) (pe_op op_add (pe_ix ix_tup (pv 1) pe_int (fun _ _ => rfl)) (pe_ix ix_tup (pv 1) pe_int (fun _ _ => rfl))) (nomark _)) (pe_one (pe_cmpR op_le (pe_op op_add (pe_ix ix_tup (pv 1) pe_int (fun _ _ => rfl)) (pe_ix ix_tup (pv 1) pe_int (fun _ _ => rfl))) (pe_op op_add (pe_ix ix_tup (pv 0) pe_int (fun _ _ => rfl)) (pe_ix ix_tup (pv 0) pe_int (fun _ _ => rfl))) (nomark _)))))), ?_⟩
    refine ⟨_, rfl, _, _, _, _, rfl, rfl, SqT.of ha, rfl, _, rfl, _, _, _, _, rfl, rfl, SqT.of ha, rfl, _, _, rfl, rfl, _, rfl, _, _, _, _, rfl, rfl, SqT.of hb, rfl, _, rfl, _, _, _, _, rfl, rfl, SqT.of hb, rfl, _, _, rfl, rfl, _, _, rfl, rfl, _, rfl, ite2' (fun c => ?_) (fun c => ?_)⟩
    · refine ⟨_, rfl, _, _, _, _, rfl, rfl, SqT.of hb, rfl, _, rfl, _, _, _, _, rfl, rfl, SqT.of hb, rfl, _, _, rfl, rfl, _, rfl, _, _, _, _, rfl, rfl, SqT.of ha, rfl, _, rfl, _, _, _, _, rfl, rfl, SqT.of ha, rfl, _, _, rfl, rfl, _, _, rfl, rfl, ?_⟩
      have e : comI (rl, rh, rb) (ol, oh, ob) = decide (ol + ob ≤ rh + rb) := by
        unfold comI
        rw [show decide ((rl, rh, rb).1 + (rl, rh, rb).2.2 ≤ (ol, oh, ob).2.1 + (ol, oh, ob).2.2) = true from c]
        rfl
      rw [e] at k
      exact k
    · have e : comI (rl, rh, rb) (ol, oh, ob) = false := by
        unfold comI
        rw [show decide ((rl, rh, rb).1 + (rl, rh, rb).2.2 ≤ (ol, oh, ob).2.1 + (ol, oh, ob).2.2) = false from c]
        rfl
      rw [e] at k
      exact k
theorem scDb : FnScope ["run", "other", "image"] ["run", "other"] (defScope sDb) := ⟨rfl, rfl, rfl, by decide +kernel, rfl, by decide +kernel, by decide +kernel⟩
theorem max_if (i j : Int) : (if j > i then j else i) = max i j := by split <;> omega
theorem ok_db {f : Addr} {fd : FuncData} (F : FnP K "_double" sDb f fd) (n_max : mg "max" = none) : FnOk P w K mg base CX0 1 f fd ["run", "other"] spDb := by
  refine F.ok scDb (fun vs H Q E h => ?_) (fun cdv A outer s H vs Q E hr h => ?_)
  · obtain ⟨x, y, r, o, rfl, _⟩ := h
    rfl
  · obtain ⟨x, y, ⟨rl, rh, rb⟩, ⟨ol, oh, ob⟩, rfl, ⟨a, rfl, ha⟩, ⟨b, rfl, hb⟩, k⟩ := h
    have nd := scDb.nd
    refine ⟨_, PSs.nox (pss_cons (ps_set (i := 2) nd rfl (Or.inl rfl) (pe_callB (call_max2 rfl) (by rfl) n_max (by decide +kernel) (pa_cons (pe_op op_add (pe_ix ix_tup (pv 0) pe_int (fun _ _ => rfl)) (pe_ix ix_tup (pv 0) pe_int (fun _ _ => rfl))) (pa_cons (pe_op op_add (pe_ix ix_tup (pv 1) pe_int (fun _ _ => rfl)) (pe_ix ix_tup (pv 1) pe_int (fun _ _ => rfl))) pa_nil))))
(pss_one (ps_ret (pe_tup (pa_cons (pe_op op_sub (pv 2) (pe_ix ix_tup (pv 1) pe_int (fun _ _ => rfl))) (pa_cons (pe_op op_sub (pv 2) (pe_ix ix_tup (pv 0) pe_int (fun _ _ => rfl))) pa_nil)))))), ?_⟩
    refine ⟨_, rfl, _, _, _, _, rfl, rfl, SqT.of ha, rfl, _, rfl, _, _, _, _, rfl, rfl, SqT.of ha, rfl, _, _, rfl, rfl, _, rfl, _, _, _, _, rfl, rfl, SqT.of hb, rfl, _, rfl, _, _, _, _, rfl, rfl, SqT.of hb, rfl, _, _, rfl, rfl, _, _, rfl, ?_⟩
    dsimp only [gName, List.set]
    refine ⟨_, rfl, _, rfl, _, _, _, _, rfl, rfl, SqT.of hb, rfl, _, _, rfl, rfl, _, rfl, _, rfl, _, _, _, _, rfl, rfl, SqT.of ha, rfl, _, _, rfl, rfl, (by show 2 ≤ sizeLine; decide), fun T nT => ?_⟩
    have q := k T nT
    have e : max (rl + rb) (ol + ob) = if ol + ob > rl + rb then ol + ob else rl + rb := (max_if _ _).symm
    unfold dblI at q
    dsimp only at q
    rw [e] at q
    exact q
theorem lowF_at {W : List Tri} {i : Nat} {l h b : Int} (e : W[i]? = some (l, h, b)) : lowF (W.drop i) = if l + b < 1 then some l else lowF (W.drop (i + 1)) := by
  rw [drop_at e]
  rfl
theorem highF_at {N : Int} {W : List Tri} {i : Nat} {l h b : Int} (e : W[i]? = some (l, h, b)) : highF N (W.drop i) = if h + b > N then some (max l (N - b + 1)) else highF N (W.drop (i + 1)) := by
  rw [drop_at e]
  rfl
theorem scFl : FnScope ["runs", "low", "high", "by"] ["runs"] (defScope sFl) := ⟨rfl, rfl, rfl, by decide +kernel, rfl, by decide +kernel, by decide +kernel⟩
theorem ok_fl {f : Addr} {fd : FuncData} (F : FnP K "_first_low" sFl f fd) : FnOk P w K mg base CX0 1 f fd ["runs"] (spFl K) := by
  refine F.ok scFl (fun vs H Q E h => ?_) (fun cdv A outer s H vs Q E hr h => ?_)
  · obtain ⟨l, xs, W, rfl, _⟩ := h
    rfl
  · obtain ⟨l, xs, W, rfl, hz, hP, k⟩ := h
    have nd := scFl.nd
    refine ⟨_, PSs.nox (pss_cons (ps_for PassesOwn.never rfl (pi_list (pv 0)) (pg_tup rfl (pgs_cons (pg_name (i := 1) nd rfl (Or.inl rfl)) (pgs_cons (pg_name (i := 2) nd rfl (Or.inl rfl)) (pgs_cons (pg_name (i := 3) nd rfl (Or.inl rfl)) pgs_nil))))
(pss_one (ps_if (pt_cmpR op_lt (pe_op op_add (pv 1) (pv 3)) pe_int (nomark _))
(pss_one (ps_ret (pe_tup (pa_cons pe_str (pa_cons (pv 1) pa_nil)))))
pss_nil)))
(pss_one (ps_ret pe_non))), ?_⟩
    have hl := Paired.length hP
    rw [List.length_map] at hl
    refine ⟨_, rfl, l, rfl, ⟨xs, hz⟩, ?_⟩
    refine for_it (walk_list (K := K) (a := l) (xs := xs)) (fun i σ G => ∃ y1 y2 y3, σ = [some (.ref l), y1, y2, y3] ∧ G = H ∧ lowF W = lowF (W.drop i))
      ⟨none, none, none, rfl, rfl, rfl⟩ (fun i σ G _ h => by obtain ⟨_, _, _, _, e, _⟩ := h; rw [e]; exact hz) ?_ ?_
    · rintro i x σ G G' hi ⟨y1, y2, y3, rfl, rfl, hb⟩ ⟨rfl, hx⟩
      obtain ⟨r, hr0, hrx⟩ := tri_at hP hx
      obtain ⟨rl, rh, rb⟩ := r
      obtain ⟨a, rfl, ha⟩ := hrx
      rw [lowF_at hr0] at hb
      refine ⟨a, _, rfl, SqT.of ha, rfl, _, _, rfl, _, _, rfl, _, _, rfl, rfl, ?_⟩
      dsimp only [gName, List.set]
      refine ⟨_, rfl, _, rfl, _, _, rfl, rfl, _, _, rfl, rfl, _, rfl, ite2' (fun c => ?_) (fun c => ?_)⟩
      · replace c : rl + rb < 1 := of_decide_eq_true c
        rw [if_pos c] at hb
        refine ⟨_, rfl, (by show 2 ≤ sizeLine; decide), fun T nT => ?_⟩
        refine k _ _ (same_put nT) ?_
        rw [hb]
        exact ⟨T, rfl, upd_same⟩
      · replace c : ¬ rl + rb < 1 := of_decide_eq_false c
        rw [if_neg c] at hb
        exact ⟨_, _, _, rfl, rfl, hb⟩
    · rintro σ G ⟨y1, y2, y3, rfl, rfl, hb⟩
      rw [hl, List.drop_length] at hb
      refine k _ _ (.refl _) ?_
      rw [hb]
      rfl
theorem scFh : FnScope ["runs", "count", "low", "high", "by"] ["runs", "count"] (defScope sFh) := ⟨rfl, rfl, rfl, by decide +kernel, rfl, by decide +kernel, by decide +kernel⟩
theorem ok_fh {f : Addr} {fd : FuncData} (F : FnP K "_first_high" sFh f fd) (n_max : mg "max" = none) : FnOk P w K mg base CX0 1 f fd ["runs", "count"] (spFh K) := by
  refine F.ok scFh (fun vs H Q E h => ?_) (fun cdv A outer s H vs Q E hr h => ?_)
  · obtain ⟨l, xs, W, N, rfl, _⟩ := h
    rfl
  · obtain ⟨l, xs, W, N, rfl, hz, hP, k⟩ := h
    have nd := scFh.nd
    refine ⟨_, PSs.nox (pss_cons (ps_for PassesOwn.never rfl (pi_list (pv 0)) (pg_tup rfl (pgs_cons (pg_name (i := 2) nd rfl (Or.inl rfl)) (pgs_cons (pg_name (i := 3) nd rfl (Or.inl rfl)) (pgs_cons (pg_name (i := 4) nd rfl (Or.inl rfl)) pgs_nil))))
(pss_one (ps_if (pt_cmpR op_gt (pe_op op_add (pv 3) (pv 4)) (pv 1) (nomark _))
(pss_one (ps_ret (pe_tup (pa_cons pe_str (pa_cons (pe_callB (call_max2 rfl) (by rfl) n_max (by decide +kernel) (pa_cons (pv 2) (pa_cons (pe_op op_add (pe_op op_sub (pv 1) (pv 4)) pe_int) pa_nil))) pa_nil)))))
pss_nil)))
(pss_one (ps_ret pe_non))), ?_⟩
    have hl := Paired.length hP
    rw [List.length_map] at hl
    refine ⟨_, rfl, l, rfl, ⟨xs, hz⟩, ?_⟩
    refine for_it (walk_list (K := K) (a := l) (xs := xs)) (fun i σ G => ∃ y1 y2 y3, σ = [some (.ref l), some (.int N), y1, y2, y3] ∧ G = H ∧ highF N W = highF N (W.drop i))
      ⟨none, none, none, rfl, rfl, rfl⟩ (fun i σ G _ h => by obtain ⟨_, _, _, _, e, _⟩ := h; rw [e]; exact hz) ?_ ?_
    · rintro i x σ G G' hi ⟨y1, y2, y3, rfl, rfl, hb⟩ ⟨rfl, hx⟩
      obtain ⟨r, hr0, hrx⟩ := tri_at hP hx
      obtain ⟨rl, rh, rb⟩ := r
      obtain ⟨a, rfl, ha⟩ := hrx
      rw [highF_at hr0] at hb
      refine ⟨a, _, rfl, SqT.of ha, rfl, _, _, rfl, _, _, rfl, _, _, rfl, rfl, ?_⟩
      dsimp only [gName, List.set]
      refine ⟨_, rfl, _, rfl, _, _, rfl, rfl, _, rfl, _, _, rfl, rfl, _, rfl, ite2' (fun c => ?_) (fun c => ?_)⟩
      · replace c : rh + rb > N := of_decide_eq_true c
        rw [if_pos c] at hb
        refine ⟨_, rfl, _, rfl, _, rfl, _, _, rfl, rfl, _, _, rfl, rfl, _, _, rfl, (by show 2 ≤ sizeLine; decide), fun T nT => ?_⟩
        refine k _ _ (same_put nT) ?_
        rw [hb]
        refine ⟨T, rfl, ?_⟩
        rw [← max_if]
        exact upd_same
      · replace c : ¬ rh + rb > N := of_decide_eq_false c
        rw [if_neg c] at hb
        exact ⟨_, _, _, rfl, rfl, hb⟩
    · rintro σ G ⟨y1, y2, y3, rfl, rfl, hb⟩
      rw [hl, List.drop_length] at hb
      refine k _ _ (.refl _) ?_
      rw [hb]
      rfl
def pairD (p : Int × Int) : PyData := .tuple [.int p.1, .int p.2]
theorem minD_pairs : ∀ (xs : List (Int × Int)) (x : Int × Int), minD (pairD x) (xs.map pairD) = pairD (lexMin x xs)
  | [], x => rfl
  | y :: ys, x => by
    have ih := minD_pairs ys (if SrtO.lexB y x = true then y else x)
    have e : dataLt (pairD y) (pairD x) = SrtO.lexB y x := by
      unfold pairD
      rw [dataLt_ii]
      cases c : SrtO.lexB y x with
      | true => exact decide_eq_true (SrtO.lexB_iff.mp c)
      | false => exact decide_eq_false (SrtO.lexB_no.mp c)
    show minD (if dataLt (pairD y) (pairD x) then pairD y else pairD x) (ys.map pairD) = pairD (lexMin (if SrtO.lexB y x = true then y else x) ys)
    rw [← ih, e]
    congr 1
    split <;> rfl
theorem pairs_depth : ∀ xs : List (Int × Int), PyData.depthAll (xs.map pairD) ≤ 60
  | [] => Nat.zero_le _
  | x :: xs => Nat.max_le.mpr ⟨by simp [pairD, PyData.depth, PyData.depthAll], pairs_depth xs⟩
/-- pairs as they stand -/
def IsPr (H : Hp) (x : V) (p : Int × Int) : Prop := ∃ a, x = .ref a ∧ H a = some (.tup [.int p.1, .int p.2])
def prAt (H : Hp) (x : V) : Int × Int := match x with
  | .ref a => match H a with
    | some (.tup [.int i, .int j]) => (i, j)
    | _ => (0, 0)
  | _ => (0, 0)
theorem prAt_of {H : Hp} {x : V} {p : Int × Int} (h : IsPr H x p) : prAt H x = p := by
  obtain ⟨a, rfl, e⟩ := h
  show (match H a with
    | some (.tup [.int i, .int j]) => (i, j)
    | _ => (0, 0)) = p
  rw [e]
theorem prs_map {H : Hp} : ∀ {xs : List V} {ps : List (Int × Int)}, Paired (IsPr H) xs ps → xs.map (prAt H) = ps ∧ ∀ x ∈ xs, IsPr H x (prAt H x)
  | _, _, .nil => ⟨rfl, fun _ h => nomatch h⟩
  | _, _, .cons h t => by
    obtain ⟨i1, i2⟩ := prs_map t
    refine ⟨by rw [List.map_cons, prAt_of h, i1], fun x hx => ?_⟩
    rcases List.mem_cons.mp hx with rfl | hx
    · rw [prAt_of h]; exact h
    · exact i2 x hx
theorem IsPr.same {H G : Hp} {x : V} {p : Int × Int} (s : Same H G) (h : IsPr H x p) : IsPr G x p := h.imp fun a h => ⟨h.1, s _ _ h.2⟩
theorem pr_imp {H G : Hp} (f : ∀ x p, IsPr H x p → IsPr G x p) : ∀ {xs : List V} {ps : List (Int × Int)}, Paired (IsPr H) xs ps → Paired (IsPr G) xs ps
  | _, _, .nil => .nil
  | _, _, .cons h t => .cons (f _ _ h) (pr_imp f t)
theorem pr_snoc {H : Hp} {x : V} {p : Int × Int} (h : IsPr H x p) : ∀ {xs : List V} {ps : List (Int × Int)}, Paired (IsPr H) xs ps → Paired (IsPr H) (xs ++ [x]) (ps ++ [p])
  | _, _, .nil => .cons h .nil
  | _, _, .cons q t => .cons q (pr_snoc h t)
theorem scFd : FnScope ["runs", "index", "run", "found", "q", "p", "earlier"] ["runs"] (defScope sFd) := ⟨rfl, rfl, rfl, by decide +kernel, rfl, by decide +kernel, by decide +kernel⟩
theorem ok_fd {f fD fH : Addr} {fd fdD fdH : FuncData} (F : FnP K "_first_double" sFd f fd) (GD : FnOk P w K mg base CX0 1 fD fdD ["run", "other"] spDb) (bD : L2.Binds K fdD ["run", "other"] []) (kD : PySem.W.keepIn K (.ref fD) = true) (gD : mg "_double" = some (.ref fD))
    (GH : FnOk P w K mg base CX0 1 fH fdH ["run", "other"] spHci) (bH : L2.Binds K fdH ["run", "other"] []) (kH : PySem.W.keepIn K (.ref fH) = true) (gH : mg "_have_common_image" = some (.ref fH)) (n_enumerate : mg "enumerate" = none) (n_min : mg "min" = none) : FnOk P w K mg base CX0 2 f fd ["runs"] (spFd K) := by
  refine F.ok scFd (fun vs H Q E h => ?_) (fun cdv A outer s H vs Q E hr h => ?_)
  · obtain ⟨l, xs, W, rfl, _⟩ := h
    rfl
  · obtain ⟨l, xs, W, rfl, hz, hP, hlx, k⟩ := h
    have nd := scFd.nd
    have hu := hr.units
    refine ⟨_, PSs.nox (pss_cons (ps_for PassesOwn.never rfl (pi_enum (by rfl) n_enumerate (pa_cons (pv 0) pa_nil)) (pg_tup rfl (pgs_cons (pg_name (i := 1) nd rfl (Or.inl rfl)) (pgs_cons (pg_name (i := 2) nd rfl (Or.inr rfl)) pgs_nil)))
(pss_cons (ps_setLc (i := 3) (own := [("earlier", 6)]) (g := (gName 6))  rfl nd rfl rfl (sw_true rfl rfl rfl (by decide +kernel)) (pi_list (pe_slice sl_list (pv 0) po_none (po_some (pv 1)))) (blkOk_by (own := [("earlier", 6)]) (N := ["runs", "index", "run", "found", "q", "p", "earlier"]) (sc := defScope sFd) (by decide +kernel)) (fun _ _ _ _ _ => (pg_name (i := 6) nd rfl (Or.inl rfl))) (fun _ _ _ _ _ => (pts_one (pt_val (pe_call GH hr (by rfl) gH kH bH .nil pass0 (pa_cons (pv 6) (pa_cons (pv 2) pa_nil)))))) (fun _ _ _ _ _ => (pe_call GD hr (by rfl) gD kD bD .nil pass0 (pa_cons (pv 6) (pa_cons (pv 2) pa_nil)))))
(pss_one (ps_if (pt_truth (pv 3) (by intro _; rfl))
(pss_cons (ps_asg (pe_callB (cr_minDp rfl hu) (by rfl) n_min (by decide +kernel) (pa_cons (pv 3) pa_nil)) (pg_tup rfl (pgs_cons (pg_name (i := 4) nd rfl (Or.inl rfl)) (pgs_cons (pg_name (i := 5) nd rfl (Or.inl rfl)) pgs_nil))))
(pss_one (ps_ret (pe_tup (pa_cons pe_str (pa_cons (pv 5) (pa_cons (pv 4) pa_nil)))))))
pss_nil))))
(pss_one (ps_ret pe_non))), ?_⟩
    have hl := Paired.length hP
    rw [List.length_map] at hl
    refine ⟨_, rfl, l, xs, rfl, hz, ?_⟩
    refine for_it (walk_enum (K := K) (a := l) (xs := xs)) (fun i σ G => ∃ y1 y2 y3 y4 y5, σ = [some (.ref l), y1, y2, y3, y4, y5, none] ∧ Same H G ∧ dblF [] W = dblF (W.take i) (W.drop i))
      ⟨none, none, none, none, none, rfl, .refl _, rfl⟩ (fun i σ G _ h => by obtain ⟨_, _, _, _, _, _, q, _⟩ := h; exact sqL_same q hz) ?_ ?_
    · rintro i x σ G G' hi ⟨y1, y2, y3, y4, y5, rfl, sG, hb⟩ ⟨T, v1, v2, rfl, nT, rfl, e1, hx⟩
      cases e1
      obtain ⟨r, hr0, hrx⟩ := tri_at hP hx
      have sT := same_put (o := .tup [.int (i : Nat), v2]) nT
      have hT : upd G T (.tup [.int (i : Nat), v2]) T = some (.tup [.int (i : Nat), v2]) := upd_same
      generalize upd G T (.tup [.int (i : Nat), v2]) = G1 at sT hT
      have s1 := sG.trans sT
      have hrx1 := hrx.same s1
      refine ⟨T, _, rfl, SqT.of hT, rfl, _, _, rfl, _, _, rfl, rfl, ?_⟩
      dsimp only [gName, List.set]
      have hz1 := sqL_same s1 hz
      refine ⟨_, rfl, _, rfl, _, rfl, l, xs, rfl, hz1, fun S nS => ⟨S, rfl, ⟨_, SqL.of upd_same⟩, fun D nD => ?_⟩⟩
      rw [cut_to _ _ (Nat.le_of_lt hi)] at nD ⊢
      have sS := same_put (o := .lst (xs.take i)) nS
      have hS : upd G1 S (.lst (xs.take i)) S = some (.lst (xs.take i)) := upd_same
      generalize upd G1 S (.lst (xs.take i)) = G2 at sS hS nD
      have s2 := s1.trans sS
      have hrx2 := hrx1.same sS
      refine lc_it (walk_list (K := K) (a := S) (xs := xs.take i)) (fun j J => ∃ ys, J D = some (.lst ys) ∧ ys.length ≤ j ∧ Same G2 J ∧ Paired (IsPr J) ys (((W.take j).filter fun e => comI e r).map fun e => dblI e r)) ⟨[], upd_same, Nat.le_refl _, same_put nD, .nil⟩ (fun _ _ _ h => by obtain ⟨_, _, _, q, _⟩ := h; exact SqL.of (q _ _ hS)) ?_ ?_
      · rintro j x J' J hj ⟨ys, hD, hyl, sJ, hpr⟩ ⟨rfl, hxj⟩
        rw [List.length_take] at hj
        have hxj2 : xs[j]? = some x := by rw [List.getElem?_take] at hxj; split at hxj <;> first | exact hxj | cases hxj
        obtain ⟨e, he, hex⟩ := tri_at hP hxj2
        have hexJ := hex.same (s2.trans sJ)
        have hrJ := hrx2.same sJ
        have htk : ((W.take (j + 1)).filter fun e => comI e r).map (fun e => dblI e r) = ((W.take j).filter fun e => comI e r).map (fun e => dblI e r) ++ (if comI e r = true then [dblI e r] else []) := by
          rw [take_at he, List.filter_append, List.map_append, List.filter_cons]
          split <;> rfl
        refine ⟨rfl, _, rfl, _, rfl, x, v2, e, r, rfl, hexJ, hrJ, ?_⟩
        refine ⟨_, rfl, ite2' (fun c => ?_) (fun c => ?_)⟩
        · refine ⟨_, rfl, _, rfl, x, v2, e, r, rfl, hexJ, hrJ, fun U nU => ⟨ys, same_put nU _ _ hD, (by rw [sizeLine_eq]; omega), ys ++ [.ref U], upd_same, (by rw [List.length_append]; show ys.length + 1 ≤ _; omega), ?_, ?_⟩⟩
          · exact fun u o eu => by rw [upd_ne (ne_of_none eu nD)]; exact same_put nU _ _ (sJ _ _ eu)
          · have nUD : U ≠ D := (ne_of_none hD nU).symm
            rw [htk, if_pos c]
            refine pr_snoc ⟨U, rfl, by rw [upd_ne nUD, upd_same]⟩ (pr_imp (fun y p hy => ?_) hpr)
            obtain ⟨b, rfl, hb⟩ := hy
            refine ⟨b, rfl, ?_⟩
            rw [upd_ne (fun z => by subst z; rw [hD] at hb; cases hb), upd_ne (ne_of_none hb nU)]
            exact hb
        · refine ⟨ys, hD, (by omega), sJ, ?_⟩
          rw [htk, if_neg (by rw [c]; decide), List.append_nil]
          exact hpr
      · rintro J ⟨ys, hD, hyl, sJ, hpr⟩
        rw [List.length_take, Nat.min_eq_left (Nat.le_of_lt hi)] at hpr
        have s3 := s2.trans sJ
        have hdr := drop_at hr0
        have hstep : dblF (W.take i) (W.drop i) = match fndI (W.take i) r with
          | [] => dblF (W.take (i + 1)) (W.drop (i + 1))
          | x :: xs => some ((lexMin x xs).2, (lexMin x xs).1) := by
          rw [hdr, take_at hr0]
          rfl
        replace hpr : Paired (IsPr J) ys (fndI (W.take i) r) := hpr
        refine ⟨_, rfl, !ys.isEmpty, .inl ⟨ys, SqL.of hD, rfl⟩, ?_⟩
        cases ys with
        | nil =>
          have ef : fndI (W.take i) r = [] := by
            generalize fndI (W.take i) r = z at hpr
            cases hpr
            rfl
          rw [ef] at hstep
          exact no rfl ⟨_, _, _, _, _, rfl, s3, hb.trans hstep⟩
        | cons y0 yr =>
          obtain ⟨x0, xr, ef⟩ : ∃ x0 xr, fndI (W.take i) r = x0 :: xr := by
            generalize fndI (W.take i) r = z at hpr
            cases hpr
            exact ⟨_, _, rfl⟩
          rw [ef] at hstep hpr
          obtain ⟨m1, m2⟩ := prs_map hpr
          have m1' := List.cons.inj m1
          have em : (yr.map fun x => pairD (prAt J x)) = xr.map pairD := by rw [← m1'.2, List.map_map]; rfl
          refine yes rfl ⟨_, rfl, D, y0, yr, fun x => pairD (prAt J x), rfl, SqL.of hD, (fun y hy => ?_), ⟨fun a ha b hb2 => ?_, fun a ha => ?_⟩, ?_, fun y hy e => ?_⟩
          · obtain ⟨a, rfl, ha⟩ := m2 y hy
            exact .tup (SqT.of ha) (.cons (.int _) (.cons (.int _) .nil))
          · obtain ⟨u, _, rfl⟩ := List.mem_map.mp ha
            obtain ⟨v, _, rfl⟩ := List.mem_map.mp hb2
            rfl
          · obtain ⟨u, _, rfl⟩ := List.mem_map.mp ha
            exact nofun
          · have := pairs_depth ((y0 :: yr).map (prAt J))
            rw [List.map_map] at this
            exact this
          · replace e : pairD (prAt J y) = minD (pairD (prAt J y0)) (yr.map fun x => pairD (prAt J x)) := e
            rw [em, m1'.1, minD_pairs] at e
            obtain ⟨a, rfl, ha⟩ := m2 y hy
            have ep : prAt J (.ref a) = lexMin x0 xr := by
              generalize prAt J (.ref a) = u at e
              generalize lexMin x0 xr = v at e
              obtain ⟨u1, u2⟩ := u
              obtain ⟨v1, v2⟩ := v
              injection e with e
              injection e with f1 f2
              injection f2 with f2 f3
              injection f1 with f1
              injection f2 with f2
              exact Prod.ext f1 f2
            rw [ep] at ha
            refine ⟨a, _, rfl, SqT.of ha, rfl, _, _, rfl, _, _, rfl, rfl, ?_⟩
            refine ⟨_, rfl, _, rfl, (by show 3 ≤ sizeLine; decide), fun U nU => k _ _ (s3.trans (same_put nU)) ?_⟩
            rw [hb.trans hstep]
            exact ⟨U, rfl, upd_same⟩
    · rintro σ G ⟨y1, y2, y3, y4, y5, rfl, sG, hb⟩
      rw [hl, List.drop_length] at hb
      refine k _ _ sG ?_
      rw [hb]
      rfl
theorem scWit : FnScope ["pieces", "count", "found", "low", "high", "by", "part"] ["pieces", "count"] (defScope sWit) := ⟨rfl, rfl, rfl, by decide +kernel, rfl, by decide +kernel, by decide +kernel⟩
theorem ok_wit {f fR fC : Addr} {fd fdR fdC : FuncData} (F : FnP K "_runs_within" sWit f fd) (GR : FnOk P w K mg base CX0 1 fR fdR ["pieces"] (spRuns K)) (bR : L2.Binds K fdR ["pieces"] []) (kR : PySem.W.keepIn K (.ref fR) = true) (gR : mg "_runs" = some (.ref fR))
    (GC : FnOk P w K mg base CX0 1 fC fdC ["low", "high", "start", "end"] spCom) (bC : L2.Binds K fdC ["low", "high", "start", "end"] []) (kC : PySem.W.keepIn K (.ref fC) = true) (gC : mg "_common" = some (.ref fC)) : FnOk P w K mg base CX0 2 f fd ["pieces", "count"] (spWit K) := by
  refine F.ok scWit (fun vs H Q E h => ?_) (fun cdv A outer s H vs Q E hr h => ?_)
  · obtain ⟨t, zs, ps, N, rfl, _⟩ := h
    rfl
  · obtain ⟨t, zs, ps, N, rfl, hz, hP, hl, hch, k⟩ := h
    have nd := scWit.nd
    refine ⟨_, PSs.nox (pss_cons (ps_set (i := 2) nd rfl (Or.inl rfl) (pe_lst pa_nil))
(pss_cons (ps_for PassesOwn.never rfl (pi_list (pe_call GR hr (by rfl) gR kR bR .nil pass0 (pa_cons (pv 0) pa_nil))) (pg_tup rfl (pgs_cons (pg_name (i := 3) nd rfl (Or.inl rfl)) (pgs_cons (pg_name (i := 4) nd rfl (Or.inl rfl)) (pgs_cons (pg_name (i := 5) nd rfl (Or.inl rfl)) pgs_nil))))
(pss_cons (ps_set (i := 6) nd rfl (Or.inl rfl) (pe_call GC hr (by rfl) gC kC bC .nil pass0 (pa_cons (pv 3) (pa_cons (pv 4) (pa_cons pe_int (pa_cons (pv 1) pa_nil))))))
(pss_one (ps_if (pt_cmpR op_notN (pv 6) pe_non (nomark _))
(pss_one (ps_expr (pe_bm PySem.F.plainAttrs_list PySem.F.slot_list_append PySem.F.type_list_append mt_append (pv 2) (pa_cons (pe_tup (pa_cons (pe_ix ix_tup (pv 6) pe_int (fun _ _ => rfl)) (pa_cons (pe_ix ix_tup (pv 6) pe_int (fun _ _ => rfl)) (pa_cons (pv 5) pa_nil)))) pa_nil))))
pss_nil))))
(pss_one (ps_ret (pv 2))))), ?_⟩
    refine ⟨by decide, fun F0 nF => ?_⟩
    have sF := same_put (o := .lst []) nF
    have fF : upd H F0 (.lst []) F0 = some (.lst []) := upd_same
    generalize upd H F0 (.lst []) = HF at sF fF
    refine ⟨_, rfl, t, zs, ps, rfl, sqT_same sF hz, hP.imp (fun x p z => z.same sF), by omega, hch, fun R xs G1 nR s1 hR hpc => ?_⟩
    have nRF : R ≠ F0 := (ne_of_none fF nR).symm
    have fF1 := s1 _ _ fF
    have hlr := runs_len ps none
    have hlx := Paired.length hpc
    generalize runs none ps = rs at hpc hlr hlx k
    have sG1 := sF.trans s1
    refine ⟨R, rfl, ⟨_, SqL.of hR⟩, ?_⟩
    refine for_it (walk_list (K := K) (a := R) (xs := xs)) (fun i σ G => ∃ (ys : List V) (y3 y4 y5 y6 : Option V), σ = [some (.ref t), some (.int N), some (.ref F0), y3, y4, y5, y6] ∧ Kept F0 G1 G ∧ G F0 = some (.lst ys) ∧ ys.length ≤ i ∧ Pcs G ys ((rs.take i).filterMap (clip N)))
      ⟨[], none, none, none, none, rfl, Kept.refl _ _, fF1, Nat.le_refl _, .nil⟩ (fun i σ G _ h => by
        obtain ⟨_, _, _, _, _, _, kk, _⟩ := h
        exact SqL.of (kk _ _ nRF hR)) ?_ ?_
    · rintro i x σ G' G hi ⟨ys, y3, y4, y5, y6, rfl, kk, hF, hyl, hys⟩ ⟨rfl, hx⟩
      obtain ⟨r, hr0, hrx⟩ := pcs_at hpc hx
      have hrx := hrx.kept kk fF1
      obtain ⟨rl, rh, rb⟩ := r
      obtain ⟨a, rfl, ha⟩ := hrx
      have htk : (rs.take (i + 1)).filterMap (clip N) = (rs.take i).filterMap (clip N) ++ (clip N (rl, rh, rb)).toList := by
        rw [take_at hr0, List.filterMap_append, List.filterMap_cons]
        cases clip N (rl, rh, rb) <;> rfl
      refine ⟨a, _, rfl, SqT.of ha, rfl, _, _, rfl, _, _, rfl, _, _, rfl, rfl, ?_⟩
      dsimp only [gName, List.set]
      refine ⟨_, rfl, _, rfl, _, rfl, rl, rh, some 1, some N, rfl, fun ok => ?_, fun ok T nT => ?_⟩
      · have e : clip N (rl, rh, rb) = none := if_neg (by show ¬ okP (maxL rl (some 1)) (minH rh (some N)) = true; rw [ok]; decide)
        refine ⟨_, rfl, rfl, _, rfl, no rfl ⟨ys, _, _, _, _, rfl, kk, hF, by omega, ?_⟩⟩
        rw [htk, e]
        show Pcs _ ys (_ ++ [])
        rw [List.append_nil]
        exact hys
      · have e : clip N (rl, rh, rb) = some (maxL rl (some 1), minH rh (some N), rb) := if_pos ok
        generalize maxL rl (some 1) = L at e nT
        generalize minH rh (some N) = U at e nT
        have sT := same_put (o := .tup [endV L, endV U]) nT
        have hT : upd G T (.tup [endV L, endV U]) T = some (.tup [endV L, endV U]) := upd_same
        generalize upd G T (.tup [endV L, endV U]) = G3 at sT hT
        have hF3 := sT _ _ hF
        refine ⟨_, rfl, rfl, _, rfl, yes rfl ⟨_, rfl, .inl ⟨rfl, _, SqL.of hF3⟩, _, rfl, _, _, _, _, rfl, rfl, SqT.of hT, rfl, _, rfl, _, _, _, _, rfl, rfl, SqT.of hT, rfl, _, rfl, (by show 3 ≤ sizeLine; decide), fun T3 nT3 => ?_⟩⟩
        have sT3 := same_put (o := .tup [endV L, endV U, .int rb]) nT3
        have nTF : T3 ≠ F0 := (ne_of_none hF3 nT3).symm
        refine ⟨F0, ys, _, rfl, rfl, sT3 _ _ hF3, (by rw [sizeLine_eq]; omega), ?_⟩
        have k2 : Kept F0 G (upd (upd G3 T3 (.tup [endV L, endV U, .int rb])) F0 (.lst (ys ++ [.ref T3]))) := fun b o n e => by
          rw [upd_ne n]
          exact sT3 _ _ (sT _ _ e)
        refine ⟨ys ++ [.ref T3], _, _, _, _, rfl, kk.trans k2, upd_same, (by rw [List.length_append]; show ys.length + 1 ≤ _; omega), ?_⟩
        rw [htk, e]
        exact pcs_snoc ⟨T3, rfl, by rw [upd_ne nTF, upd_same]⟩ (hys.imp fun x p z => z.kept k2 hF)
    · rintro σ G ⟨ys, y3, y4, y5, y6, rfl, kk, hF, hyl, hys⟩
      rw [hlx, List.take_length] at hys
      refine ⟨_, rfl, k F0 ys G (fun x o e => kk x o (ne_of_none e nF) (sG1 _ _ e)) hF hys (by omega)⟩
theorem scFf : FnScope ["self", "count", "runs"] ["self", "count"] (defScope sFf) := ⟨rfl, rfl, rfl, by decide +kernel, rfl, by decide +kernel, by decide +kernel⟩
theorem ok_ff {f fW fL fHi fDb : Addr} {fd fdW fdL fdHi fdDb : FuncData} (F : MtP K "first_fault" "Slide.first_fault" sFf f fd) (S : Sld1 K)
    (GW : FnOk P w K mg base CX0 2 fW fdW ["pieces", "count"] (spWit K)) (bW : L2.Binds K fdW ["pieces", "count"] []) (kW : PySem.W.keepIn K (.ref fW) = true) (gW : mg "_runs_within" = some (.ref fW))
    (GL : FnOk P w K mg base CX0 1 fL fdL ["runs"] (spFl K)) (bL : L2.Binds K fdL ["runs"] []) (kL : PySem.W.keepIn K (.ref fL) = true) (gL : mg "_first_low" = some (.ref fL))
    (GHi : FnOk P w K mg base CX0 1 fHi fdHi ["runs", "count"] (spFh K)) (bHi : L2.Binds K fdHi ["runs", "count"] []) (kHi : PySem.W.keepIn K (.ref fHi) = true) (gHi : mg "_first_high" = some (.ref fHi))
    (GDb : FnOk P w K mg base CX0 2 fDb fdDb ["runs"] (spFd K)) (bDb : L2.Binds K fdDb ["runs"] []) (kDb : PySem.W.keepIn K (.ref fDb) = true) (gDb : mg "_first_double" = some (.ref fDb)) : FnOk P w K mg base CX0 3 f fd ["self", "count"] (spFf K) := by
  refine F.ok scFf (fun vs H Q E h => ?_) (fun cdv A outer s H vs Q E hr h => ?_)
  · obtain ⟨a, ns, N, rfl, _⟩ := h
    rfl
  · obtain ⟨a, ns, N, rfl, hA, hn, hl, k⟩ := h
    have nd := scFf.nd
    have hr1 := hr.mono (j := 1) (by decide)
    have hr2 := hr.mono (j := 2) (by decide)
    obtain ⟨dx, tz, z1, hs, hz, hP⟩ := hA
    refine ⟨_, PSs.nox (pss_cons (ps_set (i := 2) nd rfl (Or.inl rfl) (pe_call GW hr2 (by rfl) gW kW bW .nil pass0 (pa_cons (pe_fld (pv 0) rfl) (pa_cons (pv 1) pa_nil))))
(pss_one (ps_ret (pe_orT (pe_call GL hr1 (by rfl) gL kL bL .nil pass0 (pa_cons (pv 2) pa_nil)) (pe_orT (pe_call GHi hr1 (by rfl) gHi kHi bHi .nil pass0 (pa_cons (pv 2) (pa_cons (pv 1) pa_nil))) (pe_one (pe_call GDb hr2 (by rfl) gDb kDb bDb .nil pass0 (pa_cons (pv 2) pa_nil)))))))), ?_⟩
    refine ⟨_, rfl, a, _, dx, _, _, rfl, hs, S.cls, S.noat, rfl, _, rfl, tz, z1, ns, N, rfl, SqT.of hz, hP, hl, hn.chain, fun F0 xs G1 s1 hF hpc hxl => ?_⟩
    obtain ⟨W, e, wr⟩ := within_wr hn N
    rw [e] at hpc
    have fi := first_is wr
    unfold firstF at fi
    have tru : ∀ {G : Hp} {t : Addr} {ys : List V}, G t = some (.tup ys) → ys ≠ [] → TruV K (.ref t) G true := fun h n => .inr (.inl ⟨_, SqT.of h, by cases ‹List V› <;> first | exact absurd rfl n | rfl⟩)
    refine ⟨_, rfl, F0, xs, W, rfl, SqL.of hF, hpc, fun v G2 s2 hv => ?_⟩
    cases e1 : lowF W with
    | some p =>
      rw [e1] at hv fi
      obtain ⟨t, rfl, ht⟩ := hv
      exact ⟨true, tru ht (List.cons_ne_nil _ _), yes rfl (k _ _ (.low p) (s1.trans s2) ⟨t, rfl, ht⟩ fi)⟩
    | none =>
      rw [e1] at hv fi
      obtain rfl : v = .non := hv
      refine ⟨false, rfl, no rfl ?_⟩
      refine ⟨_, rfl, _, rfl, F0, xs, W, N, rfl, SqL.of (s2 _ _ hF), hpc.imp (fun x p z => z.same s2), fun v G3 s3 hv => ?_⟩
      have s23 := s2.trans s3
      cases e2 : highF N W with
      | some p =>
        rw [e2] at hv fi
        obtain ⟨t, rfl, ht⟩ := hv
        exact ⟨true, tru ht (List.cons_ne_nil _ _), yes rfl (k _ _ (.high p) (s1.trans s23) ⟨t, rfl, ht⟩ fi)⟩
      | none =>
        rw [e2] at hv fi
        obtain rfl : v = .non := hv
        refine ⟨false, rfl, no rfl ?_⟩
        refine ⟨_, rfl, F0, xs, W, rfl, SqL.of (s23 _ _ hF), hpc.imp (fun x p z => z.same s23), (by omega), fun v G4 s4 hv => k v G4 _ ((s1.trans s23).trans s4) hv ?_⟩
        cases e3 : dblF [] W with
        | some z => rw [e3] at fi; exact fi
        | none => rw [e3] at fi; exact fi
end
end K04

set_option Elab.async false
set_option maxRecDepth 100000
set_option maxHeartbeats 1000000
/-! List comprehensions whose items are told one by one. -/
namespace KX
open PySem PySem.Spec PyProof.Rows L2
theorem take_fm {α β : Type} {f : α → Option β} {xs : List α} {i : Nat} {x : α} (e : xs[i]? = some x) : (xs.take (i + 1)).filterMap f = (xs.take i).filterMap f ++ (f x).toList := by
  rw [List.take_succ, e, List.filterMap_append]
  show _ ++ List.filterMap f [x] = _
  rw [List.filterMap_cons]
  cases f x <;> rfl
section
variable {K : PySem.W.Frag} {a D : Addr} {σ : L2.St} {vs : List Nat} {g : TG} {tt : TT} {te : TE} {H1 : Hp} {Qd : Hp → Prop}
theorem lc_walk {J : It} {xs : List V} (w : Walk J xs.length (fun H => Same H1 H) (YAt xs)) (nD : H1 D = none) (hn : xs.length ≤ 100000) (f : V → Option V)
    (hs : ∀ (i : Nat) (x : V) (G : Hp) (Qy : V → Hp → Prop) (Qn : Hp → Prop), xs[i]? = some x → Same H1 G → (∀ y H4, f x = some y → Same G H4 → Qy y H4) → (∀ H4, f x = none → Same G H4 → Qn H4) →
      g x (wipe σ vs) G fun σ2 H2 => wipe σ2 vs = wipe σ vs ∧ tt σ2 H2 fun b H3 => if b = true then te σ2 H3 Qy else Qn H3)
    (hd : ∀ G, Same H1 G → G D = some (.lst (xs.filterMap f)) → Qd G) :
    ∃ W : Nat → Nat → Hp → Prop, (∃ m, W 0 m (upd H1 D (.lst []))) ∧ ∀ i m H, W i m H →
      (J.stop i H ∧ Qd H) ∨ (J.go i H ∧ ∃ Nx : Hp → Prop, (∀ H', Nx H' → ∃ m', m' < m ∧ W (i + 1) m' H') ∧ ∀ x H', J.yld i H x H' → g x (wipe σ vs) H' fun σ2 H2 => wipe σ2 vs = wipe σ vs ∧ tt σ2 H2 fun b H3 =>
        if b = true then te σ2 H3 fun y H4 => ∃ acc, H4 D = some (.lst acc) ∧ acc.length < sizeLine ∧ Nx (upd H4 D (.lst (acc ++ [y]))) else Nx H3) := by
  refine lc_it w (fun i G => G D = some (.lst ((xs.take i).filterMap f)) ∧ Same H1 G) ⟨upd_same, same_put nD⟩ (fun _ _ _ h => h.2) ?_ ?_
  · rintro i x G' G hi ⟨hD, sG⟩ ⟨rfl, hx⟩
    have hl : ((xs.take i).filterMap f).length ≤ i := Nat.le_trans (List.length_filterMap_le _ _) (by rw [List.length_take]; omega)
    refine hs i x G _ _ hx sG (fun y H4 e s => ⟨_, s _ _ hD, (by rw [sizeLine_eq]; omega), ?_, fun u o eu => ?_⟩) (fun H4 e s => ⟨?_, sG.trans s⟩)
    · rw [upd_same, take_fm hx, e]
      rfl
    · rw [upd_ne (ne_of_none eu nD)]
      exact s _ _ (sG _ _ eu)
    · rw [take_fm hx, e]
      show H4 D = some (.lst (_ ++ []))
      rw [List.append_nil]
      exact s _ _ hD
  · rintro G ⟨hD, sG⟩
    rw [List.take_length] at hD
    exact hd G sG hD
theorem lcL {xs : List V} (ha : SqL K H1 a xs) (nD : H1 D = none) (hn : xs.length ≤ 100000) (f : V → Option V)
    (hs : ∀ (i : Nat) (x : V) (G : Hp) (Qy : V → Hp → Prop) (Qn : Hp → Prop), xs[i]? = some x → Same H1 G → (∀ y H4, f x = some y → Same G H4 → Qy y H4) → (∀ H4, f x = none → Same G H4 → Qn H4) →
      g x (wipe σ vs) G fun σ2 H2 => wipe σ2 vs = wipe σ vs ∧ tt σ2 H2 fun b H3 => if b = true then te σ2 H3 Qy else Qn H3)
    (hd : ∀ G, Same H1 G → G D = some (.lst (xs.filterMap f)) → Qd G) :
    ∃ W : Nat → Nat → Hp → Prop, (∃ m, W 0 m (upd H1 D (.lst []))) ∧ ∀ i m H, W i m H →
      ((Itl K a).stop i H ∧ Qd H) ∨ ((Itl K a).go i H ∧ ∃ Nx : Hp → Prop, (∀ H', Nx H' → ∃ m', m' < m ∧ W (i + 1) m' H') ∧ ∀ x H', (Itl K a).yld i H x H' → g x (wipe σ vs) H' fun σ2 H2 => wipe σ2 vs = wipe σ vs ∧ tt σ2 H2 fun b H3 =>
        if b = true then te σ2 H3 fun y H4 => ∃ acc, H4 D = some (.lst acc) ∧ acc.length < sizeLine ∧ Nx (upd H4 D (.lst (acc ++ [y]))) else Nx H3) :=
  lc_walk ((walk_list (K := K) (a := a) (xs := xs)).mono (fun H s => sqL_same s ha) fun _ _ _ _ _ _ y => y) nD hn f hs hd
theorem lcT {xs : List V} (ha : SqT K H1 a xs) (nD : H1 D = none) (hn : xs.length ≤ 100000) (f : V → Option V)
    (hs : ∀ (i : Nat) (x : V) (G : Hp) (Qy : V → Hp → Prop) (Qn : Hp → Prop), xs[i]? = some x → Same H1 G → (∀ y H4, f x = some y → Same G H4 → Qy y H4) → (∀ H4, f x = none → Same G H4 → Qn H4) →
      g x (wipe σ vs) G fun σ2 H2 => wipe σ2 vs = wipe σ vs ∧ tt σ2 H2 fun b H3 => if b = true then te σ2 H3 Qy else Qn H3)
    (hd : ∀ G, Same H1 G → G D = some (.lst (xs.filterMap f)) → Qd G) :
    ∃ W : Nat → Nat → Hp → Prop, (∃ m, W 0 m (upd H1 D (.lst []))) ∧ ∀ i m H, W i m H →
      ((Itt K a).stop i H ∧ Qd H) ∨ ((Itt K a).go i H ∧ ∃ Nx : Hp → Prop, (∀ H', Nx H' → ∃ m', m' < m ∧ W (i + 1) m' H') ∧ ∀ x H', (Itt K a).yld i H x H' → g x (wipe σ vs) H' fun σ2 H2 => wipe σ2 vs = wipe σ vs ∧ tt σ2 H2 fun b H3 =>
        if b = true then te σ2 H3 fun y H4 => ∃ acc, H4 D = some (.lst acc) ∧ acc.length < sizeLine ∧ Nx (upd H4 D (.lst (acc ++ [y]))) else Nx H3) :=
  lc_walk ((walk_tup (K := K) (a := a) (xs := xs)).mono (fun H s => sqT_same s ha) fun _ _ _ _ _ _ y => y) nD hn f hs hd
/-- over a list of whole numbers -/
theorem lcI {ns : List Int} (ha : SqL K H1 a (ns.map V.int)) (nD : H1 D = none) (hn : ns.length ≤ 100000) (f : Int → Option V)
    (hs : ∀ (i : Nat) (x : Int) (G : Hp) (Qy : V → Hp → Prop) (Qn : Hp → Prop), ns[i]? = some x → Same H1 G → (∀ y H4, f x = some y → Same G H4 → Qy y H4) → (∀ H4, f x = none → Same G H4 → Qn H4) →
      g (.int x) (wipe σ vs) G fun σ2 H2 => wipe σ2 vs = wipe σ vs ∧ tt σ2 H2 fun b H3 => if b = true then te σ2 H3 Qy else Qn H3)
    (hd : ∀ G, Same H1 G → G D = some (.lst (ns.filterMap f)) → Qd G) :
    ∃ W : Nat → Nat → Hp → Prop, (∃ m, W 0 m (upd H1 D (.lst []))) ∧ ∀ i m H, W i m H →
      ((Itl K a).stop i H ∧ Qd H) ∨ ((Itl K a).go i H ∧ ∃ Nx : Hp → Prop, (∀ H', Nx H' → ∃ m', m' < m ∧ W (i + 1) m' H') ∧ ∀ x H', (Itl K a).yld i H x H' → g x (wipe σ vs) H' fun σ2 H2 => wipe σ2 vs = wipe σ vs ∧ tt σ2 H2 fun b H3 =>
        if b = true then te σ2 H3 fun y H4 => ∃ acc, H4 D = some (.lst acc) ∧ acc.length < sizeLine ∧ Nx (upd H4 D (.lst (acc ++ [y]))) else Nx H3) := by
  refine lcL ha nD (by rw [List.length_map]; exact hn) (fun v => match v with | .int i => f i | _ => none) (fun i x G Qy Qn hx sG ky kn => ?_) (fun G sG hD => hd G sG ?_)
  · rw [List.getElem?_map] at hx
    obtain ⟨n, hn2, rfl⟩ := Option.map_eq_some_iff.mp hx
    exact hs i n G Qy Qn hn2 sG ky kn
  · rw [List.filterMap_map] at hD
    exact hD
end
theorem fm_some {α β : Type} {f : α → β} : ∀ xs : List α, (xs.filterMap fun x => some (f x)) = xs.map f
  | [] => rfl
  | x :: xs => by rw [List.filterMap_cons, List.map_cons, fm_some xs]
theorem fm_if {α β : Type} {p : α → Bool} {f : α → β} : ∀ xs : List α, (xs.filterMap fun x => if p x = true then some (f x) else none) = (xs.filter p).map f
  | [] => rfl
  | x :: xs => by
    rw [List.filterMap_cons, List.filter_cons]
    cases p x
    · exact fm_if xs
    · show f x :: _ = _
      rw [fm_if xs]
      rfl
end KX

set_option Elab.async false
set_option maxRecDepth 100000
set_option maxHeartbeats 1000000
namespace K04
open PySem PySem.Spec PyProof.Rows L2 He KX
abbrev sSta : Stmt := top 37
abbrev sCan : Stmt := top 38
abbrev sLfa : Stmt := top 39
abbrev sImg : Stmt := top 40
def spSta (K : PySem.W.Frag) : Sp := fun vs H Q _ => ∃ (l : Addr) (zs : List V) (ps : List Pc), vs = [.ref l] ∧ SqL K H l zs ∧ Pcs H zs ps ∧ zs.length ≤ 100 ∧ ∀ F H', Same H H' → H' F = some (.lst ((stL ps).map V.int)) → Q (.ref F) H'
def spCan (K : PySem.W.Frag) : Sp := fun vs H Q _ => ∃ (l : Addr) (zs : List V) (ps : List Pc) (N : Int), vs = [.ref l, .int N] ∧ SqL K H l zs ∧ Pcs H zs ps ∧ zs.length ≤ 10 ∧ ∀ F C H', Same H H' → H' F = some (.lst (C.map V.int)) → Cand ps N C → Q (.ref F) H'
def spLfa (K : PySem.W.Frag) : Sp := fun vs H Q _ => ∃ (l : Addr) (zs : List V) (ps : List Pc) (N : Int), vs = [.ref l, .int N] ∧ SqL K H l zs ∧ Pcs H zs ps ∧ zs.length ≤ 10 ∧ Chain ps ∧ ∀ v x H', Same H H' → FV H' v x → FIs (mapP ps) N x → Q v H'
def imgB (ps : List Pc) (N q b : Int) : Bool := (decide (1 ≤ q - b) && decide (q - b ≤ N)) && decide (mapP ps (q - b) = q)
def spImg (K : PySem.W.Frag) : Sp := fun vs H Q _ => ∃ (l : Addr) (zs : List V) (ps : List Pc) (N q : Int), vs = [.ref l, .int N, .int q] ∧ SqL K H l zs ∧ Pcs H zs ps ∧ zs.length ≤ 10 ∧ ∀ H', Same H H' → Q (.bl ((bysL ps).any (imgB ps N q))) H'
theorem brk_one (l h : Option Int) (b : Int) : brk [(l, h, b)] = [l, h.map (· + 1)].filterMap id := by cases l <;> cases h <;> rfl
theorem brk_app (a b : List Pc) : brk (a ++ b) = brk a ++ brk b := List.flatMap_append ..
theorem brk_len : ∀ ps : List Pc, (brk ps).length ≤ 2 * ps.length
  | [] => Nat.le_refl _
  | (l, h, b) :: ps => by
    have := brk_len ps
    rw [show (l, h, b) :: ps = [(l, h, b)] ++ ps from rfl, brk_app, List.length_append, List.length_append]
    have : (brk [(l, h, b)]).length ≤ 2 := by
      rw [brk_one]
      exact List.length_filterMap_le _ _
    show _ ≤ 2 * (1 + ps.length)
    omega
theorem bys_len (ps : List Pc) : (bysL ps).length = ps.length + 1 := by show (ps.map _).length + 1 = _; rw [List.length_map]
theorem find_at {P : Int → Bool} {C : List Int} {i : Nat} {p : Int} (h : ∀ x ∈ C.take i, P x = false) (e : C[i]? = some p) (k : P p = true) : C.find? P = some p := by
  have e2 : C = C.take i ++ p :: C.drop (i + 1) := by rw [← drop_at e, List.take_append_drop]
  rw [e2, List.find?_append, (List.find?_eq_none.mpr fun x hx => by rw [h x hx]; decide), List.find?_cons, k]
  rfl
theorem find_no {P : Int → Bool} {C : List Int} (h : ∀ x ∈ C, P x = false) : C.find? P = none := List.find?_eq_none.mpr fun x hx => by rw [h x hx]; decide
theorem take_no {P : Int → Bool} {C : List Int} {i : Nat} {p : Int} (h : ∀ x ∈ C.take i, P x = false) (e : C[i]? = some p) (k : P p = false) : ∀ x ∈ C.take (i + 1), P x = false := fun x hx => by
  rw [take_at e] at hx
  rcases List.mem_append.mp hx with hx | hx
  · exact h x hx
  · rw [List.mem_singleton.mp hx]; exact k
theorem dI (u v : Int) : decide (V.int u = V.int v) = decide (u = v) := by
  by_cases q : u = v
  · rw [q, decide_eq_true rfl, decide_eq_true rfl]
  · rw [decide_eq_false q, decide_eq_false fun z => q (V.int.inj z)]
section
variable {P : Program} {w : World} {K : PySem.W.Frag} {mg : Str → Option Value} {base : Heap}
theorem scSta : FnScope ["pieces", "found", "low", "high", "by", "end"] ["pieces"] (defScope sSta) := ⟨rfl, rfl, rfl, by decide +kernel, rfl, by decide +kernel, by decide +kernel⟩
theorem ok_sta {f : Addr} {fd : FuncData} (F : FnP K "_law_starts" sSta f fd) : FnOk P w K mg base CX0 1 f fd ["pieces"] (spSta K) := by
  refine F.ok scSta (fun vs H Q E h => ?_) (fun cdv A outer s H vs Q E hr h => ?_)
  · obtain ⟨l, zs, ps, rfl, _⟩ := h
    rfl
  · obtain ⟨l, zs, ps, rfl, hz, hP, hl, k⟩ := h
    have nd := scSta.nd
    refine ⟨_, PSs.nox (pss_cons (ps_set (i := 1) nd rfl (Or.inl rfl) (pe_lst (pa_cons pe_int pa_nil)))
(pss_cons (ps_for PassesOwn.never rfl (pi_list (pv 0)) (pg_tup rfl (pgs_cons (pg_name (i := 2) nd rfl (Or.inl rfl)) (pgs_cons (pg_name (i := 3) nd rfl (Or.inl rfl)) (pgs_cons (pg_name (i := 4) nd rfl (Or.inl rfl)) pgs_nil))))
(pss_one (ps_set (i := 1) nd rfl (Or.inl rfl) (pe_op op_cat (pv 1) (pe_lc (own := [("end", 5)]) (g := (gName 5))  rfl nd (pi_tup (pe_tup (pa_cons (pv 2) (pa_cons (pe_ifExp (pt_cmpR op_isN (pv 3) pe_non (nomark _)) pe_non (pe_op op_add (pv 3) pe_int)) pa_nil)))) (blkOk_by (own := [("end", 5)]) (N := ["pieces", "found", "low", "high", "by", "end"]) (sc := defScope sSta) (by decide +kernel)) (fun _ _ _ _ _ => (pg_name (i := 5) nd rfl (Or.inl rfl))) (fun _ _ _ _ _ => (pts_one (pt_cmpR op_notN (pv 5) pe_non (nomark _)))) (fun _ _ _ _ _ => (pv 5)))))))
(pss_one (ps_ret (pv 1))))), ?_⟩
    have hlp := Paired.length hP
    refine ⟨(by show 1 ≤ sizeLine; decide), fun S0 nS => ?_⟩
    have s2 := same_put (o := .lst [.int 1]) nS
    have hS2 : upd H S0 (.lst [.int 1]) S0 = some (.lst [.int 1]) := upd_same
    generalize upd H S0 (.lst [.int 1]) = G2 at s2 hS2
    have hz2 := sqL_same s2 hz
    have hP2 : Pcs G2 zs ps := hP.imp fun x p z => z.same s2
    refine ⟨_, rfl, l, rfl, ⟨_, hz2⟩, ?_⟩
    refine for_it (walk_list (K := K) (a := l) (xs := zs)) (fun i σ J => ∃ (Si : Addr) (y3 y4 y5 y6 : Option V), σ = [some (.ref l), some (.ref Si), y3, y4, y5, y6] ∧ J Si = some (.lst ((stL (ps.take i)).map V.int)) ∧ Same G2 J)
      ⟨S0, none, none, none, none, rfl, hS2, .refl _⟩ (fun _ _ _ _ h => by obtain ⟨_, _, _, _, _, _, _, q⟩ := h; exact sqL_same q hz2) ?_ ?_
    · rintro i x σ J' J hi ⟨Si, y3, y4, y5, y6, rfl, hSi, sJ2⟩ ⟨rfl, hx⟩
      obtain ⟨p, hp, hpx⟩ := pcs_at hP2 hx
      have hpx := hpx.same sJ2
      have htk := take_at hp
      have hbl := brk_len (ps.take i)
      rw [List.length_take] at hbl
      obtain ⟨pl, ph, pb⟩ := p
      obtain ⟨a, rfl, ha⟩ := hpx
      refine ⟨a, _, rfl, SqT.of ha, rfl, _, _, rfl, _, _, rfl, _, _, rfl, rfl, ?_⟩
      dsimp only [gName, List.set]
      have step : ∀ Qc : V → Hp → Prop, Qc (endV (ph.map (· + 1))) J → tIf (tTest (tOp (fun x y H Q => y = V.non ∧ Q (V.bl (decide (x = V.non))) H) (tVar 3) (tC V.non))) (tC V.non) (tOp (rI0 fun i j => V.int (i + j)) (tVar 3) (tC (V.int 1)))
          [some (.ref l), some (.ref Si), some (endV pl), some (endV ph), some (.int pb), y6] J Qc := by
        intro Qc q
        cases ph with
        | none => exact ⟨_, rfl, rfl, _, rfl, yes rfl q⟩
        | some h => exact ⟨_, rfl, rfl, _, rfl, no rfl ⟨_, rfl, _, _, rfl, rfl, q⟩⟩
      refine ⟨_, rfl, _, rfl, step _ ⟨(by show 2 ≤ sizeLine; decide), fun T nT => ⟨T, rfl, ⟨_, SqT.of upd_same⟩, fun D2 nD2 => ?_⟩⟩⟩
      have sT := same_put (o := .tup [endV pl, endV (ph.map (· + 1))]) nT
      have hT : upd J T (.tup [endV pl, endV (ph.map (· + 1))]) T = some (.tup ([pl, ph.map (· + 1)].map endV)) := upd_same
      generalize upd J T (.tup [endV pl, endV (ph.map (· + 1))]) = J1 at sT hT nD2
      have he : stL (ps.take (i + 1)) = stL (ps.take i) ++ [pl, ph.map (· + 1)].filterMap id := by unfold stL; rw [htk, brk_app, brk_one]; rfl
      generalize hes : [pl, ph.map (· + 1)] = es at hT he
      have hel : es.length = 2 := by rw [← hes]; rfl
      refine lc_it (walk_tup (K := K) (a := T) (xs := es.map endV)) (fun m G => G D2 = some (.lst (((es.take m).filterMap id).map V.int)) ∧ Same J1 G) ⟨upd_same, same_put nD2⟩ (fun _ _ _ h => sqT_same h.2 (SqT.of hT)) ?_ ?_
      · rintro m x G' G hm ⟨hD2, sG⟩ ⟨rfl, hx⟩
        rw [List.getElem?_map] at hx
        obtain ⟨e, hem, rfl⟩ := Option.map_eq_some_iff.mp hx
        have htm : (es.take (m + 1)).filterMap id = (es.take m).filterMap id ++ e.toList := by
          rw [take_at hem, List.filterMap_append]
          cases e <;> rfl
        have hlm : ((es.take m).filterMap id).length ≤ 2 := Nat.le_trans (List.length_filterMap_le _ _) (by rw [List.length_take]; omega)
        refine ⟨rfl, _, rfl, rfl, _, rfl, ?_⟩
        cases e with
        | none =>
          refine no rfl ⟨?_, sG⟩
          rw [htm]
          show G D2 = some (.lst ((_ ++ []).map V.int))
          rw [List.append_nil]
          exact hD2
        | some c =>
          refine yes rfl ⟨_, rfl, _, hD2, (by rw [List.length_map, sizeLine_eq]; omega), ?_, fun u o e => ?_⟩
          · rw [upd_same, htm, List.map_append]
            rfl
          · rw [upd_ne (ne_of_none e nD2)]
            exact sG _ _ e
      · rintro G ⟨hD2, sG⟩
        rw [List.length_map, List.take_length] at hD2
        have hlm : (es.filterMap id).length ≤ 2 := Nat.le_trans (List.length_filterMap_le _ _) (by omega)
        refine ⟨Si, D2, _, _, rfl, rfl, sG _ _ (sT _ _ hSi), hD2, (by rw [List.length_map, List.length_map, sizeLine_eq]; show (brk _).length + 1 + _ ≤ _; omega), fun S2 nS2 => ?_⟩
        refine ⟨S2, _, _, _, _, rfl, ?_, ((sJ2.trans sT).trans sG).trans (same_put nS2)⟩
        rw [upd_same, he, List.map_append]
    · rintro σ J ⟨Si, y3, y4, y5, y6, rfl, hSi, sJ2⟩
      rw [hlp, List.take_length] at hSi
      exact ⟨_, rfl, k Si J (s2.trans sJ2) hSi⟩
/-- what each piece moves by -/
theorem by_fm {H : Hp} : ∀ {zs : List V} {ps : List Pc}, Pcs H zs ps → zs.filterMap (fun x => some (V.int (pcAt H x).2.2)) = (ps.map (·.2.2)).map V.int
  | _, _, .nil => rfl
  | _, _, .cons h t => by
    rw [List.filterMap_cons, by_fm t, pcAt_of h]
    rfl
theorem fm_ints {f : Int → Int} (xs : List Int) : (xs.filterMap fun x => some (V.int (f x))) = (xs.map f).map V.int := by
  rw [fm_some, List.map_map]
  rfl
theorem cand_len {ps : List Pc} {N : Int} (h : ps.length ≤ 10) : (stL ps).length ≤ 21 ∧ (bysL ps).length ≤ 11 := by
  have := brk_len ps
  have := bys_len ps
  refine ⟨?_, by omega⟩
  show (brk ps).length + 1 ≤ 21
  omega
theorem flat_len {α β : Type} {f : α → List β} {k : Nat} : ∀ xs : List α, (∀ x ∈ xs, (f x).length ≤ k) → (xs.flatMap f).length ≤ xs.length * k
  | [], _ => Nat.zero_le _
  | x :: xs, h => by
    rw [List.flatMap_cons, List.length_append, List.length_cons, Nat.add_mul, Nat.one_mul]
    have := flat_len xs fun y hy => h y (List.mem_cons_of_mem _ hy)
    have := h x List.mem_cons_self
    omega
theorem scCan : FnScope ["pieces", "count", "starts", "bys", "by", "found", "start", "p", "piece", "other"] ["pieces", "count"] (defScope sCan) := ⟨rfl, rfl, rfl, by decide +kernel, rfl, by decide +kernel, by decide +kernel⟩
theorem ok_can {f fS : Addr} {fd fdS : FuncData} (F : FnP K "_law_candidates" sCan f fd) (GS : FnOk P w K mg base CX0 1 fS fdS ["pieces"] (spSta K)) (bS : Binds K fdS ["pieces"] []) (kS : PySem.W.keepIn K (.ref fS) = true) (gS : mg "_law_starts" = some (.ref fS)) (n_sorted : mg "sorted" = none) : FnOk P w K mg base CX0 2 f fd ["pieces", "count"] (spCan K) := by
  refine F.ok scCan (fun vs H Q E h => ?_) (fun cdv A outer s H vs Q E hr h => ?_)
  · obtain ⟨l, zs, ps, N, rfl, _⟩ := h
    rfl
  · obtain ⟨l, zs, ps, N, rfl, hz, hP, hl, k⟩ := h
    have nd := scCan.nd
    refine ⟨_, PSs.nox (pss_cons (ps_par (i := 2) (j := 3) (by rfl) nd rfl rfl (by decide) rfl rfl (pa_cons (pe_call GS hr (by rfl) gS kS bS .nil pass0 (pa_cons (pv 0) pa_nil)) (pa_cons (pe_op op_cat (pe_lst (pa_cons pe_int pa_nil)) (pe_lc (own := [("piece", 8)]) (g := (gName 8)) (tt := tYes) rfl nd (pi_list (pv 0)) (blkOk_by (own := [("piece", 8)]) (N := ["pieces", "count", "starts", "bys", "by", "found", "start", "p", "piece", "other"]) (sc := defScope sCan) (by decide +kernel)) (fun _ _ _ _ _ => (pg_name (i := 8) nd rfl (Or.inl rfl))) (fun _ _ _ _ _ => pts_nil) (fun _ _ _ _ _ => (pe_ix (show IxR _ (rIxT K) from ix_tup) (pv 8) pe_int (fun _ _ => rfl))))) pa_nil)) (by rfl))
(pss_cons (ps_set (i := 5) nd rfl (Or.inl rfl) (pe_op op_cat (pv 2) (pe_lc (own := [("by", 4)]) (g := (gName 4)) (tt := tYes) rfl nd (pi_list (pv 3)) (blkOk_by (own := [("by", 4)]) (N := ["pieces", "count", "starts", "bys", "by", "found", "start", "p", "piece", "other"]) (sc := defScope sCan) (by decide +kernel)) (fun _ _ _ _ _ => (pg_name (i := 4) nd rfl (Or.inl rfl))) (fun _ _ _ _ _ => pts_nil) (fun _ _ _ _ _ => (pe_op op_add (pe_op op_sub (pv 1) (pv 4)) pe_int)))))
(pss_cons (ps_for PassesOwn.never rfl (pi_list (pv 2)) (pg_name (i := 6) nd rfl (Or.inr rfl))
(pss_one (ps_for PassesOwn.never rfl (pi_list (pv 3)) (pg_name (i := 4) nd rfl (Or.inr rfl))
(pss_one (ps_set (i := 5) nd rfl (Or.inl rfl) (pe_op op_cat (pv 5) (pe_lc (own := [("other", 9)]) (g := (gName 9)) (tt := tYes) rfl nd (pi_list (pv 3)) (blkOk_by (own := [("other", 9)]) (N := ["pieces", "count", "starts", "bys", "by", "found", "start", "p", "piece", "other"]) (sc := defScope sCan) (by decide +kernel)) (fun _ _ _ _ _ => (pg_name (i := 9) nd rfl (Or.inl rfl))) (fun _ _ _ _ _ => pts_nil) (fun _ _ _ _ _ => (pe_op op_sub (pe_op op_add (pv 6) (pv 4)) (pv 9))))))))))
(pss_one (ps_ret (pe_callB cr_sortedI (by rfl) n_sorted (by decide +kernel) (pa_cons (pe_lc (own := [("p", 7)]) (g := (gName 7))  rfl nd (pi_list (pv 5)) (blkOk_by (own := [("p", 7)]) (N := ["pieces", "count", "starts", "bys", "by", "found", "start", "p", "piece", "other"]) (sc := defScope sCan) (by decide +kernel)) (fun _ _ _ _ _ => (pg_name (i := 7) nd rfl (Or.inl rfl))) (fun _ _ _ _ _ => (pts_one (pt_chain op_le op_le pe_int (pv 7) (pv 1)))) (fun _ _ _ _ _ => (pv 7))) pa_nil))))))), ?_⟩
    have hlp := Paired.length hP
    refine ⟨_, rfl, l, zs, ps, rfl, hz, hP, by omega, fun S0 G sS hS => ?_⟩
    have hzG := sqL_same sS hz
    have hPG : Pcs G zs ps := hP.imp fun x p z => z.same sS
    obtain ⟨ls, lb⟩ := cand_len (ps := ps) (N := N) (by omega)
    refine ⟨by decide, fun Z nZ => ?_⟩
    have sZ := same_put (o := .lst [.int 0]) nZ
    have hZ : upd G Z (.lst [.int 0]) Z = some (.lst [.int 0]) := upd_same
    generalize upd G Z (.lst [.int 0]) = G1 at sZ hZ
    refine ⟨_, rfl, l, rfl, ⟨_, sqL_same sZ hzG⟩, fun D nD => ?_⟩
    refine lcL (sqL_same sZ hzG) nD (by omega) (fun x => some (V.int (pcAt G x).2.2)) (fun i x J Qy Qn hx sJ ky kn => ?_) (fun J sJ hD => ?_)
    · obtain ⟨p, hp, hpx⟩ := pcs_at hPG hx
      have e := pcAt_of hpx
      obtain ⟨pl, ph, pb⟩ := p
      obtain ⟨a, rfl, ha⟩ := hpx.same (sZ.trans sJ)
      refine ⟨rfl, ?_⟩
      dsimp only [tYes, gName, List.set]
      rw [if_pos rfl]
      exact ⟨_, rfl, _, _, _, _, rfl, rfl, SqT.of ha, rfl, ky _ _ (by rw [e]) (.refl _)⟩
    rw [by_fm hPG] at hD
    refine ⟨Z, D, _, _, rfl, rfl, sJ _ _ hZ, hD, (by rw [List.length_map, List.length_map, sizeLine_eq]; show 1 + _ ≤ _; omega), fun L nL => ⟨_, _, rfl, ?_⟩⟩
    have eL : ([V.int 0] ++ (ps.map (·.2.2)).map V.int) = (bysL ps).map V.int := rfl
    rw [eL]
    have s2 := (sZ.trans sJ).trans (same_put (o := .lst ((bysL ps).map V.int)) nL)
    have hL : upd J L (.lst ((bysL ps).map V.int)) L = some (.lst ((bysL ps).map V.int)) := upd_same
    generalize upd J L (.lst ((bysL ps).map V.int)) = G2 at s2 hL
    have hS2 := s2 _ _ hS
    have sH2 := sS.trans s2
    clear sZ sJ hZ hD nZ nD nL
    -- found
    refine ⟨_, rfl, _, rfl, L, rfl, ⟨_, SqL.of hL⟩, fun D nD => ?_⟩
    refine lcI (SqL.of hL) nD (by omega) (fun b => some (V.int (N - b + 1))) (fun i x J Qy Qn hx sJ ky kn => ?_) (fun J sJ hD => ?_)
    · refine ⟨rfl, ?_⟩
      dsimp only [tYes, gName, List.set]
      rw [if_pos rfl]
      exact ⟨_, rfl, _, rfl, _, _, rfl, rfl, _, _, rfl, rfl, ky _ _ rfl (.refl _)⟩
    rw [fm_ints] at hD
    refine ⟨S0, D, _, _, rfl, rfl, sJ _ _ hS2, hD, (by rw [List.length_map, List.length_map, List.length_map, sizeLine_eq]; omega), fun F0 nF => ?_⟩
    rw [← List.map_append]
    have s3 := sJ.trans (same_put (o := .lst ((stL ps ++ (bysL ps).map fun b => N - b + 1).map V.int)) nF)
    have hF : upd J F0 (.lst ((stL ps ++ (bysL ps).map fun b => N - b + 1).map V.int)) F0 = some (.lst ((stL ps ++ (bysL ps).map fun b => N - b + 1).map V.int)) := upd_same
    generalize upd J F0 (.lst ((stL ps ++ (bysL ps).map fun b => N - b + 1).map V.int)) = G3 at s3 hF
    have hS3 := s3 _ _ hS2
    have hL3 := s3 _ _ hL
    have sH3 := sH2.trans s3
    have bl : (stL ps ++ (bysL ps).map fun b => N - b + 1).length ≤ 32 := by rw [List.length_append, List.length_map]; omega
    generalize hA : (stL ps ++ (bysL ps).map fun b => N - b + 1) = A at hF bl
    clear s3 sJ hD nD nF
    dsimp only [gName, List.set]
    -- the loops
    refine ⟨_, rfl, S0, rfl, ⟨_, SqL.of hS3⟩, ?_⟩
    have fl : ∀ s : Int, ((bysL ps).flatMap fun b => (bysL ps).map fun o => s + b - o).length ≤ 121 := fun s => Nat.le_trans (flat_len (k := 11) _ fun b _ => by rw [List.length_map]; omega) (by omega)
    refine for_it (walk_list (K := K) (a := S0) (xs := (stL ps).map V.int)) (fun i σ J => ∃ (Fi : Addr) (y4 y6 : Option V), σ = [some (.ref l), some (.int N), some (.ref S0), some (.ref L), y4, some (.ref Fi), y6, none, none, none] ∧ Same G3 J ∧ J Fi = some (.lst ((A ++ ((stL ps).take i).flatMap fun s => (bysL ps).flatMap fun b => (bysL ps).map fun o => s + b - o).map V.int)))
      ⟨F0, _, _, rfl, .refl _, by rw [List.take_zero]; show G3 F0 = some (.lst ((A ++ []).map V.int)); rw [List.append_nil]; exact hF⟩ (fun _ _ _ _ h => by obtain ⟨_, _, _, _, q, _⟩ := h; exact SqL.of (q _ _ hS3)) ?_ ?_
    · rintro i x σ J' J hi ⟨Fi, y4, y6, rfl, sJ, hFi⟩ ⟨rfl, hx⟩
      rw [List.getElem?_map] at hx
      obtain ⟨st, hst, rfl⟩ := Option.map_eq_some_iff.mp hx
      rw [List.length_map] at hi
      have b1 : (((stL ps).take i).flatMap fun s => (bysL ps).flatMap fun b => (bysL ps).map fun o => s + b - o).length ≤ 2600 := Nat.le_trans (flat_len (k := 121) _ fun s _ => fl s) (by rw [List.length_take]; omega)
      dsimp only [gName, List.set]
      refine ⟨_, rfl, L, rfl, ⟨_, SqL.of (sJ _ _ hL3)⟩, ?_⟩
      have htk : ((stL ps).take (i + 1)).flatMap (fun s => (bysL ps).flatMap fun b => (bysL ps).map fun o => s + b - o) = ((stL ps).take i).flatMap (fun s => (bysL ps).flatMap fun b => (bysL ps).map fun o => s + b - o) ++ (bysL ps).flatMap fun b => (bysL ps).map fun o => st + b - o := by
        rw [take_at hst, List.flatMap_append]
        show _ ++ (_ ++ []) = _
        rw [List.append_nil]
      generalize ((stL ps).take i).flatMap (fun s => (bysL ps).flatMap fun b => (bysL ps).map fun o => s + b - o) = B at hFi b1 htk
      rw [htk]
      refine for_it (walk_list (K := K) (a := L) (xs := (bysL ps).map V.int)) (fun m σ J2 => ∃ (Fi : Addr) (y4 : Option V), σ = [some (.ref l), some (.int N), some (.ref S0), some (.ref L), y4, some (.ref Fi), some (.int st), none, none, none] ∧ Same G3 J2 ∧ J2 Fi = some (.lst ((A ++ (B ++ ((bysL ps).take m).flatMap fun b => (bysL ps).map fun o => st + b - o)).map V.int)))
        ⟨Fi, _, rfl, sJ, by rw [List.take_zero]; show J Fi = some (.lst ((A ++ (B ++ [])).map V.int)); rw [List.append_nil]; exact hFi⟩ (fun _ _ _ _ h => by obtain ⟨_, _, _, q, _⟩ := h; exact SqL.of (q _ _ hL3)) ?_ ?_
      · rintro m x σ K1 K2 hm ⟨Fj, y4', rfl, sK, hFj⟩ ⟨rfl, hx⟩
        rw [List.getElem?_map] at hx
        obtain ⟨b, hb, rfl⟩ := Option.map_eq_some_iff.mp hx
        rw [List.length_map] at hm
        have b2 : (((bysL ps).take m).flatMap fun b => (bysL ps).map fun o => st + b - o).length ≤ 121 := Nat.le_trans (flat_len (k := 11) _ fun b _ => by rw [List.length_map]; omega) (by rw [List.length_take]; omega)
        have htk2 : ((bysL ps).take (m + 1)).flatMap (fun b => (bysL ps).map fun o => st + b - o) = ((bysL ps).take m).flatMap (fun b => (bysL ps).map fun o => st + b - o) ++ (bysL ps).map fun o => st + b - o := by
          rw [take_at hb, List.flatMap_append]
          show _ ++ (_ ++ []) = _
          rw [List.append_nil]
        rw [htk2]
        generalize ((bysL ps).take m).flatMap (fun b => (bysL ps).map fun o => st + b - o) = B2 at hFj b2
        dsimp only [gName, List.set]
        refine ⟨_, rfl, _, rfl, L, rfl, ⟨_, SqL.of (sK _ _ hL3)⟩, fun D nD => ?_⟩
        refine lcI (SqL.of (sK _ _ hL3)) nD (by omega) (fun o => some (V.int (st + b - o))) (fun i x J Qy Qn hx sJ ky kn => ?_) (fun J sJ hD => ?_)
        · refine ⟨rfl, ?_⟩
          dsimp only [tYes, gName, List.set]
          rw [if_pos rfl]
          exact ⟨_, rfl, _, rfl, _, _, rfl, rfl, _, rfl, _, _, rfl, rfl, ky _ _ rfl (.refl _)⟩
        rw [fm_ints] at hD
        refine ⟨Fj, D, _, _, rfl, rfl, sJ _ _ hFj, hD, (by rw [List.length_map, List.length_map, List.length_map, List.length_append, List.length_append, sizeLine_eq]; omega), fun F2 nF2 => ?_⟩
        refine ⟨F2, _, rfl, (sK.trans sJ).trans (same_put nF2), ?_⟩
        rw [upd_same, ← List.map_append, List.append_assoc, List.append_assoc]
      · rintro σ K1 ⟨Fj, y4', rfl, sK, hFj⟩
        rw [List.length_map, List.take_length] at hFj
        exact ⟨Fj, _, _, rfl, sK, hFj⟩
    · rintro σ J ⟨Fi, y4, y6, rfl, sJ, hFi⟩
      rw [List.length_map, List.take_length, ← hA] at hFi
      replace hFi : J Fi = some (.lst ((candL ps N).map V.int)) := hFi
      have b3 : (candL ps N).length ≤ 3000 := by
        unfold candL
        rw [List.length_append, hA]
        have := flat_len (k := 121) (f := fun s : Int => (bysL ps).flatMap fun b => (bysL ps).map fun o => s + b - o) (stL ps) fun s _ => fl s
        omega
      refine ⟨_, rfl, Fi, rfl, ⟨_, SqL.of hFi⟩, fun D nD => ?_⟩
      refine lcI (SqL.of hFi) nD (by omega) (fun p => if (decide (1 ≤ p) && decide (p ≤ N)) = true then some (V.int p) else none) (fun i x J2 Qy Qn hx sJ2 ky kn => ?_) (fun J2 sJ2 hD => ?_)
      · refine ⟨rfl, ?_⟩
        refine ⟨_, rfl, _, _, rfl, rfl, _, rfl, ite2' (fun c => ?_) (fun c => ?_)⟩
        · refine ⟨_, rfl, _, _, rfl, rfl, _, rfl, ite2' (fun d => ?_) (fun d => ?_)⟩
          · exact ⟨_, rfl, ky _ _ (if_pos (Bool.and_eq_true_iff.mpr ⟨c, d⟩)) (.refl _)⟩
          · exact kn _ (if_neg (by rw [show decide (x ≤ N) = false from d, Bool.and_false]; decide)) (.refl _)
        · exact ⟨_, rfl, no rfl (kn _ (if_neg (by rw [show decide (1 ≤ x) = false from c, Bool.false_and]; decide)) (.refl _))⟩
      rw [fm_if] at hD
      refine ⟨D, _, rfl, SqL.of hD, fun C p hperm hsort np => ?_⟩
      refine k p C _ ((((sH3.trans sJ).trans sJ2)).trans (same_put np)) upd_same ⟨hsort, fun x => ?_⟩
      rw [hperm.mem_iff, List.mem_filter]
      refine ⟨fun ⟨h1, h2⟩ => ⟨h1, ?_⟩, fun ⟨h1, h2, h3⟩ => ⟨h1, Bool.and_eq_true_iff.mpr ⟨decide_eq_true h2, decide_eq_true h3⟩⟩⟩
      obtain ⟨h3, h4⟩ := Bool.and_eq_true_iff.mp h2
      exact ⟨of_decide_eq_true h3, of_decide_eq_true h4⟩
theorem scImg : FnScope ["pieces", "count", "q", "bys", "piece", "by"] ["pieces", "count", "q"] (defScope sImg) := ⟨rfl, rfl, rfl, by decide +kernel, rfl, by decide +kernel, by decide +kernel⟩
theorem ok_img {f fT : Addr} {fd fdT : FuncData} (F : FnP K "_law_is_image" sImg f fd) (GT : FnOk P w K mg base CX0 2 fT fdT ["pieces", "p"] (spTo K)) (bT : Binds K fdT ["pieces", "p"] []) (kT : PySem.W.keepIn K (.ref fT) = true) (gT : mg "_law_to" = some (.ref fT)) (n_any : mg "any" = none) : FnOk P w K mg base CX0 3 f fd ["pieces", "count", "q"] (spImg K) := by
  refine F.ok scImg (fun vs H Q E h => ?_) (fun cdv A outer s H vs Q E hr h => ?_)
  · obtain ⟨l, zs, ps, N, q, rfl, _⟩ := h
    rfl
  · obtain ⟨l, zs, ps, N, q, rfl, hz, hP, hl, k⟩ := h
    have nd := scImg.nd
    refine ⟨_, PSs.nox (pss_cons (ps_set (i := 3) nd rfl (Or.inl rfl) (pe_op op_cat (pe_lst (pa_cons pe_int pa_nil)) (pe_lc (own := [("piece", 4)]) (g := (gName 4)) (tt := tYes) rfl nd (pi_list (pv 0)) (blkOk_by (own := [("piece", 4)]) (N := ["pieces", "count", "q", "bys", "piece", "by"]) (sc := defScope sImg) (by decide +kernel)) (fun _ _ _ _ _ => (pg_name (i := 4) nd rfl (Or.inl rfl))) (fun _ _ _ _ _ => pts_nil) (fun _ _ _ _ _ => (pe_ix (show IxR _ (rIxT K) from ix_tup) (pv 4) pe_int (fun _ _ => rfl))))))
(pss_one (ps_ret (pe_callB (cr_any rfl) (by rfl) n_any (by decide +kernel) (pa_cons (pe_lc (own := [("by", 5)]) (g := (gName 5)) (tt := tYes) rfl nd (pi_list (pv 3)) (blkOk_by (own := [("by", 5)]) (N := ["pieces", "count", "q", "bys", "piece", "by"]) (sc := defScope sImg) (by decide +kernel)) (fun _ _ _ _ _ => (pg_name (i := 5) nd rfl (Or.inl rfl))) (fun _ _ _ _ _ => pts_nil) (fun _ _ _ _ _ => (pe_and (pe_chain op_le op_le pe_int (pe_op op_sub (pv 2) (pv 5)) (pv 1)) (pe_one (pe_cmpR op_eq (pe_call GT hr (by rfl) gT kT bT .nil pass0 (pa_cons (pv 0) (pa_cons (pe_op op_sub (pv 2) (pv 5)) pa_nil))) (pv 2) (nomark _)))))) pa_nil))))), ?_⟩
    have hlp := Paired.length hP
    have lb := bys_len ps
    refine ⟨by decide, fun Z nZ => ?_⟩
    have sZ := same_put (o := .lst [.int 0]) nZ
    have hZ : upd H Z (.lst [.int 0]) Z = some (.lst [.int 0]) := upd_same
    generalize upd H Z (.lst [.int 0]) = G1 at sZ hZ
    refine ⟨_, rfl, l, rfl, ⟨_, sqL_same sZ hz⟩, fun D nD => ?_⟩
    refine lcL (sqL_same sZ hz) nD (by omega) (fun x => some (V.int (pcAt H x).2.2)) (fun i x J Qy Qn hx sJ ky kn => ?_) (fun J sJ hD => ?_)
    · obtain ⟨p, hp, hpx⟩ := pcs_at hP hx
      have e := pcAt_of hpx
      obtain ⟨pl, ph, pb⟩ := p
      obtain ⟨a, rfl, ha⟩ := hpx.same (sZ.trans sJ)
      refine ⟨rfl, ?_⟩
      dsimp only [tYes, gName, List.set]
      rw [if_pos rfl]
      exact ⟨_, rfl, _, _, _, _, rfl, rfl, SqT.of ha, rfl, ky _ _ (by rw [e]) (.refl _)⟩
    rw [by_fm hP] at hD
    refine ⟨Z, D, _, _, rfl, rfl, sJ _ _ hZ, hD, (by rw [List.length_map, List.length_map, sizeLine_eq]; show 1 + _ ≤ _; omega), fun L nL => ?_⟩
    have eL : ([V.int 0] ++ (ps.map (·.2.2)).map V.int) = (bysL ps).map V.int := rfl
    rw [eL]
    have s2 := (sZ.trans sJ).trans (same_put (o := .lst ((bysL ps).map V.int)) nL)
    have hL : upd J L (.lst ((bysL ps).map V.int)) L = some (.lst ((bysL ps).map V.int)) := upd_same
    generalize upd J L (.lst ((bysL ps).map V.int)) = G2 at s2 hL
    clear sZ sJ hZ hD nZ nD nL
    refine ⟨_, rfl, L, rfl, ⟨_, SqL.of hL⟩, fun D nD => ?_⟩
    refine lcI (SqL.of hL) nD (by omega) (fun b => some (V.bl (imgB ps N q b))) (fun i x J Qy Qn hx sJ ky kn => ?_) (fun J sJ hD => ?_)
    · refine ⟨rfl, ?_⟩
      dsimp only [tYes, gName, List.set]
      rw [if_pos rfl]
      have sX := s2.trans sJ
      refine ⟨_, rfl, _, rfl, _, _, rfl, rfl, _, _, rfl, rfl, _, rfl, ite2' (fun c => ?_) (fun c => ?_)⟩
      · replace c : decide (1 ≤ q - x) = true := c
        refine ⟨_, rfl, _, _, rfl, rfl, _, rfl, ite2' (fun d => ?_) (fun d => ?_)⟩
        · replace d : decide (q - x ≤ N) = true := d
          refine ⟨_, rfl, _, rfl, _, rfl, _, _, rfl, rfl, l, zs, ps, _, rfl, sqL_same sX hz, hP.imp (fun x p z => z.same sX), _, rfl, rfl, ky _ _ ?_ (.refl _)⟩
          show some (V.bl _) = some (V.bl _)
          unfold imgB
          rw [c, d, dI]
          rfl
        · replace d : decide (q - x ≤ N) = false := d
          refine ky _ _ ?_ (.refl _)
          unfold imgB
          rw [d, Bool.and_false, Bool.false_and]
      · replace c : decide (1 ≤ q - x) = false := c
        refine ⟨_, rfl, no rfl (ky _ _ ?_ (.refl _))⟩
        unfold imgB
        rw [c, Bool.false_and, Bool.false_and]
    rw [fm_some] at hD
    refine ⟨D, (bysL ps).map (imgB ps N q), rfl, SqL.of (by rw [List.map_map]; exact hD), ?_⟩
    have kk := k J (s2.trans sJ)
    rw [List.any_map]
    exact kk
theorem scLfa : FnScope ["pieces", "count", "candidates", "bys", "p", "q", "end", "by", "piece"] ["pieces", "count"] (defScope sLfa) := ⟨rfl, rfl, rfl, by decide +kernel, rfl, by decide +kernel, by decide +kernel⟩
theorem ok_lfa {f fC fT : Addr} {fd fdC fdT : FuncData} (F : FnP K "_law_fault" sLfa f fd) (GC : FnOk P w K mg base CX0 2 fC fdC ["pieces", "count"] (spCan K)) (bC : Binds K fdC ["pieces", "count"] []) (kC : PySem.W.keepIn K (.ref fC) = true) (gC : mg "_law_candidates" = some (.ref fC))
    (GT : FnOk P w K mg base CX0 2 fT fdT ["pieces", "p"] (spTo K)) (bT : Binds K fdT ["pieces", "p"] []) (kT : PySem.W.keepIn K (.ref fT) = true) (gT : mg "_law_to" = some (.ref fT)) : FnOk P w K mg base CX0 3 f fd ["pieces", "count"] (spLfa K) := by
  refine F.ok scLfa (fun vs H Q E h => ?_) (fun cdv A outer s H vs Q E hr h => ?_)
  · obtain ⟨l, zs, ps, N, rfl, _⟩ := h
    rfl
  · obtain ⟨l, zs, ps, N, rfl, hz, hP, hl, hch, k⟩ := h
    have nd := scLfa.nd
    have hr2 := hr.mono (j := 2) (by decide)
    refine ⟨_, PSs.nox (pss_cons (ps_par (i := 2) (j := 3) (by rfl) nd rfl rfl (by decide) rfl rfl (pa_cons (pe_call GC hr2 (by rfl) gC kC bC .nil pass0 (pa_cons (pv 0) (pa_cons (pv 1) pa_nil))) (pa_cons (pe_op op_cat (pe_lst (pa_cons pe_int pa_nil)) (pe_lc (own := [("piece", 8)]) (g := (gName 8)) (tt := tYes) rfl nd (pi_list (pv 0)) (blkOk_by (own := [("piece", 8)]) (N := ["pieces", "count", "candidates", "bys", "p", "q", "end", "by", "piece"]) (sc := defScope sLfa) (by decide +kernel)) (fun _ _ _ _ _ => (pg_name (i := 8) nd rfl (Or.inl rfl))) (fun _ _ _ _ _ => pts_nil) (fun _ _ _ _ _ => (pe_ix (show IxR _ (rIxT K) from ix_tup) (pv 8) pe_int (fun _ _ => rfl))))) pa_nil)) (by rfl))
(pss_cons (ps_for PassesOwn.never rfl (pi_list (pv 2)) (pg_name (i := 4) nd rfl (Or.inl rfl))
(pss_one (ps_if (pt_cmpR op_lt (pe_call GT hr2 (by rfl) gT kT bT .nil pass0 (pa_cons (pv 0) (pa_cons (pv 4) pa_nil))) pe_int (nomark _))
(pss_one (ps_ret (pe_tup (pa_cons pe_str (pa_cons (pv 4) pa_nil)))))
pss_nil)))
(pss_cons (ps_for PassesOwn.never rfl (pi_list (pv 2)) (pg_name (i := 4) nd rfl (Or.inl rfl))
(pss_one (ps_if (pt_cmpR op_gt (pe_call GT hr2 (by rfl) gT kT bT .nil pass0 (pa_cons (pv 0) (pa_cons (pv 4) pa_nil))) (pv 1) (nomark _))
(pss_one (ps_ret (pe_tup (pa_cons pe_str (pa_cons (pv 4) pa_nil)))))
pss_nil)))
(pss_cons (ps_for PassesOwn.never rfl (pi_list (pv 2)) (pg_name (i := 5) nd rfl (Or.inl rfl))
(pss_cons (ps_set (i := 6) nd rfl (Or.inl rfl) (pe_call GT hr2 (by rfl) gT kT bT .nil pass0 (pa_cons (pv 0) (pa_cons (pv 5) pa_nil))))
(pss_one (ps_for PassesOwn.never rfl (pi_list (pv 3)) (pg_name (i := 7) nd rfl (Or.inl rfl))
(pss_one (ps_if (PW.pt (pw_and (pt_chain op_le op_lt pe_int (pe_op op_sub (pv 6) (pv 7)) (pv 5)) (pw_and1 (pt_cmpR op_eq (pe_call GT hr2 (by rfl) gT kT bT .nil pass0 (pa_cons (pv 0) (pa_cons (pe_op op_sub (pv 6) (pv 7)) pa_nil))) (pv 6) (nomark _)))))
(pss_one (ps_ret (pe_tup (pa_cons pe_str (pa_cons (pe_op op_sub (pv 6) (pv 7)) (pa_cons (pv 5) pa_nil))))))
pss_nil))))))
(pss_one (ps_ret pe_non)))))), ?_⟩
    have hlp := Paired.length hP
    have lb := bys_len ps
    refine ⟨_, rfl, _, rfl, l, zs, ps, N, rfl, hz, hP, hl, fun CF C G sC hC cd => ?_⟩
    have hzC := sqL_same sC hz
    have hPC : Pcs G zs ps := hP.imp fun x p z => z.same sC
    refine ⟨by decide, fun Z nZ => ?_⟩
    have sZ := same_put (o := .lst [.int 0]) nZ
    have hZ : upd G Z (.lst [.int 0]) Z = some (.lst [.int 0]) := upd_same
    generalize upd G Z (.lst [.int 0]) = G1 at sZ hZ
    refine ⟨_, rfl, l, rfl, ⟨_, sqL_same sZ hzC⟩, fun D nD => ?_⟩
    refine lcL (sqL_same sZ hzC) nD (by omega) (fun x => some (V.int (pcAt G x).2.2)) (fun i x J Qy Qn hx sJ ky kn => ?_) (fun J sJ hD => ?_)
    · obtain ⟨p, hp, hpx⟩ := pcs_at hPC hx
      have e := pcAt_of hpx
      obtain ⟨pl, ph, pb⟩ := p
      obtain ⟨a, rfl, ha⟩ := hpx.same (sZ.trans sJ)
      refine ⟨rfl, ?_⟩
      dsimp only [tYes, gName, List.set]
      rw [if_pos rfl]
      exact ⟨_, rfl, _, _, _, _, rfl, rfl, SqT.of ha, rfl, ky _ _ (by rw [e]) (.refl _)⟩
    rw [by_fm hPC] at hD
    refine ⟨Z, D, _, _, rfl, rfl, sJ _ _ hZ, hD, (by rw [List.length_map, List.length_map, sizeLine_eq]; show 1 + _ ≤ _; omega), fun L nL => ⟨_, _, rfl, ?_⟩⟩
    have eL : ([V.int 0] ++ (ps.map (·.2.2)).map V.int) = (bysL ps).map V.int := rfl
    rw [eL]
    have s2 := ((sC.trans sZ).trans sJ).trans (same_put (o := .lst ((bysL ps).map V.int)) nL)
    have hC2 := same_put (o := .lst ((bysL ps).map V.int)) nL _ _ (sJ _ _ (sZ _ _ hC))
    have hL : upd J L (.lst ((bysL ps).map V.int)) L = some (.lst ((bysL ps).map V.int)) := upd_same
    generalize upd J L (.lst ((bysL ps).map V.int)) = G2 at s2 hL hC2
    have hz2 := sqL_same s2 hz
    have hP2 : Pcs G2 zs ps := hP.imp fun x p z => z.same s2
    have fi := law_is hch cd
    clear sZ sJ hZ hD nZ nD nL
    unfold lawF at fi
    dsimp only [gName, List.set]
    -- low
    refine ⟨_, rfl, CF, rfl, ⟨_, SqL.of hC2⟩, ?_⟩
    refine for_it (walk_list (K := K) (a := CF) (xs := C.map V.int)) (fun i σ J => ∃ (y4 y5 y6 y7 y8 : Option V), σ = [some (.ref l), some (.int N), some (.ref CF), some (.ref L), y4, y5, y6, y7, y8] ∧ J = G2 ∧ ∀ x ∈ C.take i, (fun p => decide (mapP ps p < 1)) x = false)
      ⟨_, _, _, _, _, rfl, rfl, fun _ z => nomatch z⟩ (fun _ _ _ _ h => by obtain ⟨_, _, _, _, _, _, rfl, _⟩ := h; exact SqL.of hC2) ?_ ?_
    · rintro i x σ J' J hi ⟨y4, y5, y6, y7, y8, rfl, rfl, hno⟩ ⟨rfl, hx⟩
      rw [List.getElem?_map] at hx
      obtain ⟨p, hp, rfl⟩ := Option.map_eq_some_iff.mp hx
      dsimp only [gName, List.set]
      refine ⟨_, rfl, _, rfl, l, zs, ps, p, rfl, hz2, hP2, _, _, rfl, rfl, _, rfl, ite2' (fun c => ?_) (fun c => ?_)⟩
      · rw [find_at hno hp c] at fi
        refine ⟨_, rfl, (by show 2 ≤ sizeLine; decide), fun T nT => k _ (.low p) _ (s2.trans (same_put nT)) ⟨T, rfl, upd_same⟩ fi⟩
      · exact ⟨_, _, _, _, _, rfl, rfl, take_no hno hp c⟩
    · rintro σ J ⟨y4, y5, y6, y7, y8, rfl, rfl, hno⟩
      rw [List.length_map, List.take_length] at hno
      rw [find_no hno] at fi
      dsimp only at fi
      -- high
      refine ⟨_, rfl, CF, rfl, ⟨_, SqL.of hC2⟩, ?_⟩
      refine for_it (walk_list (K := K) (a := CF) (xs := C.map V.int)) (fun i σ J2 => ∃ (y4 y5 y6 y7 y8 : Option V), σ = [some (.ref l), some (.int N), some (.ref CF), some (.ref L), y4, y5, y6, y7, y8] ∧ J2 = J ∧ ∀ x ∈ C.take i, (fun p => decide (mapP ps p > N)) x = false)
        ⟨_, _, _, _, _, rfl, rfl, fun _ z => nomatch z⟩ (fun _ _ _ _ h => by obtain ⟨_, _, _, _, _, _, rfl, _⟩ := h; exact SqL.of hC2) ?_ ?_
      · rintro i x σ J' J2 hi ⟨y4, y5, y6, y7, y8, rfl, rfl, hno⟩ ⟨rfl, hx⟩
        rw [List.getElem?_map] at hx
        obtain ⟨p, hp, rfl⟩ := Option.map_eq_some_iff.mp hx
        dsimp only [gName, List.set]
        refine ⟨_, rfl, _, rfl, l, zs, ps, p, rfl, hz2, hP2, _, rfl, _, _, rfl, rfl, _, rfl, ite2' (fun c => ?_) (fun c => ?_)⟩
        · rw [find_at hno hp c] at fi
          refine ⟨_, rfl, (by show 2 ≤ sizeLine; decide), fun T nT => k _ (.high p) _ (s2.trans (same_put nT)) ⟨T, rfl, upd_same⟩ fi⟩
        · exact ⟨_, _, _, _, _, rfl, rfl, take_no hno hp c⟩
      · rintro σ J2 ⟨y4, y5, y6, y7, y8, rfl, rfl, hno⟩
        rw [List.length_map, List.take_length] at hno
        rw [find_no hno] at fi
        dsimp only at fi
        -- double
        refine ⟨_, rfl, CF, rfl, ⟨_, SqL.of hC2⟩, ?_⟩
        refine for_it (walk_list (K := K) (a := CF) (xs := C.map V.int)) (fun i σ J3 => ∃ (y4 y5 y6 y7 y8 : Option V), σ = [some (.ref l), some (.int N), some (.ref CF), some (.ref L), y4, y5, y6, y7, y8] ∧ J3 = J2 ∧ ∀ x ∈ C.take i, (fun q => (dblL ps q).isSome) x = false)
          ⟨_, _, _, _, _, rfl, rfl, fun _ z => nomatch z⟩ (fun _ _ _ _ h => by obtain ⟨_, _, _, _, _, _, rfl, _⟩ := h; exact SqL.of hC2) ?_ ?_
        · rintro i x σ J' J3 hi ⟨y4, y5, y6, y7, y8, rfl, rfl, hno⟩ ⟨rfl, hx⟩
          rw [List.getElem?_map] at hx
          obtain ⟨q, hq, rfl⟩ := Option.map_eq_some_iff.mp hx
          dsimp only [gName, List.set]
          refine ⟨_, rfl, _, rfl, l, zs, ps, q, rfl, hz2, hP2, ?_⟩
          dsimp only [gName, List.set]
          refine ⟨_, rfl, L, rfl, ⟨_, SqL.of hL⟩, ?_⟩
          refine for_it (walk_list (K := K) (a := L) (xs := (bysL ps).map V.int)) (fun m σ J4 => ∃ (y7 : Option V), σ = [some (.ref l), some (.int N), some (.ref CF), some (.ref L), y4, some (.int q), some (.int (mapP ps q)), y7, y8] ∧ J4 = J3 ∧ ∀ b ∈ (bysL ps).take m, dblAt ps q b = false)
            ⟨_, rfl, rfl, fun _ z => nomatch z⟩ (fun _ _ _ _ h => by obtain ⟨_, _, rfl, _⟩ := h; exact SqL.of hL) ?_ ?_
          · rintro m x σ K1 K2 hm ⟨y7', rfl, rfl, hno2⟩ ⟨rfl, hx⟩
            rw [List.getElem?_map] at hx
            obtain ⟨b, hb, rfl⟩ := Option.map_eq_some_iff.mp hx
            dsimp only [gName, List.set]
            have fin : dblAt ps q b = false → ∃ (y7 : Option V), ([some (.ref l), some (.int N), some (.ref CF), some (.ref L), y4, some (.int q), some (.int (mapP ps q)), some (.int b), y8] : L2.St) = [some (.ref l), some (.int N), some (.ref CF), some (.ref L), y4, some (.int q), some (.int (mapP ps q)), y7, y8] ∧ K2 = K2 ∧ ∀ b ∈ (bysL ps).take (m + 1), dblAt ps q b = false := fun e => ⟨_, rfl, rfl, take_no hno2 hb e⟩
            refine ⟨_, rfl, _, rfl, _, _, rfl, rfl, _, _, rfl, rfl, _, rfl, ite2' (fun c => ?_) (fun c => ?_)⟩
            · replace c : decide (1 ≤ mapP ps q - b) = true := c
              refine ⟨_, rfl, _, _, rfl, rfl, _, rfl, ite2' (fun d => ?_) (fun d => ?_)⟩
              · replace d : decide (mapP ps q - b < q) = true := d
                refine ⟨_, rfl, _, rfl, _, rfl, _, _, rfl, rfl, l, zs, ps, _, rfl, hz2, hP2, _, rfl, rfl, _, rfl, ite2' (fun e => ?_) (fun e => ?_)⟩
                · replace e : decide (V.int (mapP ps (mapP ps q - b)) = V.int (mapP ps q)) = true := e
                  rw [dI] at e
                  have hk : dblAt ps q b = true := by unfold dblAt; rw [c, d, e]; rfl
                  have hd : dblL ps q = some b := find_at hno2 hb hk
                  rw [find_at hno hq (by show (dblL ps q).isSome = true; rw [hd]; rfl)] at fi
                  dsimp only at fi
                  rw [hd] at fi
                  refine ⟨_, rfl, _, rfl, _, _, rfl, rfl, _, rfl, (by show 3 ≤ sizeLine; decide), fun T nT => k _ (.dbl (mapP ps q - b) q) _ (s2.trans (same_put nT)) ⟨T, rfl, upd_same⟩ fi⟩
                · replace e : decide (V.int (mapP ps (mapP ps q - b)) = V.int (mapP ps q)) = false := e
                  rw [dI] at e
                  exact fin (by unfold dblAt; rw [e, Bool.and_false])
              · replace d : decide (mapP ps q - b < q) = false := d
                exact fin (by unfold dblAt; rw [d, Bool.and_false, Bool.false_and])
            · replace c : decide (1 ≤ mapP ps q - b) = false := c
              exact ⟨_, rfl, no rfl (fin (by unfold dblAt; rw [c, Bool.false_and, Bool.false_and]))⟩
          · rintro σ K1 ⟨y7', rfl, rfl, hno2⟩
            rw [List.length_map, List.take_length] at hno2
            refine ⟨_, _, _, _, _, rfl, rfl, take_no hno hq ?_⟩
            show (dblL ps q).isSome = false
            have : dblL ps q = none := find_no hno2
            rw [this]
            rfl
        · rintro σ J3 ⟨y4, y5, y6, y7, y8, rfl, rfl, hno⟩
          rw [List.length_map, List.take_length] at hno
          rw [find_no hno] at fi
          exact k _ .no _ s2 rfl fi
end
end K04

set_option Elab.async false
set_option maxRecDepth 100000
set_option maxHeartbeats 2000000
namespace K04
open PySem PySem.Spec PyProof.Rows L2 He KX
abbrev sShuf : Stmt := top 35
abbrev NSh : List Str := ["bag", "rows", "left", "found"]
/-- a piece or an integer -/
def Ex (H : Hp) (x : V) : Prop := IsPc H x (pcAt H x) ∨ ∃ i, x = .int i
def exD (H : Hp) (x : V) : PyData := match x with
  | .int i => .int i
  | _ => pieceD (pcAt H x)
theorem ex_dp {K : PySem.W.Frag} {H G : Hp} (same : ∀ x p, IsPc H x p → IsPc G x p) : ∀ {zs : List V}, (∀ z ∈ zs, Ex H z) → DpAll K G zs (zs.map (exD H))
  | [], _ => .nil
  | z :: zs, h => by
    refine .cons ?_ (ex_dp same fun y hy => h y (List.mem_cons_of_mem _ hy))
    rcases h z List.mem_cons_self with q | ⟨i, rfl⟩
    · have q2 := same _ _ q
      generalize hp : pcAt H z = p at q q2
      obtain ⟨a, rfl, e⟩ := q2
      show Dp K G (.ref a) (pieceD (pcAt H (.ref a)))
      rw [hp]
      exact .tup (SqT.of e) (.cons (end_dp _) (.cons (end_dp _) (.cons (.int _) .nil)))
    · exact .int i
theorem ex_shaped {H : Hp} (zs : List V) : SeqAt.shaped (.list (zs.map (exD H))) = true := list_shaped fun d hd => by
  obtain ⟨z, _, rfl⟩ := List.mem_map.mp hd
  unfold exD
  split
  · exact ⟨rfl, Nat.zero_le _⟩
  · exact pieceD_lay _
/-- _law_shuffled, of pieces or integers -/
def spShuf (K : PySem.W.Frag) : Sp := fun vs H Q _ => ∃ (b l : Addr) (n : Int) (xs : List V), vs = [.ref b, .ref l] ∧ Bag H b n ∧ n < 1000 ∧ l ≠ b ∧ H l = some (.lst xs) ∧ xs.length ≤ 100 ∧ (∀ x ∈ xs, Ex H x) ∧
  ∀ F zs H', H F = none → Kept b H H' → Bag H' b (n + 100) → H' F = some (.lst zs) → F ≠ b → zs.Perm xs → Q (.ref F) H'
theorem perm_pcs {b : Addr} {m : Int} {H H' : Hp} {xs zs : List V} {ps : List Pc} (hP : Pcs H xs ps) (hB : Bag H b m) (k : Kept b H H') (hz : zs.Perm xs) : ∃ qs, Pcs H' zs qs ∧ qs.Perm ps := by
  refine ⟨zs.map (pcAt H), ?_, by rw [hP.map]; exact hz.map _⟩
  have q : Pcs H zs (zs.map (pcAt H)) := pcs_of fun x hx => hP.mem x (hz.mem_iff.mp hx)
  exact q.imp fun x p h => h.imp fun a h => ⟨h.1, k a _ (bag_off hB h.2) h.2⟩
structure ShW (b l L F : Addr) (H : Hp) (xs : List V) (n : Int) (m : Nat) (σ : L2.St) (G : Hp) : Prop where
  st : σ = [some (.ref b), some (.ref l), some (.ref L), some (.ref F)]
  kept : Kept b H G
  ls : ∃ fs ls : List V, G L = some (.lst ls) ∧ G F = some (.lst fs) ∧ Bag G b (n + fs.length) ∧ (fs ++ ls).Perm xs ∧ m = ls.length
theorem ixN_nat {n j : Nat} (h : j < n) : ixN n (j : Int) = some j := by
  unfold ixN
  rw [if_pos (by omega), if_pos (by omega)]
  rfl
theorem erase_perm {α : Type} : ∀ {ls : List α} {j : Nat} (h : j < ls.length), (ls[j] :: ls.eraseIdx j).Perm ls
  | _ :: _, 0, _ => .refl _
  | x :: xs, j + 1, h => (List.Perm.swap x _ _).trans (.cons x (erase_perm (ls := xs) (j := j) (Nat.lt_of_succ_lt_succ h)))
section
variable {P : Program} {w : World} {K : PySem.W.Frag} {mg : Str → Option Value} {base : Heap}
theorem scShuf : FnScope NSh ["bag", "rows"] (defScope sShuf) := ⟨rfl, rfl, rfl, by decide +kernel, rfl, by decide +kernel, by decide +kernel⟩
theorem ok_shuf {f fD : Addr} {fd fdD : FuncData} (F : FnP K "_law_shuffled" sShuf f fd) (GD : FnOk P w K mg base CX0 1 fD fdD ["bag", "many"] spDraw) (bD : Binds K fdD ["bag", "many"] []) (kD : PySem.W.keepIn K (.ref fD) = true) (gD : mg "_law_draw" = some (.ref fD))
    (gL : mg "len" = none) (gLi : mg "list" = none) : FnOk P w K mg base CX0 2 f fd ["bag", "rows"] (spShuf K) := by
  refine F.ok scShuf (fun vs H Q E h => ?_) (fun cdv A outer s H vs Q E hr h => ?_)
  · obtain ⟨b, l, n, xs, rfl, _⟩ := h
    rfl
  · obtain ⟨b, l, n, xs, rfl, hB, hn, hlb, hl, hx, hP, k⟩ := h
    have nd := scShuf.nd
    have hu := hr.units
    refine ⟨_, PSs.nox (pss_cons (ps_par (i := 2) (j := 3) (by rfl) nd rfl rfl (by decide) rfl rfl (pa_cons (pe_callTy call_list_of (by rfl) gLi (by decide +kernel) (pa_cons (pv 1) pa_nil)) (pa_cons (pe_lst pa_nil) pa_nil)) (by rfl))
      (pss_cons (ps_while PassesOwn.never (pt_cmpR (op_neD hu) (pv 2) (pe_lst pa_nil) (nomark _))
        (pss_one (ps_expr (pe_bm PySem.F.plainAttrs_list PySem.F.slot_list_append PySem.F.type_list_append mt_append (pv 3) (pa_cons (pe_bm PySem.F.plainAttrs_list PySem.F.slot_list_pop PySem.F.type_list_pop mt_popAt (pv 2)
          (pa_cons (pe_call GD hr rfl gD kD bD .nil pass0 (pa_cons (pv 0) (pa_cons (pe_callB call_len_seq (by rfl) gL PySem.boot_len (pa_cons (pv 2) pa_nil)) pa_nil))) pa_nil)) pa_nil)))))
      (pss_one (ps_ret (pv 3))))), ?_⟩
    refine ⟨_, rfl, l, xs, rfl, .inl (SqL.of hl), fun L nL => ⟨by decide, fun F0 nF => ⟨_, _, rfl, ?_⟩⟩⟩
    have hLb := hB.ne nL
    have hFL : F0 ≠ L := (ne_of_none upd_same nF).symm
    have nFH : H F0 = none := (upd_ne hFL).symm.trans nF
    have hFb := hB.ne nFH
    have kp : ∀ {G : Hp}, Kept b H G → ∀ x p, IsPc H x p → IsPc G x p := fun kk x p h => h.imp fun a h => ⟨h.1, kk a _ (bag_off hB h.2) h.2⟩
    have mp : ∀ {G : Hp}, Kept b H G → ∀ zs : List V, (∀ z ∈ zs, z ∈ xs) → DpAll K G zs (zs.map (exD H)) := fun kk zs h => ex_dp (kp kk) fun z hz => hP z (h z hz)
    refine ⟨ShW b l L F0 H xs n, ⟨xs.length, rfl, fun x o nx e => (upd_ne (ne_of_none e nFH)).trans ((upd_ne (ne_of_none e nL)).trans e), [], xs, (upd_ne hFL.symm).trans upd_same, upd_same, (((hB.put hLb).put hFb).mono (by show n ≤ n + 0; omega)), .refl _, rfl⟩, ?_⟩
    rintro m σ G ⟨rfl, kk, fs, ls, hL, hF, hBG, hpm, rfl⟩
    have hmem : ∀ z ∈ ls, z ∈ xs := fun z hz => hpm.mem_iff.mp (List.mem_append_right _ hz)
    have hlen : fs.length + ls.length = xs.length := by rw [← List.length_append]; exact hpm.length_eq
    refine ⟨_, rfl, by decide, fun T nT => ?_⟩
    have hTb := hBG.ne nT
    have kk2 : Kept b H (upd G T (.lst [])) := fun x o nx e => same_put nT _ _ (kk x o nx e)
    have hL2 := same_put (o := .lst []) nT _ _ hL
    have hF2 := same_put (o := .lst []) nT _ _ hF
    have hB2 := hBG.put (o := .lst []) hTb
    refine ⟨_, _, .lst (SqL.of hL2) (mp kk2 ls hmem), .lst (SqL.of upd_same) .nil, ex_shaped _, rfl, _, rfl, ?_⟩
    rw [ne_nil_eqv]
    generalize upd G T (.lst []) = G2 at kk2 hL2 hF2 hB2
    by_cases hls : ls = []
    · subst hls
      have hz : fs.Perm xs := by rw [List.append_nil] at hpm; exact hpm
      exact ⟨_, rfl, k F0 fs G2 nFH kk2 (hB2.mono (by omega)) hF2 hFb hz⟩
    · have e0 : (!(ls.map (exD H)).isEmpty) = true := by cases ls <;> first | exact absurd rfl hls | rfl
      rw [e0]
      have hp0 : 0 < ls.length := List.length_pos_iff.mpr hls
      refine ⟨fun σ' G' => ∃ m', m' < ls.length ∧ ShW b l L F0 H xs n m' σ' G', fun _ _ h => h, ?_⟩
      refine ⟨_, rfl, .inl ⟨rfl, _, SqL.of hF2⟩, _, rfl, .inl ⟨rfl, _, SqL.of hL2⟩, _, rfl, _, rfl, _, _, rfl, .inl (SqL.of hL2), b, _, _, rfl, hB2, (by omega), (by omega), (by omega), fun r G3 r0 r1 k3 hB3 => ?_⟩
      obtain ⟨j, rfl⟩ : ∃ j : Nat, r = j := ⟨r.toNat, by omega⟩
      have hj : j < ls.length := by omega
      have hL3 := (k3 L hLb).trans hL2
      have hF3 := (k3 F0 hFb).trans hF2
      have kk3 : Kept b H G3 := fun x o nx e => (k3 x nx).trans (kk2 x o nx e)
      refine ⟨L, ls, _, j, ls[j], rfl, rfl, hL3, (by omega), (by omega), (ixN_seq (ixN_nat hj)).1, List.getElem?_eq_getElem hj, ?_⟩
      refine ⟨F0, fs, _, rfl, rfl, (upd_ne hFL).trans hF3, (by rw [sizeLine_eq]; omega), ?_⟩
      refine ⟨(ls.eraseIdx j).length, (by rw [List.length_eraseIdx_of_lt hj]; omega), rfl, fun x o nx e => ?_, fs ++ [ls[j]], ls.eraseIdx j, (upd_ne hFL.symm).trans upd_same, upd_same, ?_, ?_, rfl⟩
      · rw [upd_ne (ne_of_none e nFH), upd_ne (ne_of_none e nL)]
        exact kk3 x o nx e
      · have q := (hB3.put (o := .lst (ls.eraseIdx j)) hLb).put (o := .lst (fs ++ [ls[j]])) hFb
        refine q.mono ?_
        rw [List.length_append]
        show n + (fs.length : Int) + 1 ≤ n + ((fs.length + 1 : Nat) : Int)
        omega
      · rw [List.append_assoc]
        exact (List.Perm.append_left fs (erase_perm hj)).trans hpm
end
end K04

set_option Elab.async false
set_option maxRecDepth 100000
set_option maxHeartbeats 1000000
namespace K04
open PySem PySem.Spec PyProof.Rows L2 He KX
abbrev sBlk : Stmt := top 36
/-- _law_blocks -/
def spBlk (K : PySem.W.Frag) : Sp := fun vs H Q _ => ∃ (b : Addr) (n st : Int), vs = [.ref b, .int st] ∧ Bag H b n ∧ n < 500 ∧
  ∀ T F last xs ps H', H F = none → F ≠ b → H' T = some (.tup [.ref F, .int last]) → H' F = some (.lst xs) → Kept b H H' → Bag H' b (n + 300) → Pcs H' xs ps → xs.length ≤ 5 → 0 < xs.length → Chain ps → (∀ p ∈ ps, okPc p) → Q (.ref T) H'
structure BK (b : Addr) (H G : Hp) (m : Int) : Prop where
  bag : Bag G b m
  kept : Kept b H G
section
variable {b F L : Addr} {H G G' : Hp} {m m' : Int} {o : HO}
theorem BK.draw (h : BK b H G m) (k : But b G G') (hb : Bag G' b m') : BK b H G' m' := ⟨hb, fun x o n e => (k x n).trans (h.kept x o n e)⟩
theorem BK.new (h : BK b H G m) (n : G L = none) : BK b H (upd G L o) m := ⟨h.bag.put (h.bag.ne n), fun x u n1 e => same_put n _ _ (h.kept x u n1 e)⟩
theorem BK.put (h : BK b H G m) (n : H F = none) (nb : F ≠ b) : BK b H (upd G F o) m := ⟨h.bag.put nb, fun x u n1 e => (upd_ne (ne_of_none e n)).trans (h.kept x u n1 e)⟩
theorem BK.le (h : BK b H G m) (q : m ≤ m') : BK b H G m' := ⟨h.bag.mono q, h.kept⟩
theorem BK.free (h : BK b H G m) (n : G L = none) : H L = none := by
  cases e : H L with
  | none => rfl
  | some o => exact absurd (h.kept L o (h.bag.ne n) e) (by rw [n]; exact nofun)
end
theorem first_ix : ∀ {l : List Int} {k : Int}, k ∈ l → ∃ j : Nat, l[j]? = some k ∧ ∀ (m : Nat) (z : Int), m < j → l[m]? = some z → z ≠ k
  | x :: l, k, h => by
    by_cases c : x = k
    · exact ⟨0, by rw [c]; rfl, fun m z hm _ => absurd hm (Nat.not_lt_zero _)⟩
    · obtain ⟨j, h1, h2⟩ := first_ix ((List.mem_cons.mp h).resolve_left fun z => c z.symm)
      refine ⟨j + 1, h1, fun m z hm hz => ?_⟩
      cases m with
      | zero => cases hz; exact c
      | succ m => exact h2 m z (by omega) hz
section
variable {P : Program} {w : World} {K : PySem.W.Frag} {mg : Str → Option Value} {base : Heap}
theorem scBlk : FnScope ["bag", "start", "lengths", "order", "found", "low", "k", "ahead", "turn", "j"] ["bag", "start"] (defScope sBlk) := ⟨rfl, rfl, rfl, by decide +kernel, rfl, by decide +kernel, by decide +kernel⟩
theorem ok_blk {f fD fO fSh : Addr} {fd fdD fdO fdSh : FuncData} (F : FnP K "_law_blocks" sBlk f fd) (GD : FnOk P w K mg base CX0 1 fD fdD ["bag", "many"] spDraw) (bD : Binds K fdD ["bag", "many"] []) (kD : PySem.W.keepIn K (.ref fD) = true) (gD : mg "_law_draw" = some (.ref fD))
    (GO : FnOk P w K mg base CX0 2 fO fdO ["bag", "some"] (spOf K)) (bO : Binds K fdO ["bag", "some"] []) (kO : PySem.W.keepIn K (.ref fO) = true) (gO : mg "_law_of" = some (.ref fO))
    (GSh : FnOk P w K mg base CX0 2 fSh fdSh ["bag", "rows"] (spShuf K)) (bSh : Binds K fdSh ["bag", "rows"] []) (kSh : PySem.W.keepIn K (.ref fSh) = true) (gSh : mg "_law_shuffled" = some (.ref fSh))
    (n_list : mg "list" = none) (n_range : mg "range" = none) (n_len : mg "len" = none) (n_sum : mg "sum" = none) : FnOk P w K mg base CX0 3 f fd ["bag", "start"] (spBlk K) := by
  refine F.ok scBlk (fun vs H Q E h => ?_) (fun cdv A outer s H vs Q E hr h => ?_)
  · obtain ⟨b, n, st, rfl, _⟩ := h
    rfl
  · obtain ⟨b, n, st, rfl, hB, hn, k⟩ := h
    have nd := scBlk.nd
    have hr1 := hr.mono (j := 1) (by decide)
    have hr2 := hr.mono (j := 2) (by decide)
    have hu := hr.units
    refine ⟨_, PSs.nox (pss_cons (ps_set (i := 2) nd rfl (Or.inr rfl) (pe_lc (own := [("turn", 8)]) (g := (gName 8)) (tt := tYes) rfl nd (pi_range1 (by rfl) n_range (pa_cons (pe_op op_add pe_int (pe_call GD hr1 (by rfl) gD kD bD .nil pass0 (pa_cons (pv 0) (pa_cons pe_int pa_nil)))) pa_nil)) (blkOk_by (own := [("turn", 8)]) (N := ["bag", "start", "lengths", "order", "found", "low", "k", "ahead", "turn", "j"]) (sc := defScope sBlk) (by decide +kernel)) (fun _ _ _ _ _ => (pg_name (i := 8) nd rfl (Or.inl rfl))) (fun _ _ _ _ _ => pts_nil) (fun _ _ _ _ _ => (pe_op op_add pe_int (pe_call GO hr2 (by rfl) gO kO bO .nil pass0 (pa_cons (pv 0) (pa_cons (pe_lst (pa_cons pe_int (pa_cons pe_int (pa_cons pe_int (pa_cons pe_int (pa_cons (pe_call GD hr1 (by rfl) gD kD bD .nil pass0 (pa_cons (pv 0) (pa_cons (pe_op op_pow pe_int pe_int) pa_nil))) pa_nil)))))) pa_nil)))))))
(pss_cons (ps_set (i := 3) nd rfl (Or.inl rfl) (pe_call GSh hr2 (by rfl) gSh kSh bSh .nil pass0 (pa_cons (pv 0) (pa_cons (pe_listRg rfl (by rfl) n_list (prg_1 (by rfl) n_range (pe_callB call_len_seq (by rfl) n_len PySem.boot_len (pa_cons (pv 2) pa_nil)))) pa_nil))))
(pss_cons (ps_par (i := 4) (j := 5) (by rfl) nd rfl rfl (by decide) rfl rfl (pa_cons (pe_lst pa_nil) (pa_cons (pv 1) pa_nil)) (by rfl))
(pss_cons (ps_for PassesOwn.never rfl (pi_range1 (by rfl) n_range (pa_cons (pe_callB call_len_seq (by rfl) n_len PySem.boot_len (pa_cons (pv 2) pa_nil)) pa_nil)) (pg_name (i := 6) nd rfl (Or.inl rfl))
(pss_cons (ps_set (i := 7) nd rfl (Or.inl rfl) (pe_callB (cr_sum rfl) (by rfl) n_sum (by decide +kernel) (pa_cons (pe_lc (own := [("j", 9)]) (g := (gName 9)) (tt := tYes) rfl nd (pi_list (pe_slice sl_list (pv 3) po_none (po_some (pe_bm PySem.F.plainAttrs_list PySem.F.slot_list_index PySem.F.type_list_index mt_index (pv 3) (pa_cons (pv 6) pa_nil))))) (blkOk_by (own := [("j", 9)]) (N := ["bag", "start", "lengths", "order", "found", "low", "k", "ahead", "turn", "j"]) (sc := defScope sBlk) (by decide +kernel)) (fun _ _ _ _ _ => (pg_name (i := 9) nd rfl (Or.inl rfl))) (fun _ _ _ _ _ => pts_nil) (fun _ _ _ _ _ => (pe_ix (show IxR _ (rIxL K) from ix_list) (pv 2) (pv 9) (fun _ _ => rfl)))) pa_nil)))
(pss_cons (ps_expr (pe_bm PySem.F.plainAttrs_list PySem.F.slot_list_append PySem.F.type_list_append mt_append (pv 4) (pa_cons (pe_tup (pa_cons (pv 5) (pa_cons (pe_op op_sub (pe_op op_add (pv 5) (pe_ix ix_list (pv 2) (pv 6) (fun _ _ => rfl))) pe_int) (pa_cons (pe_op op_sub (pe_op op_add (pv 1) (pv 7)) (pv 5)) pa_nil)))) pa_nil)))
(pss_one (ps_set (i := 5) nd rfl (Or.inl rfl) (pe_op op_add (pv 5) (pe_ix ix_list (pv 2) (pv 6) (fun _ _ => rfl))))))))
(pss_one (ps_ret (pe_tup (pa_cons (pv 4) (pa_cons (pe_op op_sub (pv 5) pe_int) pa_nil))))))))), ?_⟩
    have k0 : BK b H H n := ⟨hB, fun _ _ _ e => e⟩
    refine ⟨_, rfl, b, n, 5, rfl, hB, by omega, by decide, by decide, fun r G0 r0 r1 b0 hB0 => ⟨_, _, rfl, rfl, _, rfl, by omega, by omega, fun D nD => ?_⟩⟩
    obtain ⟨q, rfl⟩ : ∃ q : Nat, r = q := ⟨r.toNat, by omega⟩
    have k1 := k0.draw b0 hB0
    have hDH := k1.free nD
    have hDb := k1.bag.ne nD
    have e1 : ((1 : Int) + (q : Int)).toNat = q + 1 := by omega
    rw [e1]
    have hq5 : q < 5 := by omega
    refine lc_it (walk_rng (n := q + 1)) (fun i G => ∃ ls : List Int, G D = some (.lst (ls.map V.int)) ∧ ls.length = i ∧ (∀ x ∈ ls, 1 ≤ x) ∧ BK b H G (n + 1 + 2 * i)) ⟨[], upd_same, rfl, (fun _ z => nomatch z), (k1.new nD).le (by omega)⟩ (fun _ _ _ _ => trivial) ?_ ?_
    · rintro i x G' G hi ⟨ls, hD, hl, hpos, kk⟩ ⟨rfl, rfl⟩
      refine ⟨rfl, ?_⟩
      dsimp only [tYes, gName, List.set]
      rw [if_pos rfl]
      refine ⟨_, rfl, _, rfl, _, _, rfl, rfl, ⟨by decide, by decide, by decide⟩, b, _, _, rfl, kk.bag, (by omega), (by decide), (by decide), fun d1 G1 d1a d1b b1 hB1 => ?_⟩
      have k2 := kk.draw b1 hB1
      refine ⟨(by show 5 ≤ sizeLine; decide), fun L nL => ?_⟩
      have k3 := k2.new (o := .lst [.int 0, .int 0, .int 1, .int 3, .int d1]) nL
      refine ⟨b, L, _, _, rfl, k3.bag, (by omega), k2.bag.ne nL, SqL.of upd_same, (by show 0 < 5; decide), (by show 5 ≤ 1000; decide), fun j v G2 hv b2 hB2 => ?_⟩
      have k4 := k3.draw b2 hB2
      obtain ⟨x1, rfl, hx1⟩ : ∃ m : Int, v = .int m ∧ 0 ≤ m := by
        match j, hv with
        | 0, e => exact ⟨0, (Option.some.inj e).symm, by decide⟩
        | 1, e => exact ⟨0, (Option.some.inj e).symm, by decide⟩
        | 2, e => exact ⟨1, (Option.some.inj e).symm, by decide⟩
        | 3, e => exact ⟨3, (Option.some.inj e).symm, by decide⟩
        | 4, e => exact ⟨d1, (Option.some.inj e).symm, d1a⟩
      have hD2 : G2 D = some (.lst (ls.map V.int)) := (b2 D hDb).trans (same_put nL _ _ ((b1 D hDb).trans hD))
      refine ⟨_, _, rfl, rfl, _, hD2, (by rw [List.length_map, sizeLine_eq]; omega), ls ++ [1 + x1], ?_, by rw [List.length_append, hl]; rfl, ?_, (k4.put hDH hDb).le (by omega)⟩
      · rw [upd_same, List.map_append]
        rfl
      · intro y hy
        rcases List.mem_append.mp hy with hy | hy
        · exact hpos y hy
        · rw [List.mem_singleton.mp hy]
          omega
    · rintro G ⟨ls, hD, hl, hpos, kk⟩
      have hlq : ls.length ≤ 5 := by omega
      refine ⟨_, rfl, _, rfl, D, _, rfl, .inl (SqL.of hD), _, rfl, (RgOk.of_le (by decide) (by rw [List.length_map]; omega) (by decide) (by omega)), fun R nR => ?_⟩
      rw [List.length_map]
      have hRb := kk.bag.ne nR
      have k2 := kk.new (o := .lst (rgV 0 (ls.length : Nat))) nR
      have hDR := same_put (o := .lst (rgV 0 (ls.length : Nat))) nR _ _ hD
      have hRl : (rgV 0 (ls.length : Nat)).length = ls.length := by rw [rgV_length]; omega
      refine ⟨b, R, _, _, rfl, k2.bag, (by omega), hRb, upd_same, (by rw [hRl]; omega), (fun x hx => by
        obtain ⟨i, _, rfl⟩ := List.mem_map.mp hx
        exact .inr ⟨_, rfl⟩), fun O os G2 nO kO hBO hO nOb hperm => ?_⟩
      have k3 : BK b H G2 (n + 111 + 100) := ⟨hBO.mono (by omega), fun x o nx e => kO x o nx (k2.kept x o nx e)⟩
      have hD3 : G2 D = some (.lst (ls.map V.int)) := kO _ _ hDb hDR
      have hol : os.length = ls.length := by rw [hperm.length_eq, hRl]
      have hos : ∃ js : List Nat, os = js.map (fun i : Nat => V.int (i : Int)) ∧ js.Perm (List.range ls.length) := by
        have e : rgV 0 (ls.length : Nat) = (List.range ls.length).map (fun i : Nat => V.int (i : Int)) := by
          unfold rgV
          rw [show ((ls.length : Int) - 0).toNat = ls.length by omega]
          exact List.map_congr_left fun i _ => by rw [Int.zero_add]
        rw [e] at hperm
        refine ⟨os.map (fun v => match v with | .int i => i.toNat | _ => 0), ?_, ?_⟩
        · rw [List.map_map]
          refine (List.map_id os).symm.trans (List.map_congr_left fun v hv => ?_)
          obtain ⟨i, _, rfl⟩ := List.mem_map.mp (hperm.mem_iff.mp hv)
          rfl
        · have := hperm.map (fun v : V => match v with | .int i => i.toNat | _ => 0)
          rw [List.map_map] at this
          refine this.trans (List.Perm.of_eq ?_)
          refine Eq.trans (List.map_congr_left fun i _ => ?_) (List.map_id _)
          rfl
      obtain ⟨js, rfl, hjs⟩ := hos
      clear hperm
      have hjl : js.length = ls.length := by rw [hjs.length_eq, List.length_range]
      refine ⟨by decide, fun F0 nF => ⟨_, rfl, _, _, rfl, ?_⟩⟩
      have hFb := k3.bag.ne nF
      have hFH := k3.free nF
      have k4 := k3.new (o := .lst []) nF
      have hDF : D ≠ F0 := ne_of_none hD3 nF
      have hOF : O ≠ F0 := ne_of_none hO nF
      have hD4 := same_put (o := .lst []) nF _ _ hD3
      have hO4 := same_put (o := .lst []) nF _ _ hO
      have hF4 : upd G2 F0 (.lst []) F0 = some (.lst []) := upd_same
      generalize upd G2 F0 (.lst []) = G4 at k4 hD4 hO4 hF4
      refine ⟨_, rfl, D, _, rfl, .inl (SqL.of hD4), _, rfl, (by rw [List.length_map]; omega), (by rw [List.length_map]; omega), ?_⟩
      rw [List.length_map, show ((ls.length : Nat) : Int).toNat = ls.length by omega]
      refine for_it (walk_rng (n := ls.length)) (fun i σ G => ∃ (lo : Int) (zs : List V) (ps : List Pc) (y6 y7 : Option V), σ = [some (.ref b), some (.int st), some (.ref D), some (.ref O), some (.ref F0), some (.int lo), y6, y7, none, none] ∧ G F0 = some (.lst zs) ∧ Pcs G zs ps ∧ zs.length = i ∧ BK b H G (n + 300) ∧ Kept F0 G4 G ∧ Chain ps ∧ (∀ p ∈ ps, okPc p ∧ ∃ h, p.2.1 = some h ∧ h < lo))
        ⟨st, [], [], none, none, rfl, hF4, .nil, rfl, k4.le (by omega), (fun _ _ _ e => e), .nil, fun _ z => nomatch z⟩ (fun _ _ _ _ _ => trivial) ?_ ?_
      · rintro i x σ G' G hi ⟨lo, zs, ps, y6, y7, rfl, hFG, hps, hzl, kk, kF, hch, hall⟩ ⟨rfl, rfl⟩
        obtain ⟨j, hj1, hj2⟩ := first_ix (l := js.map (fun i : Nat => (i : Int))) (k := (i : Int)) (List.mem_map.mpr ⟨i, hjs.mem_iff.mpr (List.mem_range.mpr hi), rfl⟩)
        have hjlt : j < js.length := by
          have := (List.getElem?_eq_some_iff.mp hj1).1
          rw [List.length_map] at this
          exact this
        have hOG := kF _ _ hOF hO4
        have hDG := kF _ _ hDF hD4
        rw [List.getElem?_map] at hj1
        obtain ⟨ji, hji, hjk⟩ := Option.map_eq_some_iff.mp hj1
        refine ⟨_, rfl, _, rfl, .inl ⟨rfl, _, SqL.of hOG⟩, _, rfl, O, _, _, j, .int (ji : Int), rfl, rfl, SqL.of hOG, rfl, (by rw [List.all_map]; exact List.all_eq_true.mpr fun _ _ => rfl), (by rw [List.getElem?_map, hji]; rfl), (by show ((ji : Int) == (i : Int)) = true; rw [hjk]; exact beq_self_eq_true _), (fun m z' hm hz => ?_), _, rfl, O, _, rfl, SqL.of hOG, fun S nS => ⟨S, rfl, ⟨_, SqL.of upd_same⟩, fun E1 nE => ?_⟩⟩
        · rw [List.getElem?_map] at hz
          obtain ⟨mi, hmi, rfl⟩ := Option.map_eq_some_iff.mp hz
          exact beq_false_of_ne (hj2 m (mi : Int) hm (by rw [List.getElem?_map, hmi]; rfl))
        · rw [cut_to _ _ (by rw [List.length_map]; omega), ← List.map_take] at nE ⊢
          have hsub : ∀ y ∈ js.take j, y < ls.length := fun y hy => List.mem_range.mp (hjs.mem_iff.mp (List.mem_of_mem_take hy))
          have hSl : (js.take j).length ≤ 5 := by rw [List.length_take]; omega
          generalize js.take j = hs at hsub hSl nE
          have k5 := kk.new (o := .lst (hs.map (fun i : Nat => V.int (i : Int)))) nS
          have sS := same_put (o := .lst (hs.map (fun i : Nat => V.int (i : Int)))) nS
          have hS5 : upd G S (.lst (hs.map (fun i : Nat => V.int (i : Int)))) S = some (.lst (hs.map (fun i : Nat => V.int (i : Int)))) := upd_same
          generalize upd G S (.lst (hs.map (fun i : Nat => V.int (i : Int)))) = G5 at k5 sS hS5 nE
          refine lc_it (walk_list (K := K) (a := S) (xs := hs.map (fun i : Nat => V.int (i : Int)))) (fun m J => ∃ as : List Int, J E1 = some (.lst (as.map V.int)) ∧ as.length = m ∧ Same G5 J ∧ BK b H J (n + 300)) ⟨[], upd_same, rfl, same_put nE, k5.new nE⟩ (fun _ _ _ h => by obtain ⟨_, _, _, q, _⟩ := h; exact SqL.of (q _ _ hS5)) ?_ ?_
          · rintro m x J' J hm ⟨as, hE, hal, sJ, kJ⟩ ⟨rfl, hx⟩
            rw [List.length_map] at hm
            rw [List.getElem?_map] at hx
            obtain ⟨y, hy, rfl⟩ := Option.map_eq_some_iff.mp hx
            have hyl := hsub y (List.mem_of_getElem? hy)
            refine ⟨rfl, ?_⟩
            dsimp only [tYes, gName, List.set]
            rw [if_pos rfl]
            have hyx : (ls.map V.int)[y]? = some (.int ls[y]) := by
              rw [List.getElem?_map, List.getElem?_eq_getElem hyl]
              rfl
            refine ⟨_, rfl, _, rfl, D, _, _, _, rfl, rfl, SqL.of (sJ _ _ (sS _ _ hDG)), atI_nat hyx, _, hE, (by rw [List.length_map, sizeLine_eq]; omega), as ++ [ls[y]], ?_, by rw [List.length_append, hal]; rfl, fun u o e => ?_, kJ.put ?_ ?_⟩
            · rw [upd_same, List.map_append]
              rfl
            · rw [upd_ne (ne_of_none e nE)]
              exact sJ _ _ e
            · exact k5.free nE
            · exact k5.bag.ne nE
          · rintro J ⟨as, hE, hal, sJ, kJ⟩
            have hiF : (ls.map V.int)[i]? = some (.int ls[i]) := by
              rw [List.getElem?_map, List.getElem?_eq_getElem hi]
              rfl
            have hFJ := sJ _ _ (sS _ _ hFG)
            have hDJ := sJ _ _ (sS _ _ hDG)
            refine ⟨E1, as, rfl, SqL.of hE, ?_⟩
            refine ⟨_, rfl, .inl ⟨rfl, _, SqL.of hFJ⟩, _, rfl, _, rfl, _, rfl, _, rfl, D, _, _, _, rfl, rfl, SqL.of hDJ, atI_nat hiF, _, _, rfl, rfl, _, _, rfl, rfl, _, rfl, _, rfl, _, _, rfl, rfl, _, rfl, _, _, rfl, rfl, (by show 3 ≤ sizeLine; decide), fun T nT => ?_⟩
            generalize as.sum = ah
            have hTF : T ≠ F0 := (ne_of_none hFJ nT).symm
            refine ⟨F0, zs, _, rfl, rfl, same_put nT _ _ hFJ, (by rw [sizeLine_eq]; omega), ?_⟩
            have sT := same_put (o := .tup [.int lo, .int (lo + ls[i] - 1), .int (st + ah - lo)]) nT
            have kT := kJ.new (o := .tup [.int lo, .int (lo + ls[i] - 1), .int (st + ah - lo)]) nT
            have hT : upd J T (.tup [.int lo, .int (lo + ls[i] - 1), .int (st + ah - lo)]) T = some (.tup [.int lo, .int (lo + ls[i] - 1), .int (st + ah - lo)]) := upd_same
            have hFJ' := sT _ _ hFJ
            have hDJ' := sT _ _ hDJ
            have kGJ : Kept F0 G (upd J T (.tup [.int lo, .int (lo + ls[i] - 1), .int (st + ah - lo)])) := fun u o n e => sT _ _ (sJ _ _ (sS _ _ e))
            have kFJ : Kept F0 G4 (upd J T (.tup [.int lo, .int (lo + ls[i] - 1), .int (st + ah - lo)])) := fun u o n e => sT _ _ (sJ _ _ (sS _ _ (kF u o n e)))
            generalize upd J T (.tup [.int lo, .int (lo + ls[i] - 1), .int (st + ah - lo)]) = J2 at kT hT hFJ' hDJ' kFJ kGJ
            have k6 : Kept F0 J2 (upd J2 F0 (.lst (zs ++ [.ref T]))) := fun u o n e => by rw [upd_ne n]; exact e
            refine ⟨_, rfl, _, rfl, _, rfl, D, _, _, _, rfl, rfl, SqL.of (k6 _ _ hDF hDJ'), atI_nat hiF, _, _, rfl, rfl, ?_⟩
            have hli := hpos _ (List.getElem_mem hi)
            refine ⟨lo + ls[i], zs ++ [.ref T], ps ++ [(some lo, some (lo + ls[i] - 1), st + ah - lo)], _, _, rfl, upd_same, pcs_snoc (show IsPc _ (.ref T) (some lo, some (lo + ls[i] - 1), st + ah - lo) from ⟨T, rfl, k6 _ _ hTF hT⟩) ?_, by rw [List.length_append, hzl]; rfl, kT.put hFH hFb, fun u o n e => k6 _ _ n (kFJ u o n e), chain_snoc hch (at1 := lo) (fun q hq => (hall q hq).2) rfl (Int.le_refl _), fun q hq => ?_⟩
            · exact hps.imp fun x p z => z.kept (fun u o n e => k6 _ _ n (kGJ u o n e)) hFG
            · rcases List.mem_append.mp hq with hq | hq
              · obtain ⟨h1, h, h2, h3⟩ := hall q hq
                exact ⟨h1, h, h2, by omega⟩
              · rw [List.mem_singleton.mp hq]
                exact ⟨decide_eq_true (by omega), _, rfl, by omega⟩
      · rintro σ G ⟨lo, zs, ps, y6, y7, rfl, hFG, hps, hzl, kk, kF, hch, hall⟩
        refine ⟨_, rfl, _, rfl, _, _, rfl, rfl, (by show 2 ≤ sizeLine; decide), fun T nT => ?_⟩
        refine k T F0 (lo - 1) zs ps _ hFH hFb upd_same (same_put nT _ _ hFG) (fun u o n e => same_put nT _ _ (kk.kept u o n e)) (kk.new nT).bag (hps.imp fun x p z => z.same (same_put nT)) (by omega) (by omega) hch fun p hp => (hall p hp).1
end
end K04

set_option Elab.async false
set_option maxRecDepth 100000
set_option maxHeartbeats 1000000
namespace K04
open PySem PySem.Spec PySem.Calls PyProof.Rows L2 He KX StX
theorem passLN {X : Cx} : Passes (L2N.CX X.prog X.w) X (fun _ _ _ => False) := fun _ _ _ _ _ _ _ h => by
  obtain ⟨_, _, _, _, _, _, _, _, _, _, _, _, z⟩ := h
  exact z.elim
theorem toR {P : Program} {w : World} {K : PySem.W.Frag} {mg : Str → Option Value} {base : Heap} {CX : CXT} {k : Nat} {f : Addr} {fd : FuncData} {ps : List Str} {sp : Sp} (F : FnOk P w K mg base CX k f fd ps sp) (hb : Binds K fd ps []) : FnR P w K mg base CX k f sp := fun A outer s H us vs Q E hr e0 r h => by
  have hl : (us ++ []).length = ps.length := by
    rw [List.append_nil, ← r.length]
    exact F.len _ _ _ _ h
  have hbi := hb s us (e0.mod.kin.keeps fun b o z => (e0.bs b o z).1) hl
  rw [List.append_nil] at hbi
  exact F.run A outer s H ⟨us, []⟩ us vs Q E hr e0 hbi r h
theorem SlAt.same {K : PySem.W.Frag} {H G : Hp} {s : Addr} {rs : List Pc} (q : Same H G) (h : SlAt K H s rs) : SlAt K G s rs := by
  obtain ⟨dx, tz, zs, h1, h2, h3⟩ := h
  exact ⟨dx, tz, zs, q _ _ h1, q _ _ h2, h3.imp fun x p z => z.same q⟩
theorem endV_sc (l : Option Int) : Sc (endV l) := by cases l <;> exact True.intro
theorem pc3_of {p : Pc} (h : okPc p) : pc3 [endV p.1, endV p.2.1, .int p.2.2] = some p := by
  obtain ⟨l, u, b⟩ := p
  have e : ∀ o, endOf (endV o) = some o := fun o => by cases o <;> rfl
  show ((some b).bind fun b => (endOf (endV l)).bind fun l => (endOf (endV u)).bind fun h => if okP l h then some (l, h, b) else none) = _
  rw [e, e]
  show (if okP l u = true then some (l, u, b) else none) = _
  rw [if_pos h]
theorem pcs_things {K : PySem.W.Frag} {H : Hp} : ∀ {zs : List V} {ps : List Pc}, Pcs H zs ps → (∀ p ∈ ps, okPc p) → Things K H zs (ps.map some)
  | _, _, .nil, _ => .nil
  | _, p :: _, .cons h t, k => by
    obtain ⟨a, rfl, e⟩ := h
    refine .cons ?_ (pcs_things t fun p hp => k p (List.mem_cons_of_mem _ hp))
    have q := Thing.tup (K := K) e fun y hy => by
      rcases List.mem_cons.mp hy with rfl | hy
      · exact endV_sc _
      rcases List.mem_cons.mp hy with rfl | hy
      · exact endV_sc _
      rw [List.mem_singleton.mp hy]
      exact True.intro
    rw [pc3_of (k p List.mem_cons_self)] at q
    exact q
abbrev nfP (ps : List Pc) : List Pc := mergeAll (ps.filter mvs)
theorem some_inj : ∀ {xs ys : List Pc}, xs.map some = ys.map some → xs = ys
  | [], [], _ => rfl
  | [], _ :: _, h => by cases h
  | _ :: _, [], h => by cases h
  | x :: xs, y :: ys, h => by
    obtain ⟨h1, h2⟩ := List.cons.inj h
    rw [Option.some.inj h1, some_inj h2]
/-- a chain, shuffled, makes a Slide with its pieces in normal form -/
theorem sld_good {K : PySem.W.Frag} {H : Hp} {ps qs : List Pc} {Q : V → Hp → Prop} (hp : qs.Perm ps) (hc : Chain ps) (hok : ∀ p ∈ ps, okPc p) (k : ∀ s H', Same H H' → SlAt K H' s (nfP ps) → Q (.ref s) H') : Sld K H (qs.map some) Q (fun _ _ _ => False) := by
  refine ⟨fun i hi => ?_, fun _ s rs ns H' sm e hn hs => ?_⟩
  · rw [fb_perm hp hc] at hi
    cases hi
  · have e2 : qs = rs := some_inj e
    subst e2
    rw [norm_is hn hp hc hok] at hs
    exact k s H' sm hs
theorem merge_len : ∀ (qs rs : List Pc), (qs.foldl mergeStep rs).length ≤ rs.length + qs.length
  | [], rs => Nat.le_refl _
  | q :: qs, rs => by
    have h := merge_len qs (mergeStep rs q)
    have h2 : (mergeStep rs q).length ≤ rs.length + 1 := by
      generalize e : mergeStep rs q = zs
      have S := step_is rs q
      rw [e] at S
      cases S with
      | app n => rw [List.length_append]; exact Nat.le_refl _
      | join e1 j =>
        subst e1
        rw [List.length_append, List.length_append]
        show _ + 1 ≤ _ + 1 + 1
        omega
    show (qs.foldl mergeStep (mergeStep rs q)).length ≤ rs.length + (qs.length + 1)
    omega
theorem nf_len (ps : List Pc) : (nfP ps).length ≤ ps.length := by
  have h := merge_len (ps.filter mvs) []
  have h2 := List.length_filter_le mvs ps
  show ((ps.filter mvs).foldl mergeStep []).length ≤ _
  have h3 : ([] : List Pc).length = 0 := rfl
  omega

end K04

set_option Elab.async false
set_option maxRecDepth 100000
set_option maxHeartbeats 1000000
namespace K04
open PySem PySem.Spec PyProof.Rows L2 He KX
def spLaw (K : PySem.W.Frag) : Sp := fun vs H Q _ => ∃ (a : Addr) (ns : List Int), vs = [.ref a] ∧ SqL K H a (ns.map V.int) ∧ ns.length ≤ 63 ∧ ∀ H', Q (.bl true) H'
theorem pcs_set {H : Hp} {y : V} {r : Pc} : ∀ {zs : List V} {ps : List Pc}, Pcs H zs ps → IsPc H y r → ∀ q : Nat, Pcs H (zs.set q y) (ps.set q r)
  | _, _, .nil, _, _ => .nil
  | _, _, .cons _ t, h, 0 => .cons h t
  | _, _, .cons g t, h, q + 1 => .cons g (pcs_set t h q)
theorem chain_set : ∀ {ps : List Pc} {k : Nat} {l h : Option Int} {b b' : Int}, Chain ps → (∀ p ∈ ps, okPc p) → ps[k]? = some (l, h, b) → Chain (ps.set k (l, h, b')) ∧ ∀ p ∈ ps.set k (l, h, b'), okPc p
  | p :: ps, 0, l, h, b, b', hc, hok, e => by
    cases e
    obtain ⟨c1, c2⟩ := List.pairwise_cons.mp hc
    refine ⟨List.pairwise_cons.mpr ⟨fun q hq => c1 q hq, c2⟩, fun q hq => ?_⟩
    rcases List.mem_cons.mp hq with rfl | hq
    · exact hok (l, h, b) List.mem_cons_self
    · exact hok q (List.mem_cons_of_mem _ hq)
  | p :: ps, k + 1, l, h, b, b', hc, hok, e => by
    obtain ⟨c1, c2⟩ := List.pairwise_cons.mp hc
    obtain ⟨i1, i2⟩ := chain_set (b' := b') c2 (fun q hq => hok q (List.mem_cons_of_mem _ hq)) (show ps[k]? = some (l, h, b) from e)
    refine ⟨List.pairwise_cons.mpr ⟨fun q hq => ?_, i1⟩, fun q hq => ?_⟩
    · rcases List.mem_or_eq_of_mem_set hq with h1 | rfl
      · exact c1 q h1
      · exact c1 (l, h, b) (List.mem_of_getElem? e)
    · rcases List.mem_cons.mp hq with rfl | hq
      · exact hok _ List.mem_cons_self
      · exact i2 q hq
def fltD : Flt → PyData
  | .no => .none
  | .low p => .tuple [.str "low", .int p]
  | .high p => .tuple [.str "high", .int p]
  | .dbl p q => .tuple [.str "double", .int p, .int q]
theorem fv_dp {K : PySem.W.Frag} {H : Hp} {v : V} {x : Flt} (h : FV H v x) : Dp K H v (fltD x) := by
  cases x with
  | no => obtain rfl : v = .non := h; exact .non
  | low p => obtain ⟨t, rfl, ht⟩ := h; exact .tup (SqT.of ht) (.cons (.str _) (.cons (.int _) .nil))
  | high p => obtain ⟨t, rfl, ht⟩ := h; exact .tup (SqT.of ht) (.cons (.str _) (.cons (.int _) .nil))
  | dbl p q => obtain ⟨t, rfl, ht⟩ := h; exact .tup (SqT.of ht) (.cons (.str _) (.cons (.int _) (.cons (.int _) .nil)))
theorem fv_same {H G : Hp} {v : V} {x : Flt} (s : Same H G) (h : FV H v x) : FV G v x := by
  cases x with
  | no => exact h
  | low p => exact h.imp fun t h => ⟨h.1, s _ _ h.2⟩
  | high p => exact h.imp fun t h => ⟨h.1, s _ _ h.2⟩
  | dbl p q => exact h.imp fun t h => ⟨h.1, s _ _ h.2⟩
theorem flt_lay (x : Flt) : (fltD x).canLay0 = true ∧ (fltD x).depth ≤ 64 := by
  have e1 : PyData.strOk ("low" : Str) = true := by decide +kernel
  have e2 : PyData.strOk ("high" : Str) = true := by decide +kernel
  have e3 : PyData.strOk ("double" : Str) = true := by decide +kernel
  cases x <;> simp [fltD, PyData.canLay0, PyData.canLayAll0, PyData.depth, PyData.depthAll, e1, e2, e3]
theorem flt_shaped (x : Flt) : SeqAt.shaped (fltD x) = true := by
  obtain ⟨h1, h2⟩ := flt_lay x
  unfold SeqAt.shaped
  exact Bool.and_eq_true_iff.mpr ⟨h1, decide_eq_true h2⟩
theorem fis_zero {f : Int → Int} {x : Flt} (h : FIs f 0 x) : x = .no := by
  cases h with
  | low h => have := h.lo; have := h.hi; omega
  | high _ h => have := h.lo; have := h.hi; omega
  | dbl _ _ h _ _ _ => have := h.lo; have := h.hi; omega
  | no _ _ _ => rfl
section
variable {P : Program} {w : World} {K : PySem.W.Frag} {mg : Str → Option Value} {base : Heap}
theorem scLaw : FnScope ["script", "at", "bag", "pieces", "count", "last", "k", "slide", "wanted", "told", "q"] ["script"] (defScope sLaw) := ⟨rfl, rfl, rfl, by decide +kernel, rfl, by decide +kernel, by decide +kernel⟩
theorem ok_law {f fB fD fO fP fBl fSh fL fF fC fI : Addr} {fd fdB fdD fdO fdP fdBl fdSh fdL fdF fdC fdI fdFf : FuncData} (F : FnP K "law" sLaw f fd) (S : Sld1 K)
    (GB : FnOk P w K mg base CX0 1 fB fdB ["script", "at"] (spBag K)) (bB : Binds K fdB ["script", "at"] []) (kB : PySem.W.keepIn K (.ref fB) = true) (gB : mg "_law_bag" = some (.ref fB))
    (GD : FnOk P w K mg base CX0 1 fD fdD ["bag", "many"] spDraw) (bD : Binds K fdD ["bag", "many"] []) (kD : PySem.W.keepIn K (.ref fD) = true) (gD : mg "_law_draw" = some (.ref fD))
    (GO : FnOk P w K mg base CX0 2 fO fdO ["bag", "some"] (spOf K)) (bO : Binds K fdO ["bag", "some"] []) (kO : PySem.W.keepIn K (.ref fO) = true) (gO : mg "_law_of" = some (.ref fO))
    (GP : FnOk P w K mg base CX0 3 fP fdP ["bag", "most"] spPcs) (bP : Binds K fdP ["bag", "most"] []) (kP : PySem.W.keepIn K (.ref fP) = true) (gP : mg "_law_pieces" = some (.ref fP))
    (GBl : FnOk P w K mg base CX0 3 fBl fdBl ["bag", "start"] (spBlk K)) (bBl : Binds K fdBl ["bag", "start"] []) (kBl : PySem.W.keepIn K (.ref fBl) = true) (gBl : mg "_law_blocks" = some (.ref fBl))
    (GSh : FnOk P w K mg base CX0 2 fSh fdSh ["bag", "rows"] (spShuf K)) (bSh : Binds K fdSh ["bag", "rows"] []) (kSh : PySem.W.keepIn K (.ref fSh) = true) (gSh : mg "_law_shuffled" = some (.ref fSh))
    (GL : FnOk P w K mg base (L2N.CX P w) 8 fL fdL ["rows"] (spLSl K)) (bL : Binds K fdL ["rows"] []) (kL : PySem.W.keepIn K (.ref fL) = true) (gL : mg "_law_slide" = some (.ref fL))
    (GF : FnOk P w K mg base CX0 3 fF fdF ["pieces", "count"] (spLfa K)) (bF : Binds K fdF ["pieces", "count"] []) (kF : PySem.W.keepIn K (.ref fF) = true) (gF : mg "_law_fault" = some (.ref fF))
    (GC : FnOk P w K mg base CX0 2 fC fdC ["pieces", "count"] (spCan K)) (bC : Binds K fdC ["pieces", "count"] []) (kC : PySem.W.keepIn K (.ref fC) = true) (gC : mg "_law_candidates" = some (.ref fC))
    (GI : FnOk P w K mg base CX0 3 fI fdI ["pieces", "count", "q"] (spImg K)) (bI : Binds K fdI ["pieces", "count", "q"] []) (kI : PySem.W.keepIn K (.ref fI) = true) (gI : mg "_law_is_image" = some (.ref fI))
    (GFf : FnOk P w K mg base CX0 3 (ma K (ga K "Slide") "first_fault") fdFf ["self", "count"] (spFf K)) (bFf : Binds K fdFf ["self", "count"] [])
    (n_max : mg "max" = none) (n_min : mg "min" = none) (n_len : mg "len" = none) (n_range : mg "range" = none) (n_isinstance : mg "isinstance" = none) (n_tuple : mg "tuple" = none) : FnG P w K mg base CX0 9 f fd ["script"] (spLaw K) := by
  refine fnG_ok F scLaw (fun vs H Q E h => ?_) (fun cdv A outer s H vs Q E gg hr h => ?_)
  · obtain ⟨a, ns, rfl, _⟩ := h
    rfl
  · obtain ⟨a, ns, rfl, hS, hl, k⟩ := h
    have hr1 := hr.mono (j := 1) (by decide)
    have hr2 := hr.mono (j := 2) (by decide)
    have hr3 := hr.mono (j := 3) (by decide)
    have hu := hr.units
    have nd := scLaw.nd
    refine ⟨_, PSs.nox (pss_cons (ps_for PassesOwn.never rfl (pi_range1 (by rfl) n_range (pa_cons (pe_callB (call_max2 rfl) (by rfl) n_max (by decide +kernel) (pa_cons pe_int (pa_cons (pe_callB (call_min2 rfl) (by rfl) n_min (by decide +kernel) (pa_cons pe_int (pa_cons (pe_callB call_len_seq (by rfl) n_len PySem.boot_len (pa_cons (pv 0) pa_nil)) pa_nil))) pa_nil))) pa_nil)) (pg_name (i := 1) nd rfl (Or.inl rfl))
(pss_cons (ps_set (i := 2) nd rfl (Or.inl rfl) (pe_call GB hr1 (by rfl) gB kB bB .nil pass0 (pa_cons (pv 0) (pa_cons (pv 1) pa_nil))))
(pss_cons (ps_if (pt_cmpR op_eq (pe_call GD hr1 (by rfl) gD kD bD .nil pass0 (pa_cons (pv 2) (pa_cons pe_int pa_nil))) pe_int (nomark _))
(pss_one (ps_par (i := 3) (j := 4) (by rfl) nd rfl rfl (by decide) rfl rfl (pa_cons (pe_call GP hr3 (by rfl) gP kP bP .nil pass0 (pa_cons (pv 2) (pa_cons pe_int pa_nil))) (pa_cons (pe_call GO hr2 (by rfl) gO kO bO .nil pass0 (pa_cons (pv 2) (pa_cons (pe_lst (pa_cons pe_int (pa_cons pe_int (pa_cons pe_int (pa_cons pe_int (pa_cons (pe_call GD hr1 (by rfl) gD kD bD .nil pass0 (pa_cons (pv 2) (pa_cons (pe_op op_mul pe_int (pe_op op_pow pe_int pe_int)) pa_nil))) pa_nil)))))) pa_nil))) pa_nil)) (by rfl)))
(pss_cons (ps_asg (pe_call GBl hr3 (by rfl) gBl kBl bBl .nil pass0 (pa_cons (pv 2) (pa_cons (pe_call GO hr2 (by rfl) gO kO bO .nil pass0 (pa_cons (pv 2) (pa_cons (pe_lst (pa_cons pe_int (pa_cons pe_int (pa_cons pe_int (pa_cons pe_int (pa_cons pe_int pa_nil)))))) pa_nil))) pa_nil))) (pg_tup rfl (pgs_cons (pg_name (i := 3) nd rfl (Or.inl rfl)) (pgs_cons (pg_name (i := 5) nd rfl (Or.inl rfl)) pgs_nil))))
(pss_cons (ps_set (i := 4) nd rfl (Or.inl rfl) (pe_callB (call_max2 rfl) (by rfl) n_max (by decide +kernel) (pa_cons pe_int (pa_cons (pe_op op_add (pv 5) (pe_call GO hr2 (by rfl) gO kO bO .nil pass0 (pa_cons (pv 2) (pa_cons (pe_lst (pa_cons pe_int (pa_cons pe_int (pa_cons pe_int (pa_cons pe_int (pa_cons (pe_un un_neg pe_int) pa_nil)))))) pa_nil)))) pa_nil))))
(pss_one (ps_if (pt_cmpR op_eq (pe_call GD hr1 (by rfl) gD kD bD .nil pass0 (pa_cons (pv 2) (pa_cons pe_int pa_nil))) pe_int (nomark _))
(pss_cons (ps_set (i := 6) nd rfl (Or.inl rfl) (pe_call GD hr1 (by rfl) gD kD bD .nil pass0 (pa_cons (pv 2) (pa_cons (pe_callB call_len_seq (by rfl) n_len PySem.boot_len (pa_cons (pv 3) pa_nil)) pa_nil))))
(pss_one (ps_asg (pe_tup (pa_cons (pe_ix ix_tup (pe_ix ix_list (pv 3) (pv 6) (fun _ _ => rfl)) pe_int (fun _ _ => rfl)) (pa_cons (pe_ix ix_tup (pe_ix ix_list (pv 3) (pv 6) (fun _ _ => rfl)) pe_int (fun _ _ => rfl)) (pa_cons (pe_op op_add (pe_ix ix_tup (pe_ix ix_list (pv 3) (pv 6) (fun _ _ => rfl)) pe_int (fun _ _ => rfl)) (pe_call GO hr2 (by rfl) gO kO bO .nil pass0 (pa_cons (pv 2) (pa_cons (pe_lst (pa_cons pe_int (pa_cons (pe_un un_neg pe_int) pa_nil))) pa_nil)))) pa_nil)))) (pg_sub (pv 3) (pv 6) set_list))))
pss_nil)))))
(pss_cons (ps_par (i := 7) (j := 8) (by rfl) nd rfl rfl (by decide) rfl rfl (pa_cons (pe_call GL hr (by rfl) gL kL bL .nil passLN (pa_cons (pe_call GSh hr2 (by rfl) gSh kSh bSh .nil pass0 (pa_cons (pv 2) (pa_cons (pv 3) pa_nil))) pa_nil)) (pa_cons (pe_call GF hr3 (by rfl) gF kF bF .nil pass0 (pa_cons (pv 3) (pa_cons (pv 4) pa_nil))) pa_nil)) (by rfl))
(pss_cons (ps_set (i := 9) nd rfl (Or.inl rfl) (pe_meth (pv 7) S.cls (S.mth "first_fault" (by decide)) GFf hr3 bFf .nil pass0 (pa_cons (pv 4) pa_nil)))
(pss_cons (ps_if (PW.pt (pw_or (pt_cmpR (op_neD hu) (pv 9) (pv 8) (nomark _)) (pw_or1 (PW.pt (pw_and (pt_cmpR op_notN (pv 8) pe_non (nomark _)) (pw_and1 (pt_not (pt_val (pe_callB call_isi (by rfl) n_isinstance (by decide +kernel) (pa_cons (pv 9) (pa_cons (pe_bltn (v := .ty "tuple") (by rfl) n_tuple (by decide +kernel) rfl) pa_nil)))))))))))
(pss_one (ps_ret pe_bl))
pss_nil)
(pss_cons (ps_if (pt_cmpR op_isN (pv 8) pe_non (nomark _))
(pss_one (ps_for PassesOwn.never rfl (pi_list (pe_call GC hr2 (by rfl) gC kC bC .nil pass0 (pa_cons (pv 3) (pa_cons (pv 4) pa_nil)))) (pg_name (i := 10) nd rfl (Or.inl rfl))
(pss_one (ps_if (pt_not (pt_val (pe_call GI hr3 (by rfl) gI kI bI .nil pass0 (pa_cons (pv 3) (pa_cons (pv 4) (pa_cons (pv 10) pa_nil))))))
(pss_one (ps_ret pe_bl))
pss_nil))))
pss_nil)
(pss_one (ps_if (PW.pt (pw_or (pt_cmpR op_notN (pe_meth (pv 7) S.cls (S.mth "first_fault" (by decide)) GFf hr3 bFf .nil pass0 (pa_cons pe_int pa_nil)) pe_non (nomark _)) (pw_or1 (pt_cmpR (op_neD hu) (pe_meth (pv 7) S.cls (S.mth "first_fault" (by decide)) GFf hr3 bFf .nil pass0 (pa_cons (pv 4) pa_nil)) (pv 9) (nomark _)))))
(pss_one (ps_ret pe_bl))
pss_nil)))))))))
(pss_one (ps_ret pe_bl))), ?_⟩
    refine ⟨_, rfl, a, _, rfl, .inl hS, _, _, rfl, _, _, rfl, _, rfl, ?_, ?_, ?_⟩
    · rw [List.length_map]; split <;> (try split) <;> omega
    · rw [List.length_map]; split <;> (try split) <;> omega
    rw [List.length_map]
    have hn3 : (if (if (ns.length : Int) < 3 then (ns.length : Int) else 3) > 1 then (if (ns.length : Int) < 3 then (ns.length : Int) else 3) else 1).toNat ≤ 3 := by
      split <;> (try split) <;> omega
    generalize (if (if (ns.length : Int) < 3 then (ns.length : Int) else 3) > 1 then (if (ns.length : Int) < 3 then (ns.length : Int) else 3) else 1).toNat = nn at hn3
    refine for_it (walk_rng (n := nn)) (fun _ σ G => ∃ v1 v2 v3 v4 v5 v6 v7 v8 v9 v10, σ = [some (.ref a), v1, v2, v3, v4, v5, v6, v7, v8, v9, v10] ∧ Same H G)
      ⟨none, none, none, none, none, none, none, none, none, none, rfl, Same.refl H⟩ (fun _ _ _ _ _ => trivial) ?_ (fun σ G _ => k _)
    rintro i x σ G' G hi ⟨v1, v2, v3, v4, v5, v6, v7, v8, v9, v10, rfl, sG⟩ ⟨rfl, rfl⟩
    refine ⟨_, rfl, _, rfl, a, ns, i, rfl, sG.seq hS, hl, by omega, fun b G1 nb kb eb hB => ?_⟩
    have s1 : Same H G1 := fun x o e => (eb x (ne_of_none (sG _ _ e) nb)).trans (sG _ _ e)
    have hbH : H b = none := sG.free nb
    have k1 : BK b G1 G1 0 := ⟨hB, fun _ _ _ e => e⟩
    dsimp only [gName, List.set]
    refine seq_by (fun σ G => ∃ (F : Addr) (N : Int) (xs : List V) (ps : List Pc) (y5 y6 : Option V), σ = [some (.ref a), some (.int (i : Int)), some (.ref b), some (.ref F), some (.int N), y5, y6, v7, v8, v9, v10] ∧ BK b G1 G 500 ∧ F ≠ b ∧ G F = some (.lst xs) ∧ Pcs G xs ps ∧ xs.length ≤ 5 ∧ Chain ps ∧ (∀ p ∈ ps, okPc p)) ?_ (fun nxt => ?_)
    · rintro σ G4 ⟨F, N, xs, ps, y5, y6, rfl, kk, nF, hF, hP, hxl, hch, hok⟩
      refine ⟨_, rfl, _, rfl, b, F, _, xs, rfl, kk.bag, by decide, nF, hF, by omega, (fun x hx => .inl (hP.mem x hx)), fun Z zs G5 nZ kZ hBZ hZ nZb hperm => ?_⟩
      obtain ⟨qs, hPq, hqs⟩ := perm_pcs hP kk.bag kZ hperm
      have k5 : BK b G1 G5 600 := ⟨hBZ.mono (by omega), fun x o nx e => kZ x o nx (kk.kept x o nx e)⟩
      have s5 : Same H G5 := fun x o e => k5.kept x o (ne_of_none e hbH) (s1 x o e)
      have hF5 := kZ _ _ nF hF
      have hP5 : Pcs G5 xs ps := hP.imp fun x p h => h.imp fun a h => ⟨h.1, kZ a _ (bag_off kk.bag h.2) h.2⟩
      have hqok : ∀ p ∈ qs, okPc p := fun p hp => hok p (hqs.mem_iff.mp hp)
      have hzl := hperm.length_eq
      have hpl := Paired.length hP
      clear kZ hBZ
      obtain ⟨nf1, mp1⟩ := chain_nf hch hok
      have l1 : (nfP ps).length ≤ 5 := Nat.le_trans (nf_len _) (by omega)
      have efn : mapP (nfP ps) = mapP ps := funext mp1
      refine ⟨Z, zs, qs.map some, rfl, SqL.of hZ, by omega, pcs_things hPq hqok, sld_good hqs hch hok fun sl G6 s6 hsl => ?_⟩
      have hF6 := s6 _ _ hF5
      have hP6 : Pcs G6 xs ps := hP5.imp fun x p z => z.same s6
      refine ⟨_, rfl, _, rfl, F, xs, ps, N, rfl, SqL.of hF6, hP6, by omega, hch, fun v x G7 s7 hv hx => ⟨_, _, rfl, ?_⟩⟩
      have hF7 := s7 _ _ hF6
      have hP7 : Pcs G7 xs ps := hP6.imp fun x p z => z.same s7
      have hsl7 := hsl.same s7
      have sH7 := (s5.trans s6).trans s7
      clear s6 s7 hF6 hP6 hF5 hP5 hsl
      dsimp only [gName, List.set]
      obtain ⟨dx, tz, zz, hs1, hs2, hs3⟩ := hsl7
      refine ⟨_, rfl, sl, dx, _, rfl, hs1, rfl, _, rfl, sl, _, N, rfl, ⟨dx, tz, zz, hs1, hs2, hs3⟩, nf1, by omega, fun v2 G8 x2 s8 hv2 hx2 => ?_⟩
      rw [efn] at hx2
      obtain rfl := hx2.one hx
      dsimp only [gName, List.set]
      have hv8 := fv_same s8 hv
      have hF8 := s8 _ _ hF7
      have hP8 : Pcs G8 xs ps := hP7.imp fun x p z => z.same s8
      have hsl8 : SlAt K G8 sl (nfP ps) := ⟨dx, tz, zz, s8 _ _ hs1, s8 _ _ hs2, hs3.imp fun x p z => z.same s8⟩
      have sH8 := sH7.trans s8
      clear hv hs1 hs2 hs3 s8 sH7 hF7 hP7
      have last : ∀ G9, Same G8 G9 → ∀ y10, tIfS (tOr (tTest (tOp (fun x y H Q => y = V.non ∧ Q (V.bl !decide (x = V.non)) H) (tMeth (ga K "Slide") "first_fault" (spFf K) [] E0 (tVar 7) (tCons (tC (V.int 0)) tNil)) (tC V.non)))
          (tTest (tOp (rNeD K) (tMeth (ga K "Slide") "first_fault" (spFf K) [] E0 (tVar 7) (tCons (tVar 4) tNil)) (tVar 9)))) (tRet (tC (V.bl false))) tNext
          { nx := fun σ G => ∃ v1 v2 v3 v4 v5 v6 v7 v8 v9 v10, σ = [some (.ref a), v1, v2, v3, v4, v5, v6, v7, v8, v9, v10] ∧ Same H G, rt := Q, bk := tRet (tC (V.bl true)) { nx := fun _ H' => Q V.non H', rt := Q }, ct := fun σ G => ∃ v1 v2 v3 v4 v5 v6 v7 v8 v9 v10, σ = [some (.ref a), v1, v2, v3, v4, v5, v6, v7, v8, v9, v10] ∧ Same H G }
          [some (.ref a), some (.int (i : Int)), some (.ref b), some (.ref F), some (.int N), y5, y6, some (.ref sl), some v, some v2, y10] G9 := by
        intro G9 s9 y10
        obtain ⟨dx, tz, zz, hs1, hs2, hs3⟩ := hsl8.same s9
        refine ⟨_, rfl, sl, dx, _, rfl, hs1, rfl, sl, _, 0, rfl, ⟨dx, tz, zz, hs1, hs2, hs3⟩, nf1, by omega, fun v3 G10 x3 s10 hv3 hx3 => ?_⟩
        obtain rfl := fis_zero hx3
        obtain rfl : v3 = .non := hv3
        refine ⟨rfl, _, rfl, no rfl ?_⟩
        obtain ⟨dx, tz, zz, hs1, hs2, hs3⟩ := hsl8.same (s9.trans s10)
        refine ⟨_, rfl, sl, dx, _, rfl, hs1, rfl, _, rfl, sl, _, N, rfl, ⟨dx, tz, zz, hs1, hs2, hs3⟩, nf1, by omega, fun v4 G11 x4 s11 hv4 hx4 => ?_⟩
        rw [efn] at hx4
        obtain rfl := hx4.one hx
        have hv2' := fv_same ((s9.trans s10).trans s11) hv2
        refine ⟨_, rfl, _, _, fv_dp hv4, fv_dp hv2', flt_shaped _, flt_shaped _, _, rfl, ?_⟩
        rw [SeqAt.eqv_refl _ (flt_lay _).1]
        exact no rfl ⟨_, _, _, _, _, _, _, _, _, _, rfl, ((sH8.trans s9).trans s10).trans s11⟩
      refine ⟨_, rfl, _, rfl, _, _, fv_dp hv2, fv_dp hv8, flt_shaped _, flt_shaped _, _, rfl, ?_⟩
      rw [SeqAt.eqv_refl _ (flt_lay _).1]
      refine no rfl ?_
      by_cases hno : x2 = .no
      · subst hno
        obtain rfl : v = .non := hv8
        refine ⟨_, rfl, rfl, _, rfl, no rfl ?_⟩
        refine ⟨_, rfl, rfl, _, rfl, yes rfl ?_⟩
        refine ⟨_, rfl, _, rfl, F, xs, ps, N, rfl, SqL.of hF8, hP8, by omega, fun CF C G9 s9 hC cd => ?_⟩
        refine ⟨CF, rfl, ⟨_, SqL.of hC⟩, ?_⟩
        refine for_it (walk_list (K := K) (a := CF) (xs := C.map V.int)) (fun m σ J => ∃ y10, σ = [some (.ref a), some (.int (i : Int)), some (.ref b), some (.ref F), some (.int N), y5, y6, some (.ref sl), some .non, some v2, y10] ∧ Same G9 J)
          ⟨_, rfl, .refl _⟩ (fun _ _ _ _ h => by obtain ⟨_, _, q⟩ := h; exact SqL.of (q _ _ hC)) ?_ ?_
        · rintro m x σ J' J hm ⟨y10, rfl, sJ⟩ ⟨rfl, hx'⟩
          rw [List.getElem?_map] at hx'
          obtain ⟨q, hq, rfl⟩ := Option.map_eq_some_iff.mp hx'
          have sX := s9.trans sJ
          dsimp only [gName, List.set]
          refine ⟨_, rfl, _, rfl, _, rfl, F, xs, ps, N, q, rfl, SqL.of (sX _ _ hF8), hP8.imp (fun x p z => z.same sX), by omega, fun J2 s12 => ?_⟩
          obtain ⟨_, q1, q2⟩ := (cd.mem q).mp (List.mem_of_getElem? hq)
          obtain ⟨bb, b1, b2, b3, b4⟩ := image_of hch hx q1 q2
          have e : (bysL ps).any (imgB ps N q) = true := List.any_eq_true.mpr ⟨bb, b1, by unfold imgB; rw [decide_eq_true b2, decide_eq_true b3, decide_eq_true b4]; rfl⟩
          rw [e]
          exact ⟨_, rfl, no rfl ⟨_, rfl, sJ.trans s12⟩⟩
        · rintro σ J ⟨y10, rfl, sJ⟩
          exact last J (s9.trans sJ) y10
      · have hv2s : ∃ t ys, v2 = .ref t ∧ G8 t = some (.tup ys) := by
          cases x2 with
          | no => exact absurd rfl hno
          | low p => obtain ⟨t, e, ht⟩ := hv2; exact ⟨t, _, e, ht⟩
          | high p => obtain ⟨t, e, ht⟩ := hv2; exact ⟨t, _, e, ht⟩
          | dbl p q => obtain ⟨t, e, ht⟩ := hv2; exact ⟨t, _, e, ht⟩
        have hvs : ∃ t ys, v = .ref t ∧ G8 t = some (.tup ys) := by
          cases x2 with
          | no => exact absurd rfl hno
          | low p => obtain ⟨t, e, ht⟩ := hv8; exact ⟨t, _, e, ht⟩
          | high p => obtain ⟨t, e, ht⟩ := hv8; exact ⟨t, _, e, ht⟩
          | dbl p q => obtain ⟨t, e, ht⟩ := hv8; exact ⟨t, _, e, ht⟩
        obtain ⟨t, ys, rfl, ht⟩ := hvs
        obtain ⟨t2, ys2, rfl, ht2⟩ := hv2s
        refine ⟨_, rfl, rfl, _, rfl, yes rfl ?_⟩
        refine ⟨_, rfl, _, _, _, _, _, rfl, .ty _, .base (.tup ht2), kit_tup (PyData.tuple []), _, rfl, no rfl ?_⟩
        refine ⟨_, rfl, rfl, _, rfl, no rfl ?_⟩
        exact last G8 (.refl _) _
    · refine ⟨_, rfl, b, _, 2, rfl, k1.bag, (by omega), (by decide), (by decide), fun d2 G4 _ _ b4 hB4 => ⟨rfl, _, rfl, ite2' (fun cc => ?_) (fun cc => ?_)⟩⟩
      · have k5 := k1.draw b4 hB4
        refine ⟨_, rfl, b, _, 4, rfl, k5.bag, by omega, by decide, by decide, fun F xs ps G5 nF lp hlen hch hall => ?_⟩
        have kL : BK b G1 G5 300 := ⟨lp.bag.mono (by omega), fun x o nx e => lp.kept x o nx (ne_of_none (k5.kept x o nx e) nF) (k5.kept x o nx e)⟩
        refine ⟨_, rfl, _, rfl, _, _, rfl, rfl, ⟨by decide, by decide, by decide⟩, _, _, rfl, rfl, .inl ⟨by decide, by decide⟩, b, _, _, rfl, kL.bag, by omega, by decide, by decide, fun d1 G6 d1a d1b b6 hB6 => ⟨(by show 5 ≤ sizeLine; decide), fun L nL => ?_⟩⟩
        have k6 := kL.draw b6 hB6
        have k7 := k6.new (o := .lst [.int 0, .int 1, .int 5, .int 12, .int d1]) nL
        refine ⟨b, L, _, _, rfl, k7.bag, (by omega), k6.bag.ne nL, SqL.of upd_same, (by show 0 < 5; decide), (by show 5 ≤ 1000; decide), fun j v G7 hv b7 hB7 => ?_⟩
        have k8 := k7.draw b7 hB7
        obtain ⟨N, rfl⟩ : ∃ m : Int, v = .int m := by
          match j, hv with
          | 0, e => exact ⟨_, (Option.some.inj e).symm⟩
          | 1, e => exact ⟨_, (Option.some.inj e).symm⟩
          | 2, e => exact ⟨_, (Option.some.inj e).symm⟩
          | 3, e => exact ⟨_, (Option.some.inj e).symm⟩
          | 4, e => exact ⟨_, (Option.some.inj e).symm⟩
        have mv : ∀ x o, x ≠ b → G5 x = some o → G7 x = some o := fun x o nx e => (b7 x nx).trans (same_put nL _ _ ((b6 x nx).trans e))
        exact ⟨_, _, rfl, nxt _ _ ⟨F, N, xs, ps, _, _, rfl, k8.le (by omega), lp.ne, mv _ _ lp.ne lp.fnd, lp.pcs.imp fun x p z => z.imp fun a z => ⟨z.1, mv a _ (bag_off lp.bag z.2) z.2⟩, by omega, hch, fun p hp => (hall p hp).1⟩⟩
      · have k5 := k1.draw b4 hB4
        refine ⟨_, rfl, _, rfl, (by show 5 ≤ sizeLine; decide), fun L nL => ?_⟩
        have k6 := k5.new (o := .lst [.int 1, .int 1, .int 1, .int 0, .int 2]) nL
        refine ⟨b, L, _, _, rfl, k6.bag, (by omega), k5.bag.ne nL, SqL.of upd_same, (by show 0 < 5; decide), (by show 5 ≤ 1000; decide), fun j v G5 hv b6 hB6 => ?_⟩
        have k7' := k6.draw b6 hB6
        obtain ⟨st, rfl⟩ : ∃ m : Int, v = .int m := by
          match j, hv with
          | 0, e => exact ⟨_, (Option.some.inj e).symm⟩
          | 1, e => exact ⟨_, (Option.some.inj e).symm⟩
          | 2, e => exact ⟨_, (Option.some.inj e).symm⟩
          | 3, e => exact ⟨_, (Option.some.inj e).symm⟩
          | 4, e => exact ⟨_, (Option.some.inj e).symm⟩
        refine ⟨b, _, st, rfl, k7'.bag, by omega, fun T F last xs ps G6 nF nFb hT hF kp hB7 hP hl5 hl0 hch hok => ?_⟩
        have k8 : BK b G1 G6 400 := ⟨hB7.mono (by omega), fun x o nx e => kp x o nx (k7'.kept x o nx e)⟩
        refine ⟨T, _, rfl, SqT.of hT, rfl, _, _, rfl, _, _, rfl, rfl, ?_⟩
        dsimp only [gName, List.set]
        refine ⟨_, rfl, _, rfl, _, rfl, (by show 5 ≤ sizeLine; decide), fun L2 nL2 => ?_⟩
        have k9 := k8.new (o := .lst [.int 0, .int 0, .int 0, .int 1, .int (-1)]) nL2
        refine ⟨b, L2, _, _, rfl, k9.bag, (by omega), k8.bag.ne nL2, SqL.of upd_same, (by show 0 < 5; decide), (by show 5 ≤ 1000; decide), fun j2 v2 G7 hv2 b7 hB8 => ?_⟩
        have k7 := k9.draw b7 hB8
        obtain ⟨c2, rfl⟩ : ∃ m : Int, v2 = .int m := by
          match j2, hv2 with
          | 0, e => exact ⟨_, (Option.some.inj e).symm⟩
          | 1, e => exact ⟨_, (Option.some.inj e).symm⟩
          | 2, e => exact ⟨_, (Option.some.inj e).symm⟩
          | 3, e => exact ⟨_, (Option.some.inj e).symm⟩
          | 4, e => exact ⟨_, (Option.some.inj e).symm⟩
        have hF' : G7 F = some (.lst xs) := (b7 F nFb).trans (same_put nL2 _ _ hF)
        have hP' : Pcs G7 xs ps := hP.imp fun x p z => z.imp fun a z => ⟨z.1, (b7 a (bag_off hB7 z.2)).trans (same_put nL2 _ _ z.2)⟩
        have hFG1 : G1 F = none := k7'.free nF
        refine ⟨_, _, rfl, rfl, _, _, rfl, ?_⟩
        dsimp only [gName, List.set]
        generalize (if last + c2 > 0 then last + c2 else 0) = N
        refine ⟨_, rfl, b, _, 2, rfl, k7.bag, (by omega), (by decide), (by decide), fun d4 G8 _ _ c7 hC7 => ⟨rfl, _, rfl, ite2' (fun cd => ?_) (fun cd => ?_)⟩⟩
        · have k8 := k7.draw c7 hC7
          have hF7 : G8 F = some (.lst xs) := (c7 F nFb).trans hF'
          have hP7 : Pcs G8 xs ps := hP'.imp fun x p z => z.imp fun a z => ⟨z.1, (c7 a (bag_off hB8 z.2)).trans z.2⟩
          refine ⟨_, rfl, _, rfl, F, _, rfl, .inl (SqL.of hF7), b, _, _, rfl, k8.bag, (by omega), (by omega), (by omega), fun d5 G9 d5a d5b c8 hC8 => ?_⟩
          have k9 := k8.draw c8 hC8
          have hF8 : G9 F = some (.lst xs) := (c8 F nFb).trans hF7
          have hP8 : Pcs G9 xs ps := hP7.imp fun x p z => z.imp fun a z => ⟨z.1, (c8 a (bag_off hC7 z.2)).trans z.2⟩
          obtain ⟨q, rfl⟩ : ∃ q : Nat, d5 = q := ⟨d5.toNat, by omega⟩
          have hq : q < xs.length := by omega
          obtain ⟨p, hp, hpx⟩ := pcs_at hP8 (List.getElem?_eq_getElem hq)
          have hxq : xs[q]? = some xs[q] := List.getElem?_eq_getElem hq
          generalize xs[q] = xq at hpx hxq
          obtain ⟨pl, ph, pb⟩ := p
          obtain ⟨ax, rfl, hax⟩ := hpx
          dsimp only [gName, List.set]
          refine ⟨_, rfl, _, rfl, F, _, _, _, rfl, rfl, SqL.of hF8, atI_nat hxq, _, _, _, _, rfl, rfl, SqT.of hax, rfl, ?_⟩
          refine ⟨_, rfl, _, rfl, F, _, _, _, rfl, rfl, SqL.of hF8, atI_nat hxq, _, _, _, _, rfl, rfl, SqT.of hax, rfl, ?_⟩
          refine ⟨_, rfl, _, rfl, F, _, _, _, rfl, rfl, SqL.of hF8, atI_nat hxq, _, _, _, _, rfl, rfl, SqT.of hax, rfl, ?_⟩
          refine ⟨_, rfl, _, rfl, (by show 2 ≤ sizeLine; decide), fun L2 nL2 => ?_⟩
          have k10 := k9.new (o := .lst [.int 1, .int (-1)]) nL2
          refine ⟨b, L2, _, _, rfl, k10.bag, (by omega), k9.bag.ne nL2, SqL.of upd_same, (by show 0 < 2; decide), (by show 2 ≤ 1000; decide), fun j2 v2 G10 hv2 c9 hC9 => ?_⟩
          have k11 := k10.draw c9 hC9
          have hF9 : G10 F = some (.lst xs) := (c9 F nFb).trans (same_put nL2 _ _ hF8)
          have hP9 : Pcs G10 xs ps := hP8.imp fun x p z => z.imp fun a z => ⟨z.1, (c9 a (bag_off hC8 z.2)).trans (same_put nL2 _ _ z.2)⟩
          obtain ⟨c5, rfl⟩ : ∃ m : Int, v2 = .int m := by
            match j2, hv2 with
            | 0, e => exact ⟨1, (Option.some.inj e).symm⟩
            | 1, e => exact ⟨-1, (Option.some.inj e).symm⟩
          refine ⟨_, _, rfl, rfl, (by show 3 ≤ sizeLine; decide), fun T2 nT2 => ?_⟩
          have k12 := k11.new (o := .tup [endV pl, endV ph, .int (pb + c5)]) nT2
          have sT2 := same_put (o := .tup [endV pl, endV ph, .int (pb + c5)]) nT2
          have hT2 : upd G10 T2 (.tup [endV pl, endV ph, .int (pb + c5)]) T2 = some (.tup [endV pl, endV ph, .int (pb + c5)]) := upd_same
          have nTF : T2 ≠ F := (ne_of_none hF9 nT2).symm
          generalize upd G10 T2 (.tup [endV pl, endV ph, .int (pb + c5)]) = G11 at k12 sT2 hT2
          refine ⟨_, rfl, _, rfl, F, xs, _, q, rfl, rfl, sT2 _ _ hF9, ixN_nat hq, ?_⟩
          obtain ⟨c1, c3⟩ := chain_set (b' := pb + c5) hch hok hp
          have kF : Kept F G11 (upd G11 F (.lst (xs.set q (.ref T2)))) := fun u o n e => by rw [upd_ne n]; exact e
          refine nxt _ _ ⟨F, N, xs.set q (.ref T2), ps.set q (pl, ph, pb + c5), _, _, rfl, (k12.put hFG1 nFb).le (by omega), nFb, upd_same, ?_, by rw [List.length_set]; exact hl5, c1, c3⟩
          exact pcs_set (hP9.imp fun x p z => (z.same sT2).kept kF (sT2 _ _ hF9)) ⟨T2, rfl, by rw [upd_ne nTF]; exact hT2⟩ q
        · have k8 := k7.draw c7 hC7
          refine nxt _ _ ⟨F, N, xs, ps, _, _, rfl, k8.le (by omega), nFb, (c7 F nFb).trans hF', hP'.imp fun x p z => z.imp fun a z => ⟨z.1, (c7 a (bag_off hB8 z.2)).trans z.2⟩, hl5, hch, hok⟩
end
end K04

set_option Elab.async false
set_option maxRecDepth 100000
set_option maxHeartbeats 0
namespace K04
open PySem PySem.Spec PyProof.Rows L2 He KX
structure Fs (K : PySem.W.Frag) : Prop where
  bad : Bad K
  sld : Sld1 K
  fre : ∀ x ∈ frees, (Fa.free x).ok K = true
  glo : ∀ x ∈ gls, (Fa.glo x).ok K = true
theorem facts_of {K : PySem.W.Frag} (h : chk K = true) : Fs K := by
  unfold chk at h
  obtain ⟨h1, h⟩ := ba h
  obtain ⟨h3, h⟩ := ba h
  obtain ⟨h4, h5⟩ := ba h
  exact ⟨bad_of h1, sld_of h3, List.all_eq_true.mp h4, List.all_eq_true.mp h5⟩
theorem all_ok {P : Program} {w : World} {K : PySem.W.Frag} {h : Heap} {mg : Str → Option Value} {f : Addr} (X : K.In h) (G : h.Ns mainGlobals mg) (hfa : mg ("law" : Str) = some (.ref f)) (c : SaysX chk fn K) :
    ∃ fd : FuncData, (∀ (s : Shared) (u : Value), BindsTo s fd ⟨[u], []⟩ [("script", u)]) ∧ ∀ base : Heap, K.In base → base.Ns mainGlobals mg → FnG P w K mg base CX0 9 f fd ["script"] (spLaw K) := by
  have S := facts_of c.1
  have g : ∀ x ∈ gls, mg x = some (.ref (ga K x)) := fun x hx => glo_ok X G (S.glo x hx)
  have fr : ∀ x ∈ frees, mg x = none := fun x hx => free_ok X G (S.fre x hx)
  obtain ⟨fd1, F1⟩ := c.fd 1
  replace F1 : FunD K "__init__" (("BadSlide" : Str) ++ ".__init__") (defArgs sBadI) (defBody sBadI) (defScope sBadI) [] [] (ma K (ga K "BadSlide") "__init__") fd1 := F1
  rw [(by decide +kernel : (("BadSlide" : Str) ++ ".__init__" : Str) = "BadSlide.__init__")] at F1
  obtain ⟨fd2, F2⟩ := c.fd 2
  replace F2 : FunD K "__init__" (("Slide" : Str) ++ ".__init__") (defArgs sSlI) (defBody sSlI) (defScope sSlI) [] [] (ma K (ga K "Slide") "__init__") fd2 := F2
  rw [(by decide +kernel : (("Slide" : Str) ++ ".__init__" : Str) = "Slide.__init__")] at F2
  obtain ⟨fd0, F0⟩ := c.fd 0
  replace F0 : FnP K "is_integer" sInt (ga K "is_integer") fd0 := F0
  obtain ⟨fd3, F3⟩ := c.fd 3
  replace F3 : FnP K "_is_piece" sIsP (ga K "_is_piece") fd3 := F3
  obtain ⟨fd4, F4⟩ := c.fd 4
  replace F4 : FnP K "_is_end" sIsEnd (ga K "_is_end") fd4 := F4
  obtain ⟨fd5, F5⟩ := c.fd 5
  replace F5 : FnP K "_is_ahead" sAhead (ga K "_is_ahead") fd5 := F5
  obtain ⟨fd6, F6⟩ := c.fd 6
  replace F6 : FnP K "_meet" sMeet (ga K "_meet") fd6 := F6
  obtain ⟨fd7, F7⟩ := c.fd 7
  replace F7 : FnP K "_first_bad" sFirst (ga K "_first_bad") fd7 := F7
  obtain ⟨fd8, F8⟩ := c.fd 8
  replace F8 : FnP K "_start" sStart (ga K "_start") fd8 := F8
  obtain ⟨fd9, F9⟩ := c.fd 9
  replace F9 : FnP K "_normal" sNormal (ga K "_normal") fd9 := F9
  obtain ⟨fd10, F10⟩ := c.fd 10
  replace F10 : FnP K "_moved" sMov (ga K "_moved") fd10 := F10
  obtain ⟨fd11, F11⟩ := c.fd 11
  replace F11 : FnP K "_runs" sRuns (ga K "_runs") fd11 := F11
  obtain ⟨fd12, F12⟩ := c.fd 12
  replace F12 : FnP K "_common" sCom (ga K "_common") fd12 := F12
  obtain ⟨fd13, F13⟩ := c.fd 13
  replace F13 : FnP K "_runs_within" sWit (ga K "_runs_within") fd13 := F13
  obtain ⟨fd14, F14⟩ := c.fd 14
  replace F14 : FnP K "_first_low" sFl (ga K "_first_low") fd14 := F14
  obtain ⟨fd15, F15⟩ := c.fd 15
  replace F15 : FnP K "_first_high" sFh (ga K "_first_high") fd15 := F15
  obtain ⟨fd16, F16⟩ := c.fd 16
  replace F16 : FnP K "_first_double" sFd (ga K "_first_double") fd16 := F16
  obtain ⟨fd17, F17⟩ := c.fd 17
  replace F17 : FnP K "_have_common_image" sHci (ga K "_have_common_image") fd17 := F17
  obtain ⟨fd18, F18⟩ := c.fd 18
  replace F18 : FnP K "_double" sDb (ga K "_double") fd18 := F18
  obtain ⟨fd19, F19⟩ := c.fd 19
  replace F19 : FnP K "_law_bag" sBag (ga K "_law_bag") fd19 := F19
  obtain ⟨fd20, F20⟩ := c.fd 20
  replace F20 : FnP K "_law_draw" sDraw (ga K "_law_draw") fd20 := F20
  obtain ⟨fd21, F21⟩ := c.fd 21
  replace F21 : FnP K "_law_of" sOf (ga K "_law_of") fd21 := F21
  obtain ⟨fd22, F22⟩ := c.fd 22
  replace F22 : FnP K "_law_pieces" sPcs (ga K "_law_pieces") fd22 := F22
  obtain ⟨fd23, F23⟩ := c.fd 23
  replace F23 : FnP K "_law_slide" sLSl (ga K "_law_slide") fd23 := F23
  obtain ⟨fd24, F24⟩ := c.fd 24
  replace F24 : FnP K "_law_by" sBy (ga K "_law_by") fd24 := F24
  obtain ⟨fd25, F25⟩ := c.fd 25
  replace F25 : FnP K "_law_to" sTo (ga K "_law_to") fd25 := F25
  obtain ⟨fd26, F26⟩ := c.fd 26
  replace F26 : FnP K "_law_shuffled" sShuf (ga K "_law_shuffled") fd26 := F26
  obtain ⟨fd27, F27⟩ := c.fd 27
  replace F27 : FnP K "_law_blocks" sBlk (ga K "_law_blocks") fd27 := F27
  obtain ⟨fd28, F28⟩ := c.fd 28
  replace F28 : FnP K "_law_starts" sSta (ga K "_law_starts") fd28 := F28
  obtain ⟨fd29, F29⟩ := c.fd 29
  replace F29 : FnP K "_law_candidates" sCan (ga K "_law_candidates") fd29 := F29
  obtain ⟨fd30, F30⟩ := c.fd 30
  replace F30 : FnP K "_law_fault" sLfa (ga K "_law_fault") fd30 := F30
  obtain ⟨fd31, F31⟩ := c.fd 31
  replace F31 : FnP K "_law_is_image" sImg (ga K "_law_is_image") fd31 := F31
  obtain ⟨fd32, F32⟩ := c.fd 32
  replace F32 : FnP K "law" sLaw (ga K "law") fd32 := F32
  obtain ⟨fd33, F33⟩ := c.fd 33
  replace F33 : FunD K "first_fault" (("Slide" : Str) ++ "." ++ "first_fault") (defArgs sFf) (defBody sFf) (defScope sFf) [] [] (ma K (ga K "Slide") "first_fault") fd33 := F33
  rw [(by decide +kernel : (("Slide" : Str) ++ "." ++ "first_fault" : Str) = "Slide.first_fault")] at F33
  replace F33 : MtP K "first_fault" "Slide.first_fault" sFf (ma K (ga K "Slide") "first_fault") fd33 := F33
  have e := hfa.symm.trans (g "law" (by decide))
  cases e
  refine ⟨fd32, fun s u => FunD.bindsA (ps := ["script"]) F32 (fun _ _ _ _ _ _ us hl => match us, hl with | [_], _ => rfl) s [u] rfl, fun base _ _ => ?_⟩
  have n_len := fr "len" (by decide)
  have n_range := fr "range" (by decide)
  have n_isinstance := fr "isinstance" (by decide)
  have n_enumerate := fr "enumerate" (by decide)
  have n_max := fr "max" (by decide)
  have n_min := fr "min" (by decide)
  have n_abs := fr "abs" (by decide)
  have n_int := fr "int" (by decide)
  have n_any := fr "any" (by decide)
  have n_all := fr "all" (by decide)
  have n_list := fr "list" (by decide)
  have n_tuple := fr "tuple" (by decide)
  have n_sorted := fr "sorted" (by decide)
  have n_bool := fr "bool" (by decide)
  have n_sum := fr "sum" (by decide)
  have n_zip := fr "zip" (by decide)
  have b0 : Binds K fd0 ["thing"] [] := F0.bindsN fun _ _ _ _ _ _ us hl => match us, hl with | [_], _ => rfl
  have b3 : Binds K fd3 ["thing"] [] := F3.bindsN fun _ _ _ _ _ _ us hl => match us, hl with | [_], _ => rfl
  have b4 : Binds K fd4 ["thing"] [] := F4.bindsN fun _ _ _ _ _ _ us hl => match us, hl with | [_], _ => rfl
  have b5 : Binds K fd5 ["piece", "other"] [] := F5.bindsN fun _ _ _ _ _ _ us hl => match us, hl with | [_, _], _ => rfl
  have b6 : Binds K fd6 ["piece", "other"] [] := F6.bindsN fun _ _ _ _ _ _ us hl => match us, hl with | [_, _], _ => rfl
  have b7 : Binds K fd7 ["things"] [] := F7.bindsN fun _ _ _ _ _ _ us hl => match us, hl with | [_], _ => rfl
  have b8 : Binds K fd8 ["piece"] [] := F8.bindsN fun _ _ _ _ _ _ us hl => match us, hl with | [_], _ => rfl
  have b9 : Binds K fd9 ["pieces"] [] := F9.bindsN fun _ _ _ _ _ _ us hl => match us, hl with | [_], _ => rfl
  have b10 : Binds K fd10 ["end", "by"] [] := F10.bindsN fun _ _ _ _ _ _ us hl => match us, hl with | [_, _], _ => rfl
  have b11 : Binds K fd11 ["pieces"] [] := F11.bindsN fun _ _ _ _ _ _ us hl => match us, hl with | [_], _ => rfl
  have b12 : Binds K fd12 ["low", "high", "start", "end"] [] := F12.bindsN fun _ _ _ _ _ _ us hl => match us, hl with | [_, _, _, _], _ => rfl
  have b13 : Binds K fd13 ["pieces", "count"] [] := F13.bindsN fun _ _ _ _ _ _ us hl => match us, hl with | [_, _], _ => rfl
  have b14 : Binds K fd14 ["runs"] [] := F14.bindsN fun _ _ _ _ _ _ us hl => match us, hl with | [_], _ => rfl
  have b15 : Binds K fd15 ["runs", "count"] [] := F15.bindsN fun _ _ _ _ _ _ us hl => match us, hl with | [_, _], _ => rfl
  have b16 : Binds K fd16 ["runs"] [] := F16.bindsN fun _ _ _ _ _ _ us hl => match us, hl with | [_], _ => rfl
  have b17 : Binds K fd17 ["run", "other"] [] := F17.bindsN fun _ _ _ _ _ _ us hl => match us, hl with | [_, _], _ => rfl
  have b18 : Binds K fd18 ["run", "other"] [] := F18.bindsN fun _ _ _ _ _ _ us hl => match us, hl with | [_, _], _ => rfl
  have b19 : Binds K fd19 ["script", "at"] [] := F19.bindsN fun _ _ _ _ _ _ us hl => match us, hl with | [_, _], _ => rfl
  have b20 : Binds K fd20 ["bag", "many"] [] := F20.bindsN fun _ _ _ _ _ _ us hl => match us, hl with | [_, _], _ => rfl
  have b21 : Binds K fd21 ["bag", "some"] [] := F21.bindsN fun _ _ _ _ _ _ us hl => match us, hl with | [_, _], _ => rfl
  have b22 : Binds K fd22 ["bag", "most"] [] := F22.bindsN fun _ _ _ _ _ _ us hl => match us, hl with | [_, _], _ => rfl
  have b23 : Binds K fd23 ["rows"] [] := F23.bindsN fun _ _ _ _ _ _ us hl => match us, hl with | [_], _ => rfl
  have b24 : Binds K fd24 ["pieces", "p"] [] := F24.bindsN fun _ _ _ _ _ _ us hl => match us, hl with | [_, _], _ => rfl
  have b25 : Binds K fd25 ["pieces", "p"] [] := F25.bindsN fun _ _ _ _ _ _ us hl => match us, hl with | [_, _], _ => rfl
  have b26 : Binds K fd26 ["bag", "rows"] [] := F26.bindsN fun _ _ _ _ _ _ us hl => match us, hl with | [_, _], _ => rfl
  have b27 : Binds K fd27 ["bag", "start"] [] := F27.bindsN fun _ _ _ _ _ _ us hl => match us, hl with | [_, _], _ => rfl
  have b28 : Binds K fd28 ["pieces"] [] := F28.bindsN fun _ _ _ _ _ _ us hl => match us, hl with | [_], _ => rfl
  have b29 : Binds K fd29 ["pieces", "count"] [] := F29.bindsN fun _ _ _ _ _ _ us hl => match us, hl with | [_, _], _ => rfl
  have b30 : Binds K fd30 ["pieces", "count"] [] := F30.bindsN fun _ _ _ _ _ _ us hl => match us, hl with | [_, _], _ => rfl
  have b31 : Binds K fd31 ["pieces", "count", "q"] [] := F31.bindsN fun _ _ _ _ _ _ us hl => match us, hl with | [_, _, _], _ => rfl
  have b32 : Binds K fd32 ["script"] [] := F32.bindsN fun _ _ _ _ _ _ us hl => match us, hl with | [_], _ => rfl
  have b33 : Binds K fd33 ["self", "count"] [] := F33.bindsN fun _ _ _ _ _ _ us hl => match us, hl with | [_, _], _ => rfl
  have g0 := g "is_integer" (by decide)
  have g3 := g "_is_piece" (by decide)
  have g4 := g "_is_end" (by decide)
  have g5 := g "_is_ahead" (by decide)
  have g6 := g "_meet" (by decide)
  have g7 := g "_first_bad" (by decide)
  have g8 := g "_start" (by decide)
  have g9 := g "_normal" (by decide)
  have g10 := g "_moved" (by decide)
  have g11 := g "_runs" (by decide)
  have g12 := g "_common" (by decide)
  have g13 := g "_runs_within" (by decide)
  have g14 := g "_first_low" (by decide)
  have g15 := g "_first_high" (by decide)
  have g16 := g "_first_double" (by decide)
  have g17 := g "_have_common_image" (by decide)
  have g18 := g "_double" (by decide)
  have g19 := g "_law_bag" (by decide)
  have g20 := g "_law_draw" (by decide)
  have g21 := g "_law_of" (by decide)
  have g22 := g "_law_pieces" (by decide)
  have g23 := g "_law_slide" (by decide)
  have g24 := g "_law_by" (by decide)
  have g25 := g "_law_to" (by decide)
  have g26 := g "_law_shuffled" (by decide)
  have g27 := g "_law_blocks" (by decide)
  have g28 := g "_law_starts" (by decide)
  have g29 := g "_law_candidates" (by decide)
  have g30 := g "_law_fault" (by decide)
  have g31 := g "_law_is_image" (by decide)
  have g32 := g "law" (by decide)
  have G0 : FnOk P w K mg base CX0 1 (ga K "is_integer") fd0 ["thing"] (spInt K) := ok_int F0 n_isinstance n_int n_bool
  have G3 : FnOk P w K mg base CX0 3 (ga K "_is_piece") fd3 ["thing"] (spIsP K) := ok_isp F3 F0 F4 g0 g4 n_isinstance n_int n_bool n_tuple n_len
  have G5 : FnOk P w K mg base CX0 1 (ga K "_is_ahead") fd5 ["piece", "other"] (sp2 K ahead) := ok_ahead F5
  have G6 : FnOk P w K mg base CX0 2 (ga K "_meet") fd6 ["piece", "other"] (sp2 K meets) := ok_meet F6 F5 g5
  have G7 : FnOk P w K mg base CX0 4 (ga K "_first_bad") fd7 ["things"] (spFirst K) := ok_first F7 G3 b3 F3.kp g3 G5 b5 F5.kp g5 G6 b6 F6.kp g6 n_enumerate n_any
  have G8 : FnOk P w K mg base CX0 1 (ga K "_start") fd8 ["piece"] spStart := ok_start F8
  have G9 : FnOk P w K mg base CX0 5 (ga K "_normal") fd9 ["pieces"] (spNormal K) := ok_normal F9 F8 g8 n_sorted n_tuple
  have G10 : FnOk P w K mg base CX0 1 (ga K "_moved") fd10 ["end", "by"] spMov := ok_mov F10
  have G11 : FnOk P w K mg base CX0 1 (ga K "_runs") fd11 ["pieces"] (spRuns K) := ok_runs F11
  have G12 : FnOk P w K mg base CX0 1 (ga K "_common") fd12 ["low", "high", "start", "end"] spCom := ok_com F12
  have G17 : FnOk P w K mg base CX0 1 (ga K "_have_common_image") fd17 ["run", "other"] spHci := ok_hci F17
  have G18 : FnOk P w K mg base CX0 1 (ga K "_double") fd18 ["run", "other"] spDb := ok_db F18 n_max
  have G14 : FnOk P w K mg base CX0 1 (ga K "_first_low") fd14 ["runs"] (spFl K) := ok_fl F14
  have G15 : FnOk P w K mg base CX0 1 (ga K "_first_high") fd15 ["runs", "count"] (spFh K) := ok_fh F15 n_max
  have G16 : FnOk P w K mg base CX0 2 (ga K "_first_double") fd16 ["runs"] (spFd K) := ok_fd F16 G18 b18 F18.kp g18 G17 b17 F17.kp g17 n_enumerate n_min
  have G13 : FnOk P w K mg base CX0 2 (ga K "_runs_within") fd13 ["pieces", "count"] (spWit K) := ok_wit F13 G11 b11 F11.kp g11 G12 b12 F12.kp g12
  have G19 : FnOk P w K mg base CX0 1 (ga K "_law_bag") fd19 ["script", "at"] (spBag K) := ok_bag F19 n_len n_abs n_int
  have G20 : FnOk P w K mg base CX0 1 (ga K "_law_draw") fd20 ["bag", "many"] spDraw := ok_draw F20 n_int
  have G21 : FnOk P w K mg base CX0 2 (ga K "_law_of") fd21 ["bag", "some"] (spOf K) := ok_of F21 F20 g20 n_len n_int
  have G22 : FnOk P w K mg base CX0 3 (ga K "_law_pieces") fd22 ["bag", "most"] spPcs := ok_pcs F22 G20 b20 F20.kp g20 G21 b21 F21.kp g21 n_range
  have G24 : FnOk P w K mg base CX0 1 (ga K "_law_by") fd24 ["pieces", "p"] (spBy K) := ok_by F24
  have G25 : FnOk P w K mg base CX0 2 (ga K "_law_to") fd25 ["pieces", "p"] (spTo K) := ok_to F25 G24 b24 F24.kp g24
  have G26 : FnOk P w K mg base CX0 2 (ga K "_law_shuffled") fd26 ["bag", "rows"] (spShuf K) := ok_shuf F26 G20 b20 F20.kp g20 n_len n_list
  have G27 : FnOk P w K mg base CX0 3 (ga K "_law_blocks") fd27 ["bag", "start"] (spBlk K) := ok_blk F27 G20 b20 F20.kp g20 G21 b21 F21.kp g21 G26 b26 F26.kp g26 n_list n_range n_len n_sum
  have G28 : FnOk P w K mg base CX0 1 (ga K "_law_starts") fd28 ["pieces"] (spSta K) := ok_sta F28
  have G29 : FnOk P w K mg base CX0 2 (ga K "_law_candidates") fd29 ["pieces", "count"] (spCan K) := ok_can F29 G28 b28 F28.kp g28 n_sorted
  have G30 : FnOk P w K mg base CX0 3 (ga K "_law_fault") fd30 ["pieces", "count"] (spLfa K) := ok_lfa F30 G29 b29 F29.kp g29 G25 b25 F25.kp g25
  have G31 : FnOk P w K mg base CX0 3 (ga K "_law_is_image") fd31 ["pieces", "count", "q"] (spImg K) := ok_img F31 G25 b25 F25.kp g25 n_any
  have gS := g "Slide" (by decide)
  have GSl := ok_slide (P := P) (w := w) (base := base) (fI := ga K "Slide") F2 S.bad (g "BadSlide" (by decide)) F1 G7 b7 F7.kp g7 G9 b9 F9.kp g9 S.sld.cls S.sld.noat
  have G23 : FnOk P w K mg base (L2N.CX P w) 8 (ga K "_law_slide") fd23 ["rows"] (spLSl K) := ok_lsl F23 GSl S.sld.made gS n_len
  have G33 : FnOk P w K mg base CX0 3 (ma K (ga K "Slide") "first_fault") fd33 ["self", "count"] (spFf K) := ok_ff F33 S.sld G13 b13 F13.kp g13 G14 b14 F14.kp g14 G15 b15 F15.kp g15 G16 b16 F16.kp g16
  exact ok_law F32 S.sld G19 b19 F19.kp g19 G20 b20 F20.kp g20 G21 b21 F21.kp g21 G22 b22 F22.kp g22 G27 b27 F27.kp g27 G26 b26 F26.kp g26 G23 b23 F23.kp g23 G30 b30 F30.kp g30 G29 b29 F29.kp g29 G31 b31 F31.kp g31 G33 b33 n_max n_min n_len n_range n_isinstance n_tuple
end K04
open PySem PySem.W PySem.Calls PyProof.Rows
set_option maxRecDepth 100000 in
set_option maxHeartbeats 0 in
theorem PySem.Challenge.cw_rowsinplace_k04_whole_faults_of_slides_holds : PySem.Challenge.rw_rowsinplace_k04_whole_faults_of_slides.Holds := by
  w_on; o_law
  refine HandSHeadRun.head_any (r := OpenLaw.row PySem.Challenge.rw_rowsinplace_k04_whole_faults_of_slides) (q := view (OpenLaw.row PySem.Challenge.rw_rowsinplace_k04_whole_faults_of_slides).prog [41]) (H := K04.hk) (ob := K04.ob) (M := 20000) (loose := K04.loose) (d := HandSHeadRun.topDef (OpenLaw.row PySem.Challenge.rw_rowsinplace_k04_whole_faults_of_slides).prog 41) (kwd := []) K04.ob_eq
    (by kernel_rfl) (fun s => by kernel_rfl) K04.run (by kernel_rfl) (by kernel_rfl) (by kernel_rfl) (by rfl) (by first | assumption | decide +kernel) (by decide +kernel) ⟨rfl, rfl, rfl, rfl, rfl, by decide +kernel⟩ ?hw ?hc
  case hw => w_witness2
  case hc =>
    refine KX.walk_atG (l := PySem.Challenge.rw_rowsinplace_k04_whole_faults_of_slides) (n := 63) (k := 9) (x := "script") rfl (by decide) (by kernel_rfl) ⟨rfl, by decide, by decide⟩ ?F
    intro w mg fa h Y G hmg0
    obtain ⟨K, KI, c⟩ := Y
    have hmg : mg ("law" : PySem.Str) = some (.ref fa) := by
      have e : (HandSHeadRun.topDef (OpenLaw.row PySem.Challenge.rw_rowsinplace_k04_whole_faults_of_slides).prog 41).name = ("law" : PySem.Str) := by kernel_rfl
      rw [← e]
      exact hmg0
    obtain ⟨fd, hb, hF⟩ := K04.all_ok (P := (PySem.Challenge.rw_rowsinplace_k04_whole_faults_of_slides).prog) (w := w) KI G hmg c
    exact ⟨K, fd, K04.spLaw K, KI, hb, fun H a ns hl _ hS => ⟨a, ns, rfl, hS, hl, fun _ => rfl⟩, hF⟩

