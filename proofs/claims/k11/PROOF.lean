import PyProof.Rows.All
import Wide.All
import OpenK.AllK
import Wide.FinOn
import HandS.ForMost
import HandS.ExcInit
import HandS.Defaults
import HandS.WordsExc
import HandS.Wide
import HandS.EndBits
import HandS.Head0
import HandS.Head1
import HandS.Head2
import HandS.HeadEnd
import HandS.HeadHook1
import HandS.HeadHook2
import KE.KExcInit
import KE.KExcIs
import PyProof.ExcBaseAll.ValueError
import PyProof.ExcBaseAll.LookupError
import PyProof.ReprRoads
import HandS.HeadHook3
import HandS.More
import HandS.ExcIs
import HandS.ExcField
import HandS.ExcCtx
import HandS.ExcInitHot
import HandS.HotCalls
import HandS.Star
import KE.GoesMore
import HandS.Walk
import PyProof.FitsInt
import HandS.IsInst
import HandS.Small
import HandS.SortKw
import KE.KOpsOwn
import KE.DataMinMax
import HandS.Text
import HandS.SetKeys
import HandS.Deep
import HandS.ExcOwn
import HandS.DictComp
import KE.KEqDict
import HandS.SetFor
import HandS.Comp
import HandS.WordsDict
import HandS.NoneIn
import HandS.DictTup
import HandS.RaiseMore
import HandS.MakeKwOnly
import HandS.WideBits
import PySem.Challenge.RW_rowsinplace_k11_wrong_arguments
set_option Elab.async false
set_option maxRecDepth 100000
set_option maxHeartbeats 2000000
/-! A hook of our own: one Bool over the written part, and the defs by their places. -/
namespace KX
open PySem PySem.Spec PyProof.Rows L2 He
def lookX (n : Nat) (chk : PySem.W.Frag → Bool) (fn : List DefD) (g : Addr → Option Obj) : Bool × List FnW :=
  let K := frG g (asD g n)
  (chk K && fn.all fun d => d.ok K, fn.map fun d => fnW K d.at_)
def SaysX (chk : PySem.W.Frag → Bool) (fn : List DefD) (K : PySem.W.Frag) : Prop := chk K = true ∧ (fn.all fun d => d.ok K) = true ∧ fn.map (fun d => fnW K d.at_) = fn.map DefD.val
def hookX (n : Nat) (chk : PySem.W.Frag → Bool) (fn : List DefD) : PySem.W.Hook where
  α := Bool × List FnW
  obs := fun s => lookX n chk fn s.heap.get?
  val := fun _ => (true, fn.map DefD.val)
  says := fun _ h => ∃ K : PySem.W.Frag, K.In h ∧ SaysX chk fn K
  of := fun _ s e => by
    refine ⟨frG s.heap.get? (asD s.heap.get? n), frG_in, ?_⟩
    have e1 := congrArg Prod.fst e
    have e2 := congrArg Prod.snd e
    obtain ⟨a, b⟩ := Bool.and_eq_true_iff.mp e1
    exact ⟨a, b, e2⟩
  keeps := fun _ _ _ h k => by
    obtain ⟨K, hK, c⟩ := h
    exact ⟨K, PySem.W.Frag.In.keeps hK k, c⟩
theorem lookX_eq {n : Nat} {chk : PySem.W.Frag → Bool} {fn : List DefD} {g : Addr → Option Obj} {s : Shared} (h : ∀ a, g a = s.heap.get? a) : lookX n chk fn g = (hookX n chk fn).obs s := by
  obtain rfl : g = s.heap.get? := funext h
  rfl
theorem SaysX.fd {chk : PySem.W.Frag → Bool} {fn : List DefD} {K : PySem.W.Frag} (c : SaysX chk fn K) (i : Nat) {d : DefD} (h : fn[i]? = some d := by rfl) :
    ∃ fd, FunD K d.name d.qual d.params d.body d.scope (d.dvs K) (d.kws K) (fAd K d.at_) fd := by
  obtain ⟨_, c2, c3⟩ := c
  have q : (fn.map fun d => fnW K d.at_)[i]? = (fn.map DefD.val)[i]? := congrArg (·[i]?) c3
  rw [List.getElem?_map, List.getElem?_map, h] at q
  exact DefD.funD (Option.some.inj q) (List.all_eq_true.mp c2 d (List.mem_of_getElem? h))
end KX

set_option Elab.async false
set_option maxRecDepth 100000
set_option maxHeartbeats 2000000
/-! What the written part says of an own exception class with an __init__ of its own, as one Bool. -/
namespace KX
open PySem PySem.Spec PyProof.Rows L2 He
structure ExK (K : PySem.W.Frag) (C : Addr) (bmB : List Value) (newId : String) : Prop where
  init : PySem.W.excInitIn K C bmB newId = true
  over : PySem.W.excOver K C bmB = true
  hd : PySem.W.hasDictIn K C = true
  sa : PySem.W.findIn K (.ref C) "__setattr__" = some (some (.builtin "object.__setattr__"))
  ga : PySem.W.findIn K (.ref C) "__getattribute__" = some (some (.builtin "BaseException.__getattribute__"))
  gg : PySem.W.findIn K (.ref C) "__getattr__" = some none
  exC : PySem.W.subIn K (.ref C) (.type "BaseException") = some true
  kC : PySem.W.keepIn K (.ref C) = true
  ha : PySem.W.findIn K (.ref C) "__class__" = some (some (.builtin "object.__class__"))
  hm : PySem.W.mroIn K C (.type "object") = some true
def exkB (K : PySem.W.Frag) (C : Addr) (bmB : List Value) (newId : String) : Bool :=
  PySem.W.excInitIn K C bmB newId && (PySem.W.excOver K C bmB && (PySem.W.hasDictIn K C && (eqO (PySem.W.findIn K (.ref C) "__setattr__") (some (some (.builtin "object.__setattr__")))
  && (eqO (PySem.W.findIn K (.ref C) "__getattribute__") (some (some (.builtin "BaseException.__getattribute__"))) && (eqO (PySem.W.findIn K (.ref C) "__getattr__") (some none)
  && (decide (PySem.W.subIn K (.ref C) (.type "BaseException") = some true) && (PySem.W.keepIn K (.ref C) && (eqO (PySem.W.findIn K (.ref C) "__class__") (some (some (.builtin "object.__class__"))) && decide (PySem.W.mroIn K C (.type "object") = some true)))))))))
theorem exkB_ok {K : PySem.W.Frag} {C : Addr} {bmB : List Value} {newId : String} (h : exkB K C bmB newId = true) : ExK K C bmB newId := by
  obtain ⟨h1, h⟩ := Bool.and_eq_true_iff.mp h
  obtain ⟨h2, h⟩ := Bool.and_eq_true_iff.mp h
  obtain ⟨h3, h⟩ := Bool.and_eq_true_iff.mp h
  obtain ⟨h4, h⟩ := Bool.and_eq_true_iff.mp h
  obtain ⟨h5, h⟩ := Bool.and_eq_true_iff.mp h
  obtain ⟨h6, h⟩ := Bool.and_eq_true_iff.mp h
  obtain ⟨h7, h⟩ := Bool.and_eq_true_iff.mp h
  obtain ⟨h8, h⟩ := Bool.and_eq_true_iff.mp h
  obtain ⟨h9, hA⟩ := Bool.and_eq_true_iff.mp h
  exact ⟨h1, h2, h3, eqO_ok h4, eqO_ok h5, eqO_ok h6, of_decide_eq_true h7, h8, eqO_ok h9, of_decide_eq_true hA⟩
end KX

set_option Elab.async false
set_option maxRecDepth 100000
set_option maxHeartbeats 2000000
/-! Own exception classes over any built-in base, with an __init__ that stores: made as values, read, asked by isinstance. -/
namespace KX
open PySem PySem.Spec PyProof.Rows L2
/-- what is known of the built-in base -/
def Bs (bmB : List Value) (newId : String) : Prop := ∃ B initId, ExcBaseFacts B newId initId bmB ∧ StoreFacts B bmB "object.__setattr__" "object"
theorem bsV : Bs [.type "ValueError", .type "Exception", .type "BaseException", .type "object"] "ValueError.__new__" := ⟨_, _, PySem.F.excBase_ValueError, PySem.F.store_ValueError⟩
theorem bsL : Bs [.type "LookupError", .type "Exception", .type "BaseException", .type "object"] "LookupError.__new__" := ⟨_, _, PySem.F.excBase_LookupError, PySem.F.store_LookupError⟩
section
open Builtin Builtin.ObjectAttr
variable {prog : Program} {w : World} {A : Around} {R : Result → Shared → Prop} {hp : Heap} {g : Array GenState} {dw : Drawn} {tt : Nat} {os : OsState} {K : PySem.W.Frag} {C x t1 : Addr} {bmB : List Value} {newId : String} {f : Str} {tk : Tok} {v : Value}
/-- the first store lays the dict -/
theorem put_first (T : ExK K C bmB newId) (bs : Bs bmB newId) (X : K.In hp) (hx : hp.get? x = some ({ cls := .ref C, dict := none, data := .fields #[.ref t1, .none, .none, .none, .bool false, .none] } : Obj)) (hno : PySem.W.findIn K (.ref C) f = some none)
    (hq : ∀ h' tk' dx, (∀ b o, b ≠ x → hp.get? b = some o → h'.get? b = some o) → hp.objs.size ≤ dx → dx ≠ x → h'.get? x = some ({ cls := .ref C, dict := some dx, data := .fields #[.ref t1, .none, .none, .none, .bool false, .none] } : Obj) →
      h'.Ns1 dx (fun y => if y = f then some v else none) → R (.ok (.ret .none)) ⟨h', g, dw, tk', os⟩) :
    codeAny (model prog w) A (.call (.builtin "object.__setattr__") ⟨[.ref x, .str f tk, v], []⟩) R ⟨hp, g, dw, tt, os⟩ := by
  obtain ⟨B, iid, _, SF⟩ := bs
  have hxs : x ≠ hp.objs.size := Nat.ne_of_lt (Heap.lt_size hx)
  refine PySem.W.osa_openX (s := ⟨hp, g, dw, tt, os⟩) (od := none) (r := none) SF X ⟨hx, rfl, rfl, trivial⟩ T.over (by unfold PySem.W.takerIn; rw [hno] <;> rfl) fun b => ?_
  obtain ⟨cd, hc, hd⟩ := PySem.W.any_some T.hd
  have hcls : PySem.W.Looks (model prog w) hp (classData C) cd := PySem.W.looks_clsIn X hc
  refine wpAny_bind (wpAny_pure (wpAny_bind (PySem.W.instanceDict_exc (s := ⟨hp, g, dw, tt, os⟩) hx hcls hd ?_)))
  refine HandSPX.store_in_new ?_ ?_
  · exact ⟨_, #[], _, (Heap.get?_update_ne _ _ _ _ hxs.symm).trans (Heap.get?_push_at rfl rfl), rfl, fun e he => absurd he (by simp), fun _ => rfl⟩
  · intro h' tk' hn' hs
    have hx1 : (hp.push { cls := .type "dict", data := .dict #[] }).get? x = _ := Heap.get?_push_of_some _ hx
    refine hq h' tk' hp.objs.size (fun b o hb ho => ?_) (Nat.le_refl _) hxs.symm ?_ hn'
    · have z := hs.2 b (Nat.ne_of_lt (Heap.lt_size ho))
      exact z.trans ((Heap.get?_update_ne _ _ _ _ hb).trans (Heap.get?_push_of_some _ ho))
    · exact (hs.2 x hxs).trans (Heap.get?_update_self _ hx1 rfl)
/-- a later one -/
theorem put_more {dx : Addr} {m0 : Str → Option Value} {nl : List Str} (T : ExK K C bmB newId) (bs : Bs bmB newId) (X : K.In hp) (hx : hp.get? x = some ({ cls := .ref C, dict := some dx, data := .fields #[.ref t1, .none, .none, .none, .bool false, .none] } : Obj))
    (hns : hp.Ns1 dx m0) (hw : Within m0 nl) (hz : nl.length ≤ 1000) (hno : PySem.W.findIn K (.ref C) f = some none)
    (hq : ∀ h' tk', (∀ b o, b ≠ dx → hp.get? b = some o → h'.get? b = some o) → h'.Ns1 dx (fun y => if y = f then some v else m0 y) → R (.ok (.ret .none)) ⟨h', g, dw, tk', os⟩) :
    codeAny (model prog w) A (.call (.builtin "object.__setattr__") ⟨[.ref x, .str f tk, v], []⟩) R ⟨hp, g, dw, tt, os⟩ := by
  obtain ⟨B, iid, _, SF⟩ := bs
  obtain ⟨oD, esD, epD, hoD, hdD, _⟩ := hns.count hw
  refine PySem.W.osa_openX (s := ⟨hp, g, dw, tt, os⟩) (od := some oD) (r := none) SF X ⟨hx, rfl, rfl, hoD⟩ T.over (by unfold PySem.W.takerIn; rw [hno] <;> rfl) fun b => ?_
  obtain ⟨cd, hc, hd⟩ := PySem.W.any_some T.hd
  have hcls : PySem.W.Looks (model prog w) hp (classData C) cd := PySem.W.looks_clsIn X hc
  obtain ⟨c1, c2, c3, c4, c5, c6, c7, c8, c9, cA, cB⟩ := cd
  dsimp only at hd
  subst hd
  show wpAny _ _ (storeInOwnDict _ _ _ _ _ _) _ _ _
  unfold storeInOwnDict ownDictForStores
  repeat (first | with_reducible refine PySem.OEX.store_in_old hns hw hz ?_ | with_reducible refine wpAny_loadPart_at hx ?_ | with_reducible refine hcls.at ?_ | wp_step)
  intro h' tk' hn' hs
  exact hq h' tk' (fun b o hb ho => (hs.2 b hb).trans ho) hn'
end
section
variable {X : Cx} {pins : List (Addr × Obj)} {σ : L2.St} {H : Hp} {s : Shared} {a C dx : Addr} {f : Str} {y : V} {u : Value} {fs : List (Str × V)} {Q : Unit → Shared → Prop} {E : Value → Shared → Prop} {A : Around} {bmB : List Value} {newId : String}
/-- an exception's object gets a dict that is new -/
theorem inv_dict {h' : Heap} {tk : Nat} {t1 : Addr} {od : HO} (I : Inv X pins σ H s) (e : H a = some (exo a C none)) (k : ∀ b o, b ≠ a → s.heap.get? b = some o → h'.get? b = some o) (dn : s.heap.objs.size ≤ dx) (dne : dx ≠ a)
    (hx : h'.get? a = some ({ cls := .ref C, dict := some dx, data := .fields #[.ref t1, .none, .none, .none, .bool false, .none] } : Obj)) (new : ∀ G : Hp, ObjOk X.prog X.w G h' dx od) :
    Inv X pins σ (upd (upd H dx od) a (exo a C (some dx))) { s with heap := h', toks := tk } := by
  have hnd : H dx = none := I.hok.fresh dn
  have hH : ∀ b, b ≠ a → b ≠ dx → upd (upd H dx od) a (exo a C (some dx)) b = H b := fun b n1 n2 => (upd_ne n1).trans (upd_ne n2)
  have na : ∀ b, H b = none → b ≠ a := fun b n z => by
    subst z
    exact nomatch n.symm.trans e
  have nd : ∀ b o, s.heap.get? b = some o → b ≠ dx := fun b o q => Nat.ne_of_lt (Nat.lt_of_lt_of_le (Heap.lt_size q) dn)
  have nk : ∀ b o, H b = some o → o ≠ exo a C none → upd (upd H dx od) a (exo a C (some dx)) b = some o := fun b o q n => by
    rw [hH b (ne_of q e n) (ne_of_none q hnd)]
    exact q
  refine I.un ⟨fun b o q n _ _ => k b o (na b n) q, fun b o q n _ _ => ⟨o.slots, k b o (na b n) q⟩, fun b o q n _ => ?_, fun b o q _ => ?_, fun b xs q => nk b _ q (Ne.symm exo_tup), fun b o v q => nk b _ q (Ne.symm exo_frz), fun b ps q => ⟨#[], ?_⟩⟩ fun b o q => ?_
  · rw [hH b (na b n) (nd b o q)]
    exact n
  · by_cases hb : b = a
    · subst hb
      exact ⟨_, hx⟩
    · exact ⟨o, k b o hb q⟩
  · rw [nk b _ q (Ne.symm exo_tbl)]
    simp
  · by_cases hb : b = a
    · subst hb
      obtain rfl := Option.some.inj (upd_same.symm.trans q)
      exact exo_ok hx
    · rw [upd_ne hb] at q
      by_cases hd : b = dx
      · subst hd
        obtain rfl := Option.some.inj (upd_same.symm.trans q)
        exact new _
      · rw [upd_ne hd] at q
        refine (I.hok b o q).stay (fun c v hc z => k c v ?_ z) (fun c hc => nk c _ hc (Ne.symm exo_own)) fun c xs hc => nk c _ hc (Ne.symm exo_tup)
        rcases hc with rfl | hc
        · exact hb
        · exact ne_of hc e (Ne.symm exo_own)
/-- self.f = y, the first one -/
theorem st_first (T : ExK X.K C bmB newId) (bs : Bs bmB newId) (I : Inv X pins σ H s) (e : H a = some (exo a C none)) (hno : PySem.W.findIn X.K (.ref C) f = some none) (ry : RelV y u)
    (h : ∀ d s', H d = none → d ≠ a → Inv X pins σ (upd (upd H d (exd d [(f, y)])) a (exo a C (some d))) s' → Q () s') : wpAny (model X.prog X.w) A (setAttr (.ref a) f u) Q E s := by
  obtain ⟨t1, ho⟩ := exo_at I.hok e
  obtain ⟨hp, g, d, t, os⟩ := s
  refine PySem.W.set_plain (od := none) I.kIn ⟨ho, rfl, rfl, trivial⟩ T.sa ?_
  refine put_first T bs I.kIn ho hno fun h' tk' dx k dn dne hx hn => ?_
  exact h dx _ (I.hok.fresh dn) dne (inv_dict I e k dn dne hx fun G => exd_ok hn (relO_put (fs := []) ry fun _ => True.intro))
/-- self.f = y, a further one -/
theorem st_more (T : ExK X.K C bmB newId) (bs : Bs bmB newId) (I : Inv X pins σ H s) (e : H a = some (exo a C (some dx))) (ed : H dx = some (exd dx fs)) (hl : fs.length ≤ 900) (hno : PySem.W.findIn X.K (.ref C) f = some none) (ry : RelV y u)
    (h : ∀ s', Inv X pins σ (upd H dx (exd dx ((f, y) :: fs))) s' → Q () s') : wpAny (model X.prog X.w) A (setAttr (.ref a) f u) Q E s := by
  obtain ⟨t1, ho⟩ := exo_at I.hok e
  obtain ⟨mA, hns, rel⟩ := exd_at I.hok ed
  have hw := within_of rel
  obtain ⟨hp, g, d, t, os⟩ := s
  obtain ⟨oD, _, _, hoD, _⟩ := hns.count hw
  refine PySem.W.set_plain (od := some oD) I.kIn ⟨ho, rfl, rfl, hoD⟩ T.sa ?_
  refine put_more T bs I.kIn ho hns hw (by rw [List.length_map]; omega) hno fun h' tk' k hn => ?_
  have hd : ∃ o, h'.get? dx = some o := let ⟨o, _, _, z, _⟩ := hn; ⟨o, z⟩
  exact h _ (I.write (t' := tk') (e := dx) (by rw [ed]; exact True.intro) (.inl rfl) k hd (exd_ok hn (relO_put ry rel)))
end
/-- self.f = e -/
def tSt (K : PySem.W.Frag) (f : Str) (to te : TE) : TS := fun D σ H => te σ H fun y H1 => to σ H1 fun x H2 => ∃ (a C : Addr) (bmB : List Value) (newId : String), x = .ref a ∧ ExK K C bmB newId ∧ Bs bmB newId ∧ PySem.W.findIn K (.ref C) f = some none ∧
  ((H2 a = some (exo a C none) ∧ ∀ d, H2 d = none → d ≠ a → D.nx σ (upd (upd H2 d (exd d [(f, y)])) a (exo a C (some d)))) ∨
    ∃ (d : Addr) (fs : List (Str × V)), H2 a = some (exo a C (some d)) ∧ H2 d = some (exd d fs) ∧ fs.length ≤ 900 ∧ D.nx σ (upd H2 d (exd d ((f, y) :: fs))))
/-- C(e, ..) as a value -/
def tMkV (C : Addr) (sp : Sp) (ta : TA) : TE := fun σ H Q => ta σ H fun vs H1 => vs.length ≤ 1000 ∧ ∀ a, H1 a = none → sp (.ref a :: vs) (upd H1 a (exo a C none)) (fun v H2 => v = .non ∧ Q (.ref a) H2) (fun _ _ _ => False)
/-- e.f of an own exception -/
def tXv (K : PySem.W.Frag) (f : Str) (te : TE) : TE := fun σ H Q => te σ H fun x H1 => ∃ (a C d : Addr) (bmB : List Value) (newId : String) (fs : List (Str × V)) (v : V), x = .ref a ∧ H1 a = some (exo a C (some d)) ∧ H1 d = some (exd d fs) ∧ ExK K C bmB newId ∧ PySem.W.findIn K (.ref C) f = some none ∧ fs.lookup f = some v ∧ Q v H1
section
variable {X : Cx} {o e : Expr} {es : List Expr} {to te : TE} {ta : TA} {f : Str} {p p' p1 p2 pos : Pos}
theorem ps_st (ho : PE X o to) (he : PE X e te) (hs : swapsWith e (some (.Attribute o f p')) pos.line X.env = pure false := by rfl) : PS X (.Assign [.Attribute o f p'] e pos) (tSt X.K f to te) := by
  refine ⟨fun pins s σ H D I h => plainObj_wpAny_Assign_Attribute (thn (he.run pins s σ H _ I h) fun v s1 ⟨y, H1, I1, r1, q1⟩ => thn (ho.run pins s1 σ H1 _ I1 q1) fun u s2 hh => ?_) hs⟩
  obtain ⟨x, H2, I2, r2, a, C, bmB, nid, rfl, T, bs, hno, q⟩ := hh
  obtain rfl : u = Value.ref a := r2
  rcases q with ⟨ea, q⟩ | ⟨d, fs, ea, ed, hl, q⟩
  · exact st_first T bs I2 ea hno r1 fun d s' n ne J => ⟨σ, _, J, q d n ne⟩
  · exact st_more T bs I2 ea ed hl hno r1 fun s' J => ⟨σ, _, J, q⟩
theorem pe_mkv {CX : CXT} {x : Str} {C fI : Addr} {k : Nat} {fd : FuncData} {ps : List Str} {sp : Sp} {bmB : List Value} {newId : String} (T : ExK X.K C bmB newId) (bs : Bs bmB newId) (iC : PySem.W.findIn X.K (.ref C) "__init__" = some (some (.ref fI))) (tI : PySem.W.isFn X.K (.ref fI) = true)
    (G : FnOk X.prog X.w X.K X.mg X.base CX k fI fd ps sp) (hr : Room (k + 1) X.A) (hb : Binds X.K fd ps []) (hx : Passes CX X (fun _ _ _ => False)) (hg : Gl X x) (hm : X.mg x = some (.ref C)) (ha : PA X (e :: es) ta)
    (hdb : (x == ("__debug__" : Str)) = false := by decide) (he : starEach (e :: es) X.env = (false, eval e X.env) :: starEach es X.env := by rfl) (hpl : (backTo pos (starEach es X.env)).any (·.1) = false := by rfl) :
    PE X (.Call (.Name x p) (e :: es) [] pos) (tMkV C sp ta) := by
  refine ⟨fun pins s σ H Q I h => ?_⟩
  refine wpAny_Call_Name_kw (ld_glob I hg hm ?_ hdb)
  refine PySem.W.callWith_K (h₀ := X.base) I.ok.mod.kin T.kC (thn (ha.run pos pins s σ H _ I h) fun us s1 hh => ?_) he hpl
  obtain ⟨vs, H1, I1, r1, hz, q1⟩ := hh
  refine ⟨I1.kIn, ?_⟩
  obtain ⟨B, iid, FB, SF⟩ := bs
  obtain ⟨nm, N', qn, bs', bm, hdct, sn, sub, ab, col, dd, k0, k1, k2, k3, k5, hC, hT⟩ := PySem.W.excInit_of I1.kIn T.init
  obtain ⟨oI, hoI, hcI⟩ : ∃ oI, s1.heap.get? fI = some oI ∧ oI.cls = .type "function" := by
    obtain ⟨oo, h1, h2⟩ := Option.map_eq_some_iff.mp (show (X.K.lookup fI).map (·.cls) = some (.type "function") from beq_iff_eq.mp tI)
    exact ⟨oo, I1.kIn _ _ h1, h2⟩
  obtain ⟨hp, g, dr, tk, os⟩ := s1
  have kk : ∀ b u, hp.get? b = some u → ((hp.push (PySem.W.kdv_tup us)).push (PySem.HandSPX.excO C hp.objs.size)).get? b = some u := fun b u z => Heap.get?_push_of_some _ (Heap.get?_push_of_some _ z)
  have hget : ((hp.push (PySem.W.kdv_tup us)).push (PySem.HandSPX.excO C hp.objs.size)).get? (hp.objs.size + 1) = some (PySem.HandSPX.excO C hp.objs.size) := by heap_get
  have I2 : Inv X pins σ (upd H1 (hp.objs.size + 1) (exo (hp.objs.size + 1) C none)) ⟨(hp.push (PySem.W.kdv_tup us)).push (PySem.HandSPX.excO C hp.objs.size), g, dr, tk, os⟩ := I1.laid (t' := tk) kk (Nat.le_succ _) (exo_ok hget)
  have hq := q1 (hp.objs.size + 1) (I1.hok.fresh (Nat.le_succ _))
  have r2 : Vals (V.ref (hp.objs.size + 1) :: vs) (Value.ref (hp.objs.size + 1) :: us) := .cons rfl r1
  have hl : (Value.ref (hp.objs.size + 1) :: us ++ []).length = ps.length := by
    rw [List.append_nil, ← r2.length]
    exact G.len _ _ _ _ hq
  have hus : us.length ≤ sizeLine := by
    rw [← Paired.length r1, sizeLine_eq]
    omega
  have hbi := hb _ (Value.ref (hp.objs.size + 1) :: us) I2.kIn hl
  rw [List.append_nil] at hbi
  refine wpAny_call (PySem.HandSPX.call_own FB hT hC (PySem.W.looks_findIn I1.kIn iC) (fun self => PySem.W.exc_bind hoI hcI self) hus (codeAny_mono (G.run _ X.stack _ _ _ _ _ _ (fun _ _ _ => False) (hr.make C us []) (I2.env0.make C us []) hbi r2 hq) fun r s' hq' => ?_))
  cases r with
  | error er => exact hx pins σ _ _ er s' I2 hq'
  | ok fl =>
    cases fl with
    | ret u =>
      obtain ⟨v, H2, os2, bare2, un2, hok2, rv, rfl, q2⟩ := hq'
      exact ⟨rv, .ref (hp.objs.size + 1), H2, I2.call' (ch := []) os2 un2 hok2 bare2 (fun b z => absurd z (by simp)), rfl, q2⟩
    | next => exact False.elim hq'
    | brk => exact False.elim hq'
    | cont => exact False.elim hq'
theorem pe_xv (he : PE X e te) (hb : attributeBase e f X.env (eval e X.env) = eval e X.env := by rfl) : PE X (.Attribute e f pos) (tXv X.K f te) := by
  refine ⟨fun pins s σ H Q I h => attr_of hb (thn (he.run pins s σ H _ I h) fun u s1 hh => ?_)⟩
  obtain ⟨x, H1, I1, rx, a, C, d, bmB, nid, fs, v, rfl, ea, ed, T, hno, l, q⟩ := hh
  obtain rfl : u = Value.ref a := rx
  obtain ⟨t1, ho⟩ := exo_at I1.hok ea
  obtain ⟨mA, hns, rel⟩ := exd_at I1.hok ed
  obtain ⟨od, h1, h2⟩ := lookIn_ns hns
  obtain ⟨u, hu, ru⟩ := RelO.some_of (v := v) (o := mA f) (by rw [← l]; exact rel f)
  exact HandSPX.exc_get I1.kIn ⟨ho, rfl, rfl, h1⟩ T.ga T.gg T.exC (PySem.W.findObj_own T.hd hno rfl (by rw [h2, hu])) (handed_of ru) ⟨v, H1, I1.tok _, ru, q⟩
end
end KX

set_option Elab.async false
set_option maxRecDepth 100000
set_option maxHeartbeats 2000000
/-! repr of nested data where no repr is running yet; isinstance of an own exception; defs that want to know that no repr is running. -/
namespace KX
open PySem PySem.Spec PyProof.Rows L2
/-- repr(data) -/
def rRepr (K : PySem.W.Frag) : List V → Hp → VK → Prop := fun xs H Q => ∃ (a : Addr) (d : PyData), xs = [.ref a] ∧ Dp K H (.ref a) d ∧ d.showable = true ∧ d.hasDict = false ∧ d.depth ≤ 8 ∧ d.shown.length ≤ sizeLine ∧ Q (.str d.shown) H
theorem call_repr {X : Cx} (hg : X.A.guards = some []) (hu : X.A.units + 10 < cLine) : CallR X (.builtin "repr") (rRepr X.K) := by
  intro pins s σ H xs us Q I r h
  obtain ⟨a, d, rfl, hd, h1, h2, h3, h4, q⟩ := h
  obtain ⟨u, rfl, ru⟩ := vals1 r
  obtain rfl : u = Value.ref a := ru
  obtain ⟨as, rd⟩ := Dp.reads I d _ _ hd rfl
  exact repr_of_reads' rd h1 (PyData.noDict_hsm h2) hg (by omega) (fun _ _ e => e) (fun h' u tk hk => ⟨.str d.shown, H, I.kept (t' := tk) hk, ⟨_, rfl⟩, q⟩) h4
/-- isinstance(e, c) of an own exception e -/
def rIsX (K : PySem.W.Frag) : List V → Hp → VK → Prop := fun xs H Q => ∃ (a C d : Addr) (bmB : List Value) (nid : String) (fs : List (Str × V)) (c : V) (cv : Value) (b : Bool), xs = [.ref a, c] ∧ H a = some (exo a C (some d)) ∧ H d = some (exd d fs) ∧ ExK K C bmB nid ∧
  PySem.W.specialIn K (.builtin "object.__class__") "__get__" = some (some (.builtin "getset_descriptor.__get__")) ∧ PySem.W.takesIn K (.builtin "object.__class__") = some true ∧ (∀ u, RelV c u → u = cv) ∧ PySem.W.kitOne K (.ref C) cv = some b ∧ Q (.bl b) H
theorem call_isX {X : Cx} : CallR X (.builtin "isinstance") (rIsX X.K) := by
  intro pins s σ H xs us Q I r h
  obtain ⟨a, C, d, bmB, nid, fs, c, cv, b, rfl, ea, ed, T, sp, tk, hcv, e, q⟩ := h
  cases r with
  | cons rx rr => cases rr with
    | cons rt rr =>
      cases rr
      cases rx
      obtain rfl := hcv _ rt
      obtain ⟨t1, ho⟩ := exo_at I.hok ea
      obtain ⟨mA, hns, rel⟩ := exd_at I.hok ed
      obtain ⟨od, h1, _⟩ := lookIn_ns hns
      obtain ⟨cd, hc, _⟩ := PySem.W.any_some T.hd
      exact PySem.W.kia_one (PySem.W.kitx_exc (od := some od) (by rw [hc] <;> rfl) T.ga T.gg T.exC T.ha sp tk T.hm) I.kIn ⟨ho, rfl, rfl, h1⟩ e (fun z => nomatch z) fun tk' => ⟨.bl b, H, I.kept (t' := tk') fun _ _ z => z, rfl, q⟩
end KX

set_option Elab.async false
set_option maxRecDepth 100000
set_option maxHeartbeats 2000000
namespace KX
open PySem PySem.Spec PyProof.Rows L2
/-- a def's promise where no repr is running -/
structure FnG (P : Program) (w : World) (K : PySem.W.Frag) (mg : Str → Option Value) (base : Heap) (CX : CXT) (k : Nat) (f : Addr) (fd : FuncData) (ps : List Str) (sp : Sp) : Prop where
  len : ∀ vs H Q E, sp vs H Q E → vs.length = ps.length
  run : ∀ (A : Around) (outer : List Env) (s : Shared) (H : Hp) (args : Args) (us : List Value) (vs : List V) (Q : VK) (E : XK), A.guards = some [] → Room k A →
    Env0 P w K mg base A outer s H → BindsTo s fd args (ps.zip us) → Vals vs us → sp vs H Q E → codeAny (model P w) A (.call (.ref f) args) (CR CX outer P w H s Q E) s
section
variable {P : Program} {w : World} {K : PySem.W.Frag} {mg : Str → Option Value} {base : Heap} {CX : CXT} {k : Nat} {f : Addr} {fd : FuncData} {ps : List Str} {sp : Sp}
theorem FnG.of (F : FnOk P w K mg base CX k f fd ps sp) : FnG P w K mg base CX k f fd ps sp :=
  ⟨F.len, fun A outer s H args us vs Q E _ => F.run A outer s H args us vs Q E⟩
/-- the rule for a def whose body may use that no repr is running -/
theorem fnG_ok {x qual : Str} {params : Arguments} {body : List Stmt} {scope : Scope} {dvs : List V} {kws : List (Str × V)} {N : List Str} (F : FunD K x qual params body scope dvs kws f fd) (S : FnScope N ps scope)
    (len : ∀ vs H Q E, sp vs H Q E → vs.length = ps.length)
    (hbody : ∀ (cdv : Value) (A : Around) (outer : List Env) (s : Shared) (H : Hp) (vs : List V) (Q : VK) (E : XK),
      A.guards = some [] → Room k (A.deeper (envOfC qual scope s.heap.objs.size f cdv)) → sp vs H Q E →
      ∃ t, PSs (cxOf CX P w K mg base N qual scope f cdv A outer s H E) body t ∧ t { nx := fun _ G => Q .non G, rt := Q } (start N vs) H) :
    FnG P w K mg base CX (k + 1) f fd ps sp := by
  obtain ⟨oc, od, dV, kV, doc, pm, an, cdv, ct, osl, rfl, lk, hcd, _, _⟩ := F.ex
  constructor
  · exact len
  intro A outer s H args us vs Q E hg hr e0 hb r hsp
  have hn := len _ _ _ _ hsp
  have keep : ∀ b o, base.get? b = some o → s.heap.get? b = some o := fun b o z => (e0.bs b o z).1
  have hK : K.In s.heap := e0.mod.kin.keeps keep
  have hL : s.heap.NoLimit := e0.mod.nolimit.keeps keep
  refine codeAny_call_function hr.depth (hK _ _ lk) rfl S.co S.gen rfl (PySem.W.codeRec_of hK hcd) (hb _ _ _ _ ?_)
  refine wpAny_newFunctionEnv_cells S.kind (fun y hy => ?_) fun env he s1 x => ?_
  · rcases S.par y.1 (List.of_mem_zip (show (y.1, y.2) ∈ ps.zip us from hy)).1 with z | z
    · exact Or.inl z
    · exact Or.inr ⟨z, PySem.W.cellsFrom_some _ _ _ (Or.inl z)⟩
  · subst he
    refine ⟨hL.keeps x.toInCall.keep, codeAny_func ?_⟩
    obtain ⟨t, ht, hq⟩ := hbody cdv A outer s H vs Q E hg (hr.deeper _) hsp
    have I0 := inv_start (CX := CX) (E := E) S hr.hd e0 hn r x
    refine wpAny_mono (ht.run [] s1 (start N vs) H _ I0 hq) (fun fl s' z => ?_) fun _ _ z => z
    match fl, z with
    | .ret u, ⟨v, σ', G, J, rv, qv⟩ => exact ⟨v, G, J.os, J.bare, J.base, J.hok, rv, qv⟩
    | .next, ⟨σ', G, J, qv⟩ => exact ⟨.non, G, J.os, J.bare, J.base, J.hok, rfl, qv⟩
    | .brk, ⟨_, _, _, qv⟩ => exact False.elim qv
    | .cont, ⟨_, _, _, qv⟩ => exact False.elim qv
end
section
variable {X : Cx} {CX : CXT} {k : Nat} {f : Addr} {fd : FuncData} {ps : List Str} {sp : Sp} {dvs : List V} {ds : List Value} {E : XK} {x : Str} {p pos : Pos} {e : Expr} {es : List Expr} {t : TA}
/-- f(e, ..) where no repr is running -/
theorem pe_callG (F : FnG X.prog X.w X.K X.mg X.base CX k f fd ps sp) (gg : X.A.guards = some []) (hr : Room k X.A) (hg : Gl X x) (hm : X.mg x = some (.ref f)) (hk : PySem.W.keepIn X.K (.ref f) = true) (hb : Binds X.K fd ps ds) (hd : Vals dvs ds)
    (hx : Passes CX X E) (ha : PA X (e :: es) t) (hdb : (x == ("__debug__" : Str)) = false := by decide) (he : starEach (e :: es) X.env = (false, eval e X.env) :: starEach es X.env := by rfl)
    (hpl : (backTo pos (starEach es X.env)).any (·.1) = false := by rfl) : PE X (.Call (.Name x p) (e :: es) [] pos) (tCall sp dvs E t) := by
  constructor
  intro pins s σ H Q I h
  refine wpAny_Call_Name_kw (ld_glob I hg hm ?_ hdb)
  refine PySem.W.callWith_K (h₀ := X.base) I.ok.mod.kin hk (thn (ha.run pos pins s σ H _ I h) fun us s1 hh => ?_) he hpl
  obtain ⟨vs, H1, I1, r, q⟩ := hh
  refine ⟨I1.kIn, ?_⟩
  have r2 : Vals (vs ++ dvs) (us ++ ds) := r.append hd
  have hl : (us ++ ds).length = ps.length := r2.length.symm.trans (F.len _ _ _ _ q)
  refine wpAny_call (codeAny_mono (F.run X.A X.stack s1 H1 ⟨us, []⟩ _ _ Q E gg hr I1.env0 (hb s1 us I1.kIn hl) r2 q) fun res s' z => ?_)
  match res, z with
  | .error er, z => exact hx pins σ H1 s1 er s' I1 z
  | .ok (.ret u), z => exact I1.after z
  | .ok .next, z => exact False.elim z
  | .ok .brk, z => exact False.elim z
  | .ok .cont, z => exact False.elim z
end
/-! ### the law's own call -/
theorem law_atG {P : Program} {w : World} {K : PySem.W.Frag} {mg mb : Str → Option Value} {k : Nat} {fa a : Addr} {fd : FuncData} {x : Str} {sp : Sp} {s1 : Shared} {vs : List Value} {ns : List Int}
    (KI : K.In s1.heap) (hns : s1.heap.Ns mainGlobals mg) (hb : s1.heap.Ns builtinsNs mb) (hbb : ∀ x : Str, x ≠ "__name__" → mb x = bootBuiltins x) (hlim : s1.heap.NoLimit) (hg : s1.gens = #[])
    (ha : s1.heap.get? a = some { cls := .type "list", data := .seq vs.toArray }) (hi : IntsAre vs ns) (hl : ns.length ≤ sizeLine) (hr : Room k callerA)
    (F : ∀ base : Heap, K.In base → base.Ns mainGlobals mg → FnG P w K mg base CX0 k fa fd [x] sp) (hbind : ∀ (s : Shared) (u : Value), BindsTo s fd ⟨[u], []⟩ [(x, u)])
    (hsp : ∀ H : Hp, SqL K H a (ns.map V.int) → sp [.ref a] H (fun v _ => v = .bl true) E0) :
    codeAny (model P w) callerA (.call (.ref fa) ⟨[.ref a], []⟩) (fun r s' => r = .ok (.ret (.bool true)) ∧ PySem.OldK s1.heap s'.heap ∧ s'.os = s1.os ∧ AllBare s'.gens) s1 := by
  have rv := vals_ints hi
  have frozen : ∀ H : Hp, (∀ b u, H b = some u → b = a ∧ u = .frz { cls := .type "list", data := .seq vs.toArray } (.lst (ns.map V.int)) ∧ K.lookup a = none) → SqL K H a (ns.map V.int) →
      codeAny (model P w) callerA (.call (.ref fa) ⟨[.ref a], []⟩) (fun r s' => r = .ok (.ret (.bool true)) ∧ PySem.OldK s1.heap s'.heap ∧ s'.os = s1.os ∧ AllBare s'.gens) s1 := by
    intro H hH hS
    have free : ∀ b o, s1.heap.get? b = some o → (b = a → K.lookup a ≠ none ∨ (∀ its n, o.data ≠ .seq its n)) → H b = none := by
      intro b o e n
      cases q : H b with
      | none => rfl
      | some u =>
        obtain ⟨rfl, _, z3⟩ := hH b u q
        rw [ha] at e
        obtain rfl := Option.some.inj e
        rcases n rfl with n | n
        · exact absurd z3 n
        · exact absurd rfl (n vs.toArray _)
    have inK : K.In (hidT s1.heap H) := fun b o e => hidT_get (KI b o e) (free b o (KI b o e) fun z => .inl (by rw [← z, e]; simp))
    have nsOk : ∀ {b : Addr} {m : Str → Option Value}, s1.heap.Ns b m → (hidT s1.heap H).Ns b m := by
      rintro b m ⟨o, es, ep, e, d, r⟩
      exact ⟨o, es, ep, hidT_get e (free b o e fun _ => .inr fun its n z => by rw [d] at z; cases z), d, r⟩
    have hok : HOk P w H s1.heap := by
      intro b u q
      obtain ⟨rfl, rfl, _⟩ := hH b u q
      exact ⟨ha, by rw [List.length_map]; exact hl, vs, _, rv, ha⟩
    have md : Mod K mg (hidT s1.heap H) := ⟨inK, nsOk hns, ⟨mb, nsOk hb, hbb⟩, by
      obtain ⟨mc, h1, h2⟩ := hlim
      exact ⟨mc, nsOk h1, h2⟩⟩
    have e0 : Env0 P w K mg (hidT s1.heap H) callerA [] s1 H :=
      ⟨rfl, md, fun b o e => of_hidT e, Nat.le_of_eq (hidT_size _ _), trivial, fun b z => absurd (show b ∈ ([] : List Addr) from z) (by simp), hok, .of_eq hg⟩
    have go := (F _ inK (nsOk hns)).run callerA [] s1 H ⟨[.ref a], []⟩ [.ref a] [.ref a] _ _ rfl hr e0 (hbind s1 (.ref a)) (.cons rfl .nil) (hsp H hS)
    refine codeAny_mono go fun r s' z => ?_
    match r, z with
    | .error _, z => exact False.elim z
    | .ok .next, z => exact False.elim z
    | .ok .brk, z => exact False.elim z
    | .ok .cont, z => exact False.elim z
    | .ok (.ret u), ⟨v, G, os, bare, un, hok', rr, qv⟩ =>
      obtain rfl : v = .bl true := qv
      obtain rfl : u = Value.bool true := rr
      refine ⟨rfl, PySem.OldK.of_keep fun b o e => ?_, os, bare⟩
      cases q : H b with
      | none => exact un.keep b o e q (fun z => absurd (show b ∈ ([] : List Addr) from z) (by simp)) (by simp)
      | some t =>
        obtain ⟨rfl, rfl, _⟩ := hH b t q
        obtain ⟨e2, _⟩ := hok' _ _ (un.frzs _ _ _ q)
        exact e2.trans (ha.symm.trans e)
  cases hk : K.lookup a with
  | none =>
    refine frozen (fun b => if b = a then some (.frz { cls := .type "list", data := .seq vs.toArray } (.lst (ns.map V.int))) else none) (fun b u z => ?_) (.inl (.inr ⟨_, if_pos rfl⟩))
    by_cases hba : b = a
    · exact ⟨hba, (Option.some.inj ((if_pos hba).symm.trans z)).symm, hk⟩
    · exact nomatch (if_neg hba).symm.trans z
  | some o =>
    have e := KI a o hk
    rw [ha] at e
    obtain rfl := Option.some.inj e
    exact frozen (fun _ => none) (fun b u z => nomatch (show (none : Option HO) = some u from z))
      (.inr ⟨_, vs.toArray, _, hk, rfl, rfl, rfl, by rw [List.size_toArray, hi.length]; exact hl, by simpa using rv⟩)
/-- the goal that a head leaves, by the law's promise -/
theorem walk_atG {l : PySem.W.OpenLaw} {n k : Nat} {q : Program} {loose : List Str} {XP : (Str → Option Value) → Heap → Prop} {YP : World → Heap → Prop} {d : DefRec} {x : Str}
    (hn : l.most = some n) (hn2 : n ≤ sizeLine) (hdf : d.params.defaults = []) (hr : Room k callerA)
    (F : ∀ (w : World) (mg : Str → Option Value) (fa : Addr) (h : Heap), YP w h → h.Ns mainGlobals mg → mg d.name = some (.ref fa) →
      ∃ (K : PySem.W.Frag) (fd : FuncData) (sp : Sp), K.In h ∧ (∀ (s : Shared) (u : Value), BindsTo s fd ⟨[u], []⟩ [(x, u)]) ∧
        (∀ (H : Hp) (a : Addr) (ns : List Int), ns.length ≤ n → (∀ z ∈ ns, Builtin.Int.intBits z ≤ 1048576) → SqL K H a (ns.map V.int) → sp [.ref a] H (fun v _ => v = .bl true) E0) ∧
        ∀ base : Heap, K.In base → base.Ns mainGlobals mg → FnG l.prog w K mg base CX0 k fa fd [x] sp) :
    PySem.W.WalkO q loose XP YP l.row.toRowW d [] (fun f vs => PySem.call f vs) := by
  refine Att.attach_callB hn hdf fun w s₀ s₁ mg mb fa o pm cd doc a vs ns G Y ho hd hcd hmg hobj hints hlen hbits hg => ?_
  obtain ⟨K, fd, sp, KI, hb, hsp, hF⟩ := F w mg fa _ Y G.T.g hmg
  exact law_atG KI G.T.g G.T.b G.T.builtins G.T.nolimit hg hobj hints (Nat.le_trans hlen hn2) hr hF hb fun H hS => hsp H a ns hlen hbits hS
end KX

set_option Elab.async false
set_option maxRecDepth 100000
set_option maxHeartbeats 2000000
/-! The bag that a law draws from: what stands in it, what is promised of a draw. -/
namespace KX
open PySem PySem.Spec PyProof.Rows L2
/-- the bag at b: digits, a seed, a count of at most n -/
def Bag (H : Hp) (b : Addr) (n : Int) : Prop := ∃ d m c : Int, H b = some (.lst [.int d, .int m, .int c]) ∧ 0 ≤ d ∧ 0 ≤ m ∧ m < 2 ^ 61 ∧ 0 ≤ c ∧ c ≤ n
/-- all but b is as it was -/
def But (b : Addr) (H H' : Hp) : Prop := ∀ x, x ≠ b → H' x = H x
/-- what was tracked is as it was, but b -/
def Kept (b : Addr) (H H' : Hp) : Prop := ∀ x o, x ≠ b → H x = some o → H' x = some o
theorem But.kept {b : Addr} {H H' : Hp} (h : But b H H') : Kept b H H' := fun x o n e => (h x n).trans e
theorem Kept.refl (b : Addr) (H : Hp) : Kept b H H := fun _ _ _ e => e
theorem Kept.trans {b : Addr} {H H1 H2 : Hp} (h : Kept b H H1) (k : Kept b H1 H2) : Kept b H H2 := fun x o n e => k x o n (h x o n e)
theorem Kept.new {b p : Addr} {H : Hp} {o : HO} (h : H p = none) : Kept b H (upd H p o) := fun x u _ e => by
  rw [upd_ne (ne_of_none e h)]
  exact e
theorem Kept.seq {K : PySem.W.Frag} {b a : Addr} {H H' : Hp} {xs : List V} (k : Kept b H H') (n : a ≠ b) (h : SqL K H a xs) : SqL K H' a xs := by
  rcases h with (h | ⟨o, h⟩) | h
  · exact .inl (.inl (k _ _ n h))
  · exact .inl (.inr ⟨o, k _ _ n h⟩)
  · exact .inr h
theorem Bag.some {H : Hp} {b : Addr} {n : Int} (h : Bag H b n) : ∃ o, H b = some o := let ⟨_, _, _, e, _⟩ := h; ⟨_, e⟩
theorem Bag.ne {H : Hp} {b p : Addr} {n : Int} (h : Bag H b n) (hp : H p = none) : p ≠ b := by
  obtain ⟨o, e⟩ := h.some
  exact (ne_of_none e hp).symm
theorem Bag.put {H : Hp} {b p : Addr} {n : Int} {o : HO} (h : Bag H b n) (hp : p ≠ b) : Bag (upd H p o) b n := by
  obtain ⟨d, m, c, e, r⟩ := h
  exact ⟨d, m, c, (upd_ne hp.symm).trans e, r⟩
theorem Bag.mono {H : Hp} {b : Addr} {n n' : Int} (h : Bag H b n) (hn : n ≤ n') : Bag H b n' := by
  obtain ⟨d, m, c, e, r1, r2, r3, r4, r5⟩ := h
  exact ⟨d, m, c, e, r1, r2, r3, r4, by omega⟩
/-- _law_bag -/
def spBag (K : PySem.W.Frag) : Sp := fun vs H Q _ => ∃ (a : Addr) (ns : List Int) (i : Nat), vs = [.ref a, .int i] ∧ SqL K H a (ns.map V.int) ∧ ns.length ≤ 63 ∧ i ≤ 63 ∧ ∀ b H', H b = none → Kept b H H' → (∀ x, x ≠ b → H' x = H x) → Bag H' b 0 → Q (.ref b) H'
/-- _law_draw -/
def spDraw : Sp := fun vs H Q _ => ∃ (b : Addr) (n many : Int), vs = [.ref b, .int many] ∧ Bag H b n ∧ n < 1000000 ∧ 0 < many ∧ many.natAbs < 2 ^ 200 ∧ ∀ (r : Int) (H' : Hp), 0 ≤ r → r < many → But b H H' → Bag H' b (n + 1) → Q (.int r) H'
/-- _law_of -/
def spOf (K : PySem.W.Frag) : Sp := fun vs H Q _ => ∃ (b l : Addr) (n : Int) (xs : List V), vs = [.ref b, .ref l] ∧ Bag H b n ∧ n < 1000000 ∧ l ≠ b ∧ SqL K H l xs ∧ 0 < xs.length ∧ xs.length ≤ 1000 ∧
  ∀ (i : Nat) (v : V) (H' : Hp), xs[i]? = some v → But b H H' → Bag H' b (n + 1) → Q v H'
/-- the numbers of a draw -/
theorem draw_pow {m c : Int} (hm0 : 0 ≤ m) (hm : m < 2 ^ 61) (hc0 : 0 ≤ c) (hc : c ≤ 1000000) : CPow (m + 611953 * (c + 1)) 2 := by
  refine ⟨by decide, by decide, ?_⟩
  omega
theorem draw_pow3 {x c : Int} (hx0 : 0 ≤ x) (hx : x < 1152921504606846869) (hc0 : 0 ≤ c) (hc : c ≤ 1000000) : CPow (x + 15485863 * (c + 1)) 3 := by
  refine ⟨by decide, by decide, ?_⟩
  omega
theorem fmod_in {x y : Int} (h : 0 < y) : 0 ≤ x.fmod y ∧ x.fmod y < y := by
  rw [Int.fmod_eq_emod_of_nonneg x (Int.le_of_lt h)]
  exact ⟨Int.emod_nonneg x (by omega), Int.emod_lt_of_pos x h⟩
end KX

set_option Elab.async false
set_option maxRecDepth 100000
set_option maxHeartbeats 2000000
/-! The hook with the keys of the module's dicts beside; tuples of texts that the module holds. -/
namespace KX
open PySem PySem.Spec PyProof.Rows L2 He
abbrev KeyT : Type := List (Option (List (Option (Str × Int))))
def lookD (n : Nat) (chk : PySem.W.Frag → Bool) (fn : List DefD) (ds : List (Str × List Str)) (g : Addr → Option Obj) : (Bool × List FnW) × KeyT :=
  let K := frG g (asD g n)
  ((chk K && fn.all fun d => d.ok K, fn.map fun d => fnW K d.at_), ds.map fun d => dicW K (ga K d.1))
def SaysD (chk : PySem.W.Frag → Bool) (fn : List DefD) (ds : List (Str × List Str)) (w : World) (K : PySem.W.Frag) : Prop := SaysX chk fn K ∧ ds.map (fun d => dicW K (ga K d.1)) = ds.map fun d => some (keysIn w.params d.2)
def hookD (n : Nat) (chk : PySem.W.Frag → Bool) (fn : List DefD) (ds : List (Str × List Str)) : PySem.W.Hook where
  α := (Bool × List FnW) × KeyT
  obs := fun s => lookD n chk fn ds s.heap.get?
  val := fun w => ((true, fn.map DefD.val), ds.map fun d => some (keysIn w.params d.2))
  says := fun w h => ∃ K : PySem.W.Frag, K.In h ∧ SaysD chk fn ds w K
  of := fun _ s e => by
    refine ⟨frG s.heap.get? (asD s.heap.get? n), frG_in, ?_⟩
    have e1 := congrArg (fun z : (Bool × List FnW) × KeyT => z.1.1) e
    have e2 := congrArg (fun z : (Bool × List FnW) × KeyT => z.1.2) e
    have e3 := congrArg (fun z : (Bool × List FnW) × KeyT => z.2) e
    obtain ⟨a, b⟩ := Bool.and_eq_true_iff.mp e1
    exact ⟨⟨a, b, e2⟩, e3⟩
  keeps := fun _ _ _ h k => by
    obtain ⟨K, hK, c⟩ := h
    exact ⟨K, PySem.W.Frag.In.keeps hK k, c⟩
theorem lookD_eq {n : Nat} {chk : PySem.W.Frag → Bool} {fn : List DefD} {ds : List (Str × List Str)} {g : Addr → Option Obj} {s : Shared} (h : ∀ a, g a = s.heap.get? a) : lookD n chk fn ds g = (hookD n chk fn ds).obs s := by
  obtain rfl : g = s.heap.get? := funext h
  rfl
theorem SaysD.dic {chk : PySem.W.Frag → Bool} {fn : List DefD} {ds : List (Str × List Str)} {w : World} {K : PySem.W.Frag} (c : SaysD chk fn ds w K) (i : Nat) {d : Str × List Str} (h : ds[i]? = some d := by rfl) : ∃ es n, KDict K w (ga K d.1) es n := by
  have e2 : (ds.map fun d => dicW K (ga K d.1))[i]? = (ds.map fun d => some (keysIn w.params d.2))[i]? := by rw [c.2]
  rw [List.getElem?_map, List.getElem?_map, h] at e2
  exact dicW_ok (Option.some.inj e2)
/-- a tuple of texts that the module holds at a -/
def strB : Value → Str → Bool
  | .str y _, z => decide (y = z)
  | _, _ => false
def strsB : List Value → List Str → Bool
  | [], [] => true
  | u :: r, z :: zs => strB u z && strsB r zs
  | _, _ => false
def tupB (K : PySem.W.Frag) (a : Addr) (zs : List Str) : Bool := match K.lookup a with
  | some ⟨.type c, _, .seq its _, _⟩ => decide (c = "tuple") && (decide (its.size ≤ 1000) && strsB its.toList zs)
  | _ => false
theorem strsB_ok : ∀ {us : List Value} {zs : List Str}, strsB us zs = true → Vals (zs.map V.str) us
  | [], [], _ => .nil
  | u :: r, z :: zs, h => by
    obtain ⟨h1, h2⟩ := Bool.and_eq_true_iff.mp h
    refine .cons ?_ (strsB_ok h2)
    cases u with
    | str y t => exact ⟨t, by rw [show y = z from of_decide_eq_true h1]⟩
    | _ => cases h1
  | [], _ :: _, h => nomatch h
  | _ :: _, [], h => nomatch h
theorem tupB_ok {K : PySem.W.Frag} {a : Addr} {zs : List Str} {H : Hp} (h : tupB K a zs = true) : SqT K H a (zs.map V.str) := by
  unfold tupB at h
  split at h
  · rename_i c d its n sl e
    obtain ⟨h1, h⟩ := Bool.and_eq_true_iff.mp h
    obtain ⟨h2, h3⟩ := Bool.and_eq_true_iff.mp h
    have e1 : c = "tuple" := of_decide_eq_true h1
    subst e1
    have h4 : its.size ≤ 1000 := of_decide_eq_true h2
    exact .inr ⟨_, its, n, e, rfl, rfl, Nat.le_trans h4 (by decide), strsB_ok h3⟩
  · cases h
/-- a world with one of its answers set; a dict with keys that the top makes asks for that answer alone -/
def setF (w : World) (b : Bool) : World := { w with params := { w.params with followText := fun r => if r = "special-get-raises" then b else w.params.followText r } }
theorem setF_eq {w : World} {b : Bool} (h : w.params.followText "special-get-raises" = b) : setF w b = w := by
  have e : (fun r => if r = "special-get-raises" then b else w.params.followText r) = w.params.followText := funext fun r => by
    by_cases c : r = "special-get-raises"
    · subst c
      rw [if_pos rfl]
      exact h.symm
    · rw [if_neg c]
  unfold setF
  rw [e]
theorem run_two {r : PySem.W.OpenRow} {q : Program} {H : PySem.W.Hook} {ob : PySem.W.SharedT → H.α} {M : Nat} {loose : List Str} (h1 : ∀ w, HandSHeadRun.RunEq r q H ob M loose (setF w true)) (h2 : ∀ w, HandSHeadRun.RunEq r q H ob M loose (setF w false)) (w : World) : HandSHeadRun.RunEq r q H ob M loose w := by
  cases h : w.params.followText "special-get-raises" with
  | true => rw [← setF_eq h]; exact h1 w
  | false => rw [← setF_eq h]; exact h2 w
end KX

set_option Elab.async false
set_option maxRecDepth 100000
set_option maxHeartbeats 2000000
/-! Own exceptions raised with what they keep, caught with the context None; isinstance of a caught one that has a dict; defs called in the suite; C() of a class with *rest. -/
namespace KX
open PySem PySem.Spec PyProof.Rows L2 StX
theorem mk_endN {X : Cx} {pins : List (Addr × Obj)} {σ : L2.St} {H1 H2 : Hp} {Q : XK} {hp hp2 h2 : Heap} {g1 g2 : Array GenState} {d1 d2 : Drawn} {t1 t2 : Nat} {os1 os2 : OsState} {a C d : Addr} {fs : List (Str × V)} (T : Raises X (.ref C)) (I1 : Inv X pins σ H1 ⟨hp, g1, d1, t1, os1⟩)
    (ha : hp.objs.size ≤ a) (k : ∀ b o, hp.get? b = some o → hp2.get? b = some o) (un : Un (frs X.stack) [] (upd H1 a (exo a C none)) H2 hp2 h2) (hok : HOk X.prog X.w H2 h2) (ho : os2 = os1) (hb : AllBare g2)
    (ea : H2 a = some (exo a C (some d))) (ed : H2 d = some (exd d fs)) (hd1 : H1 d = none) (q : Q (.ref C) (some d) (upd (del H2 a) d (.xd fs))) : L2N.MkP X pins σ Q (.ref a) ⟨h2, g2, d2, t2, os2⟩ := by
  obtain ⟨t0, G, J, kG, ge, hoe, na⟩ := mk_end0 (d2 := d2) (t2 := t2) I1 ha k un hok ho hb ea ed hd1
  exact ⟨a, _, _, ⟨G, g2, d2, t2, os2⟩, _, .ref C, some d, rfl, J, kG, ge, hoe, ⟨rfl, rfl, fun vs e => by cases e; rfl⟩, rfl, rfl, na, rfl, hb, T, q⟩
section
variable {X : Cx} {CX : CXT} {x : Str} {C fI : Addr} {k : Nat} {fd : FuncData} {ps : List Str} {sp : Sp} {e : Expr} {es : List Expr} {ta : TA} {p pos : Pos}
theorem pmk_x {bmB : List Value} {newId : String} (T : ExK X.K C bmB newId) (tyC : PySem.W.typeIn X.K (.ref C) = some (.type "type")) (bs : Bs bmB newId) (iC : PySem.W.findIn X.K (.ref C) "__init__" = some (some (.ref fI))) (tI : PySem.W.isFn X.K (.ref fI) = true)
    (G : FnOk X.prog X.w X.K X.mg X.base CX k fI fd ps sp) (hr : Room (k + 1) X.A) (hb : Binds X.K fd ps []) (hx : Passes CX X (fun _ _ _ => False)) (hg : Gl X x) (hm : X.mg x = some (.ref C)) (ha : PA X (e :: es) ta)
    (hdb : (x == ("__debug__" : Str)) = false := by decide) (he : starEach (e :: es) X.env = (false, eval e X.env) :: starEach es X.env := by rfl) (hpl : (backTo pos (starEach es X.env)).any (·.1) = false := by rfl) :
    L2N.PMk X (.Call (.Name x p) (e :: es) [] pos) (tMkO C sp [] ta) := by
  intro pins s σ H Q I h
  refine wpAny_Call_Name_kw (ld_glob I hg hm ?_ hdb)
  refine PySem.W.callWith_K (h₀ := X.base) I.ok.mod.kin T.kC (thn (ha.run pos pins s σ H _ I h) fun us s1 hh => ?_) he hpl
  obtain ⟨vs, H1, I1, r1, hz, q1⟩ := hh
  refine ⟨I1.kIn, ?_⟩
  obtain ⟨B, iid, FB, SF⟩ := bs
  obtain ⟨nm, N', qn, bs', bm, hdct, sn, sub, ab, col, dd, k0, k1, k2, k3, k5, hC, hT⟩ := PySem.W.excInit_of I1.kIn T.init
  obtain ⟨oI, hoI, hcI⟩ : ∃ oI, s1.heap.get? fI = some oI ∧ oI.cls = .type "function" := by
    obtain ⟨oo, h1, h2⟩ := Option.map_eq_some_iff.mp (show (X.K.lookup fI).map (·.cls) = some (.type "function") from beq_iff_eq.mp tI)
    exact ⟨oo, I1.kIn _ _ h1, h2⟩
  obtain ⟨hp, g, dr, tk, os⟩ := s1
  have kk : ∀ b u, hp.get? b = some u → ((hp.push (PySem.W.kdv_tup us)).push (PySem.HandSPX.excO C hp.objs.size)).get? b = some u := fun b u z => Heap.get?_push_of_some _ (Heap.get?_push_of_some _ z)
  have hget : ((hp.push (PySem.W.kdv_tup us)).push (PySem.HandSPX.excO C hp.objs.size)).get? (hp.objs.size + 1) = some (PySem.HandSPX.excO C hp.objs.size) := by heap_get
  have I2 : Inv X pins σ (upd H1 (hp.objs.size + 1) (exo (hp.objs.size + 1) C none)) ⟨(hp.push (PySem.W.kdv_tup us)).push (PySem.HandSPX.excO C hp.objs.size), g, dr, tk, os⟩ := I1.laid (t' := tk) kk (Nat.le_succ _) (exo_ok hget)
  have hq := q1 (hp.objs.size + 1) (I1.hok.fresh (Nat.le_succ _))
  rw [List.append_nil] at hq
  have r2 : Vals (V.ref (hp.objs.size + 1) :: vs) (Value.ref (hp.objs.size + 1) :: us) := .cons rfl r1
  have hl : (Value.ref (hp.objs.size + 1) :: us ++ []).length = ps.length := by
    rw [List.append_nil, ← r2.length]
    exact G.len _ _ _ _ hq
  have hus : us.length ≤ sizeLine := by
    rw [← Paired.length r1, sizeLine_eq]
    omega
  have hbi := hb _ (Value.ref (hp.objs.size + 1) :: us) I2.kIn hl
  rw [List.append_nil] at hbi
  refine wpAny_call (PySem.HandSPX.call_own FB hT hC (PySem.W.looks_findIn I1.kIn iC) (fun self => PySem.W.exc_bind hoI hcI self) hus (codeAny_mono (G.run _ X.stack _ _ _ _ _ _ (fun _ _ _ => False) (hr.make C us []) (I2.env0.make C us []) hbi r2 hq) fun r s' hq' => ?_))
  cases r with
  | error er => exact hx pins σ _ _ er s' I2 hq'
  | ok fl =>
    cases fl with
    | ret u =>
      obtain ⟨v, H2, os2, bare2, un2, hok2, rv, ev, d, fs, ea, ed, hd1, q2⟩ := hq'
      subst ev
      obtain ⟨h2, g2, d2, t2, os'⟩ := s'
      exact ⟨rv, mk_endN (raises_own T.exC tyC) I1 (Nat.le_succ _) kk un2 hok2 os2 bare2 ea ed hd1 q2⟩
    | next => exact False.elim hq'
    | brk => exact False.elim hq'
    | cont => exact False.elim hq'
end
/-- isinstance(e, c), e the exception that the suite holds -/
theorem call_isEd {X : Cx} {a D d : Addr} {oe : Obj} {pn : List (Addr × Obj)} {bmB : List Value} {nid : String} (T : ExK X.K D bmB nid) (sp : PySem.W.specialIn X.K (.builtin "object.__class__") "__get__" = some (some (.builtin "getset_descriptor.__get__"))) (tk : PySem.W.takesIn X.K (.builtin "object.__class__") = some true)
    (hz : Zc (.ref D) (some d) oe) (hf : ∃ vs, oe.data = .fields vs) : CallR (X.suite a ((a, oe) :: pn)) (.builtin "isinstance") (fun xs H Q => (∃ fs, H d = some (.xd fs)) ∧ rIsE X.K D a xs H Q) := by
  intro pins s σ H xs us Q I r h
  obtain ⟨⟨fs, hd⟩, c, cv, b, rfl, hcv, e, q⟩ := h
  cases r with
  | cons rx rr =>
    cases rr with
    | cons rt rr =>
      cases rr
      cases rx
      have ec := hcv _ rt
      subst ec
      obtain ⟨hget, _⟩ := I.pin (a, oe) (List.mem_append.mpr (.inl List.mem_cons_self))
      obtain ⟨vs, hv⟩ := hf
      have hx : ObjOk X.prog X.w H s.heap d (.xd fs) := I.hok d _ hd
      obtain ⟨mA, hns, rel⟩ := hx
      obtain ⟨od, ho, _⟩ := lookIn_ns hns
      obtain ⟨cd, hc, _⟩ := PySem.W.any_some T.hd
      have J : PySem.W.InstAt s.heap a oe D (some od) := ⟨hget, hz.1, by unfold PySem.W.notCls; rw [hv] <;> rfl, by rw [hz.2]; exact ho⟩
      exact PySem.W.kia_one (PySem.W.kitx_exc (od := some od) (by rw [hc] <;> rfl) T.ga T.gg T.exC T.ha sp tk T.hm) I.kIn J e (fun z => nomatch z) fun tk' => ⟨.bl b, H, I.kept (t' := tk') fun _ _ z => z, rfl, q⟩
theorem cxUpN {P : Program} {w : World} : CXUp (L2N.CX P w) := by
  rintro outer s H s2 H2 E e s' un kp ho ⟨a, B, H', cls, d, ea, fl, hok, ub, na, os, ag, he⟩
  refine ⟨a, B, H', cls, d, ea, fl, hok, ⟨fun b o q n hb => ub.keep b o (kp b o q) (un.free b o q n (by simp)) hb, fun b o q hb => ub.slot b o (kp b o q) hb, fun b o q n => ub.free b o (kp b o q) (un.free b o q n (by simp)),
    fun b o q hb => ub.there b o (kp b o q) hb, fun b xs q => ub.tups b xs (un.tups b xs q), fun b o xs q => ub.frzs b o xs (un.frzs b o xs q), fun b ps q => ?_⟩, na, os.trans ho, ag, he⟩
  obtain ⟨m1, e1⟩ := un.tbls b ps q
  obtain ⟨m2, e2⟩ := ub.tbls b _ e1
  exact ⟨m1 ++ m2, by rw [e2, Array.append_assoc]⟩
theorem fnH_ok {P : Program} {w : World} {K : PySem.W.Frag} {mg : Str → Option Value} {base : Heap} {f : Addr} {x qual : Str} {params : Arguments} {body : List Stmt} {scope : Scope} {dvs : List V} {kws : List (Str × V)} {fd : FuncData} {CX : CXT} {N ps : List Str} {k : Nat} {sp : Sp}
    (F : FunD K x qual params body scope dvs kws f fd) (S : FnScope N ps scope) (len : ∀ vs H Q E, sp vs H Q E → vs.length = ps.length)
    (hbody : ∀ (cdv : Value) (A : Around) (outer : List Env) (s : Shared) (H : Hp) (vs : List V) (Q : VK) (E : XK) (p : Addr × Obj), L2H.Hot1 A p → L2H.RoomH k (A.deeper (envOfC qual scope s.heap.objs.size f cdv)) → sp vs H Q E →
      ∃ t, PSs (L2H.cxH CX P w K mg base N qual scope f cdv A outer s H E p) body t ∧ t { nx := fun _ H' => Q .non H', rt := Q } (start N vs) H) : L2H.FnH P w K mg base CX (k + 1) f fd ps sp := by
  obtain ⟨oc, od, dV, kV, doc, pm, an, cdv, ct, osl, rfl, lk, hcd, _, _⟩ := F.ex
  exact L2H.fn_ofH lk hcd S len fun A outer s H vs Q E p hot hr hsp => hbody cdv A outer s H vs Q E p hot hr hsp
theorem pe_makeR0 {X : Cx} {CX : CXT} {k : Nat} {f C : Addr} {sp : Sp} {E : XK} {x : Str} {p pos : Pos} (M : Mk X.K C f) (F : FnR X.prog X.w X.K X.mg X.base CX k f sp) (hr : Room (k + 1) X.A) (hg : Gl X x) (hm : X.mg x = some (.ref C)) (hx : Passes CX X E)
    (hdb : (x == ("__debug__" : Str)) = false := by decide) : PE X (.Call (.Name x p) [] [] pos) (tMakeR C sp E tNil) := by
  refine ⟨fun pins s σ H Q I h => ?_⟩
  refine wpAny_Call_Name_kw (ld_glob I hg hm ?_ hdb)
  exact PySem.W.callWith_K0 I.kIn M.kp (run_makeR (us := []) M F hr hx I .nil h)
end KX

set_option Elab.async false
set_option maxRecDepth 100000
set_option maxHeartbeats 2000000
/-! for i, x in enumerate(t), t a tuple. -/
namespace KX
open PySem PySem.Spec PyProof.Rows L2
open Sem (wp)
open AutoSeq1 (wpAny_loadPart')
/-- enumerate's maker, told of whatever begins to be walked -/
theorem enum_new1 {v : Value} {o : Obj} {G : Heap → Prop} (B : Begins v o G) :
    Meets (Builtin.«enumerate.__new__» ⟨[.type "enumerate", v], []⟩) (fun _ R s => G s.heap ∧ R (.ok (.ret (.ref (s.heap.push o).objs.size)))
        { s with heap := (s.heap.push o).push { cls := .type "enumerate", data := .fields #[.none, .bool false, .ref s.heap.objs.size, rawInt 0, .none, .none] } }) :=
  .of_wp fun prog w A R s hh => by
    obtain ⟨hp, g, d, tk, os⟩ := s
    have hsub := sub_enumerate
    have it : ∀ {A' : Around} {E Q : Value → Shared → Prop}, Q (.ref hp.objs.size) ⟨hp.push o, g, d, tk, os⟩ → wpAny (model prog w) A' (pyIter v) Q E ⟨hp, g, d, tk, os⟩ := fun q => B.iter _ _ _ _ ⟨hp, g, d, tk, os⟩ _ hh.1 q
    wp_walk using it
    refine wpAny_stack_any fun _ => wpAny_pure ?_
    split
    case h_1 c _ _ _ _ _ => cases (c == Value.type "enumerate") <;> (wp_walk using it; exact ⟨_, rfl, hh.2⟩)
    all_goals (wp_walk using it; exact ⟨_, rfl, hh.2⟩)
section
variable {prog : Program} {w : World} {A : Around} {E : Value → Shared → Prop} {s : Shared}
theorem enum_tup {t : Addr} {its : Array Value} {Q : Value → Shared → Prop} (ht : s.heap.IsTuple t its)
    (q : ∀ h', IsEnum h' (s.heap.objs.size + 1) s.heap.objs.size 0 .none → h'.IsTupleIter s.heap.objs.size t 0 → (∀ b u, s.heap.get? b = some u → h'.get? b = some u) → Q (.ref (s.heap.objs.size + 1)) { s with heap := h' }) :
    wpAny (model prog w) A (call (.type "enumerate") [.ref t]) Q E s := by
  refine callType_new F.called_enumerate (by decide) (F.typeCall_enumerate_1 _) (F.newCall_enumerate_1 _) (fun obj => F.args_object_init_2 obj _) F.entry_enumerate_new (enum_new1 (begins_tuple t its)) ⟨ht, ?_⟩
  generalize ho : ({ cls := .type "tuple_iterator", data := .fields #[.ref t, .int 0 0] } : Obj) = o
  have hf : o.isFreed = false := by rw [← ho]; rfl
  have hz : (s.heap.push o).objs.size = s.heap.objs.size + 1 := Heap.size_push ..
  show _ ∧ _
  rw [hz]
  have e1 : ((s.heap.push o).push { cls := .type "enumerate", data := .fields #[.none, .bool false, .ref s.heap.objs.size, rawInt 0, .none, .none] }).get? (s.heap.objs.size + 1) = some { cls := .type "enumerate", data := .fields #[.none, .bool false, .ref s.heap.objs.size, rawInt 0, .none, .none] } := by
    rw [← hz]
    exact Heap.get?_push_size _ rfl
  have e2 := Heap.get?_push_of_some ({ cls := .type "enumerate", data := .fields #[.none, .bool false, .ref s.heap.objs.size, rawInt 0, .none, .none] }) (Heap.get?_push_size s.heap hf)
  exact ⟨⟨_, e1, rfl⟩, q _ e1 ⟨o, e2, by rw [← ho], by rw [← ho]; rfl⟩ fun b u z => Heap.get?_push_of_some _ (Heap.get?_push_of_some _ z)⟩
end
/-- the tuple at a as it stands at each turn, each item in a new pair -/
def ItE (K : PySem.W.Frag) (a : Addr) : It where
  go := fun i H => ∃ (xs : List V) (x : V), SqT K H a xs ∧ xs[i]? = some x
  yld := fun i H v H' => ∃ T x, v = .ref T ∧ H T = none ∧ H' = upd H T (.tup [.int (i : Nat), x]) ∧ ∀ xs, SqT K H a xs → xs[i]? = some x
  stop := fun i H => ∃ xs : List V, SqT K H a xs ∧ xs.length = i
theorem tup_ne {h : Heap} {a it : Addr} {i : Nat} {its : Array Value} (hi : h.IsTupleIter it a i) (ht : h.IsTuple a its) : a ≠ it := by
  rintro rfl
  obtain ⟨o, ho, hc, _⟩ := hi
  obtain ⟨u, hu, uc, _⟩ := ht
  rw [ho] at hu
  cases hu
  rw [hc] at uc
  exact absurd (Value.type.inj uc) (by decide)
theorem turn_enumT {P : Program} {w : World} {K : PySem.W.Frag} {elts : List Expr} {kk : Nat} {tpos : Pos} (a e it : Addr) :
    Turn P w K (.Tuple elts kk tpos) (ItE K a) [e, it] e (fun i h => (∃ old, IsEnum h e it ((i : Nat) : Int) old) ∧ h.IsTupleIter it a i ∧ e ≠ it) where
  mem := by simp
  obj := fun i h st b hb => by
    obtain ⟨⟨old, he⟩, ⟨o, ho, hc, hd⟩, _⟩ := st
    rcases List.mem_cons.mp hb with rfl | hb
    · exact ⟨_, he, fun v q => nomatch q⟩
    · rw [List.mem_singleton.mp hb]
      exact ⟨o, ho, fun v q => by rw [hd] at q; cases q⟩
  keep := fun i h h' st k => ⟨st.1.imp fun old he => k e (by simp) _ he, st.2.1.at fun o q => k it (by simp) o q, st.2.2⟩
  item := by
    intro X hP hw hK hc i pins s σ H E I hf st hg
    subst hP hw hK
    obtain ⟨⟨old, he⟩, hit, hne⟩ := st
    obtain ⟨xs, x, hq, hx⟩ := hg
    obtain ⟨its, rv, p, hz⟩ := I.tuple hq
    obtain ⟨u, hu, ru⟩ := rv.get hx
    have p' : s.heap.IsTuple a its.toArray := p
    have hel : e < s.heap.objs.size := Heap.lt_size he
    have hil : it < s.heap.objs.size := by obtain ⟨_, q, _⟩ := hit; exact Heap.lt_size q
    have hlt : i < its.toArray.size := by
      have := (List.getElem?_eq_some_iff.mp hu).1
      simpa using this
    have hea : e ≠ a := by
      rintro rfl
      obtain ⟨o2, ho2, uc, _⟩ := p'
      rw [he] at ho2
      cases ho2
      exact absurd (Value.type.inj uc) (by decide)
    refine wpAny_pyNext_enum_itemD (Draws.tuple (A := X.A.in1) (I.ok.hd hc) it a (tup_ne hit p') its.toArray) he ⟨hit, p'⟩ hlt hne (by simp [hne, hea]) fun x2 h' tk hx2 ho st2 hT hsz hk => ?_
    obtain rfl : x2 = u := by
      have e1 : its.toArray[i]? = some u := by simpa using hu
      exact Option.some.inj (hx2.symm.trans e1)
    refine ⟨_, rfl, wpAny_letOwnedTupleGo_enum (s := { s with heap := h', toks := tk + 1 }) ho fun h'' he' sb => ?_⟩
    have hT2 : h''.get? s.heap.objs.size = some { cls := .type "tuple", data := .seq #[.int i tk, x2] } := (sb.2 _ (Nat.ne_of_gt hel)).trans hT
    have new : ObjOk X.prog X.w (upd H s.heap.objs.size (.tup [.int (i : Nat), x])) h'' s.heap.objs.size (.tup [.int (i : Nat), x]) :=
      ⟨by show 2 ≤ sizeLine; decide, [.int i tk, x2], .cons ⟨_, rfl⟩ (.cons ru .nil), ⟨_, hT2, rfl, _, rfl⟩⟩
    have I1 : Inv X pins σ (upd H s.heap.objs.size (.tup [.int (i : Nat), x])) { s with heap := h'', toks := tk + 1 } :=
      I.turnedNew (ch := [e, it]) (fun b ob hb q => (sb.2 b (fun z => hb (by simp [z]))).trans (hk b ob (fun z => hb (by simp [z])) (fun z => hb (by simp [z])) q)) hf (Nat.le_refl _) new
    refine ⟨.ref s.heap.objs.size, _, I1, rfl, ⟨_, x, rfl, I.hok.fresh (Nat.le_refl _), rfl, fun ys hy => by rw [I.tuple_inj hy hq]; exact hx⟩, ⟨⟨x2, ?_⟩, st2.1.at fun o q => (sb.2 it (Ne.symm hne)).trans q, hne⟩, fun b hb => ?_⟩
    · rw [show ((i + 1 : Nat) : Int) = (i : Int) + 1 by omega]
      exact he'
    · have hb' : b < s.heap.objs.size := by
        rcases List.mem_cons.mp hb with rfl | hb
        · exact hel
        · rw [List.mem_singleton.mp hb]
          exact hil
      rw [upd_ne (Nat.ne_of_lt hb')]
      exact (hf b hb).1
  done := by
    intro X hP hw hK hc i pins s σ H E I hf st hg
    subst hP hw hK
    obtain ⟨⟨old, he⟩, hit, hne⟩ := st
    obtain ⟨xs, hq, hx⟩ := hg
    obtain ⟨its, rv, p, hz⟩ := I.tuple hq
    have p' : s.heap.IsTuple a its.toArray := p
    obtain ⟨f0, f1, f2, f3, f4, f5⟩ := hf it (by simp)
    have hl := rv.length
    obtain rfl : i = its.toArray.size := by simp; omega
    exact wpAny_pyNext_enum_endD (Draws.tuple (A := X.A.in1) (I.ok.hd hc) it a (tup_ne hit p') its.toArray) he ⟨hit, p'⟩ fun h' eb => ⟨rfl, I.turned (t' := s.toks) (fun b o hb q => eb b o hb q) f0 f1 f3 f4 f5⟩
  self := fun A i s Q E st h => let ⟨⟨_, he⟩, _⟩ := st; wpAny_pyIter_enum he h
def iEnumT (K : PySem.W.Frag) (ta : TA) : TI := fun σ H R => ta σ H fun vs H1 => ∃ a xs, vs = [.ref a] ∧ SqT K H1 a xs ∧ R (ItE K a) H1
theorem pi_enumT {X : Cx} {e : Expr} {ta : TA} {p pos tpos : Pos} {elts : List Expr} {kk : Nat} (hg : Gl X "enumerate") (hm : X.mg "enumerate" = none) (ha : PA X [e] ta) (hs : starEach [e] X.env = [(false, eval e X.env)] := by rfl) :
    PI X (.Tuple elts kk tpos) (.Call (.Name "enumerate" p) [e] [] pos) (iEnumT X.K ta) := by
  refine ⟨fun pins s σ H R I h => Call_ (ld_blt I hg hm boot_enumerate (PyProof.Rows.callWith_type1 (thn (ha.run pos pins s σ H _ I h) fun us s1 hh => ?_) hs rfl))⟩
  obtain ⟨vs, H1, I1, r1, a, xs, rfl, hq, q⟩ := hh
  obtain rfl := Vals.ref1 r1
  obtain ⟨its, rv, p', hz⟩ := I1.tuple hq
  refine enum_tup p' fun h' he hit hk => wpAny_pyIter_enum he ?_
  have I2 : Inv X pins σ H1 { s1 with heap := h' } := I1.kept (t' := s1.toks) hk
  refine ⟨s1.heap.objs.size + 1, [s1.heap.objs.size + 1, s1.heap.objs.size], _, _, H1, rfl, I2, turn_enumT a (s1.heap.objs.size + 1) s1.heap.objs.size, ⟨⟨.none, he⟩, hit, Nat.succ_ne_self _⟩, fun b hb => ?_, q⟩
  have hle : s1.heap.objs.size ≤ b := by
    rcases List.mem_cons.mp hb with rfl | hb
    · exact Nat.le_succ _
    · rw [List.mem_singleton.mp hb]
      exact Nat.le_refl _
  exact I1.fpOk hle (I1.hok.fresh hle)
theorem walk_enumT {K : PySem.W.Frag} {a : Addr} {xs : List V} : Walk (ItE K a) xs.length (fun H => SqT K H a xs) (YPair (fun i => some (.int (i : Nat))) (fun i => xs[i]?)) :=
  ⟨fun i _ hi q => ⟨xs, xs[i], q, by simp [hi]⟩, fun _ q => ⟨xs, q, rfl⟩, fun i H v H' _ q y => y.elim fun T y => y.elim fun x y => ⟨T, .int (i : Nat), x, y.1, y.2.1, y.2.2.1, rfl, y.2.2.2 xs q⟩⟩
end KX

set_option Elab.async false
set_option maxRecDepth 100000
set_option maxHeartbeats 2000000
/-! Nested data on the abstract heap: it stays while what is tracked stays; bounds of its text. -/
namespace KX
open PySem PySem.Spec PyProof.Rows L2
theorem sqT_same {K : PySem.W.Frag} {H H' : Hp} {a : Addr} {xs : List V} (s : Same H H') (h : SqT K H a xs) : SqT K H' a xs := by
  rcases h with (h | ⟨o, h⟩) | h
  · exact .inl (.inl (s _ _ h))
  · exact .inl (.inr ⟨o, s _ _ h⟩)
  · exact .inr h
mutual
theorem dp_same {K : PySem.W.Frag} {H H' : Hp} (s : Same H H') : ∀ (d : PyData) (v : V), Dp K H v d → Dp K H' v d
  | .none, _, .non => .non
  | .bool _, _, .bl b => .bl b
  | .int _, _, .int i => .int i
  | .str _, _, .str x => .str x
  | .list ds, _, .lst hS ha => .lst (s.seq hS) (dps_same s ds _ ha)
  | .tuple ds, _, .tup hS ha => .tup (sqT_same s hS) (dps_same s ds _ ha)
  | .dict _, _, h => nomatch h
theorem dps_same {K : PySem.W.Frag} {H H' : Hp} (s : Same H H') : ∀ (ds : List PyData) (vs : List V), DpAll K H vs ds → DpAll K H' vs ds
  | [], _, .nil => .nil
  | d :: ds, _, .cons h hs => .cons (dp_same s d _ h) (dps_same s ds _ hs)
end
/-- what may be shown in little room -/
structure Small (d : PyData) (k n : Nat) : Prop where
  sh : d.showable = true
  nd : d.hasDict = false
  dp : d.depth ≤ k
  ln : d.shown.length ≤ n
/-- v is small data on H -/
def Good (K : PySem.W.Frag) (H : Hp) (v : V) : Prop := ∃ d, Dp K H v d ∧ Small d 2 100
theorem Good.same {K : PySem.W.Frag} {H H' : Hp} {v : V} (s : Same H H') (h : Good K H v) : Good K H' v := let ⟨d, h1, h2⟩ := h; ⟨d, dp_same s d v h1, h2⟩
theorem good_int {K : PySem.W.Frag} {H : Hp} {i : Int} (h : i.natAbs < 10 ^ 30) : Good K H (.int i) := by
  refine ⟨.int i, .int i, ⟨decide_eq_true ?_, rfl, Nat.zero_le _, ?_⟩⟩
  · have h2 : i.natAbs < 2 ^ 100 := Nat.lt_trans h (by decide)
    exact Nat.lt_trans (PySem.Flt.log2_lt_of (by decide) h2) (by decide)
  · have q := int_text_length_le10 (k := 30) (by decide) h
    show (Str.ofString (toString i)).length ≤ 100
    rw [PySem.ofString_length]
    omega
theorem textFrom_le {m : Nat} : ∀ (ts : List Str) (k : Nat) (acc : Str), (∀ t ∈ ts, t.length ≤ m) → (textFrom k acc ts).length ≤ acc.length + ts.length * (m + 2)
  | [], k, acc, _ => Nat.le_add_right _ _
  | t :: r, k, acc, h => by
    have q := textFrom_le r (k + 1) (acc ++ (if k > 0 then ", " else "" : String) ++ t) (fun u hu => h u (List.mem_cons_of_mem _ hu))
    have ht := h t List.mem_cons_self
    have e : (acc ++ (if k > 0 then ", " else "" : String) ++ t).length ≤ acc.length + 2 + t.length := by
      rw [Str.length_append, Str.length_append]
      have z : ((if k > 0 then ", " else "" : String) : Str).length ≤ 2 := by
        split <;> decide
      omega
    have f : (t :: r).length * (m + 2) = r.length * (m + 2) + (m + 2) := by rw [List.length_cons, Nat.succ_mul]
    show (textFrom (k + 1) _ r).length ≤ _
    omega
theorem listText_le {m : Nat} {ts : List Str} (h : ∀ t ∈ ts, t.length ≤ m) : (listText ts).length ≤ ts.length * (m + 2) + 2 := by
  have q := textFrom_le ts 0 ("[" : String) h
  unfold listText
  rw [Str.length_append]
  have e1 : (("[" : String) : Str).length = 1 := by decide
  have e2 : (("]" : String) : Str).length = 1 := by decide
  omega
theorem shownAll_mem : ∀ {ds : List PyData} {t : Str}, t ∈ PyData.shownAll ds → ∃ d ∈ ds, t = d.shown
  | [], _, h => nomatch h
  | d :: r, t, h => by
    rcases List.mem_cons.mp (show t ∈ d.shown :: PyData.shownAll r from h) with h | h
    · exact ⟨d, List.mem_cons_self, h⟩
    · obtain ⟨e, he, q⟩ := shownAll_mem h
      exact ⟨e, List.mem_cons_of_mem _ he, q⟩
theorem shownAll_len : ∀ ds : List PyData, (PyData.shownAll ds).length = ds.length
  | [] => rfl
  | d :: r => congrArg (· + 1) (shownAll_len r)
theorem small_all {k n : Nat} : ∀ {ds : List PyData}, (∀ d ∈ ds, Small d k n) → PyData.showableAll ds = true ∧ PyData.hasDictAll ds = false ∧ PyData.depthAll ds ≤ k
  | [], _ => ⟨rfl, rfl, Nat.zero_le _⟩
  | d :: r, h => by
    obtain ⟨h1, h2, h3⟩ := small_all (ds := r) fun e he => h e (List.mem_cons_of_mem _ he)
    have z := h d List.mem_cons_self
    refine ⟨?_, ?_, ?_⟩
    · show (d.showable && PyData.showableAll r) = true
      rw [z.sh, h1]
      rfl
    · show (d.hasDict || PyData.hasDictAll r) = false
      rw [z.nd, h2]
      rfl
    · exact Nat.max_le.mpr ⟨z.dp, h3⟩
/-- a list of small data is small, one deeper -/
theorem small_list {k n m : Nat} {ds : List PyData} (h : ∀ d ∈ ds, Small d k n) (hm : ds.length * (n + 2) + 2 ≤ m) : Small (.list ds) (k + 1) m := by
  obtain ⟨h1, h2, h3⟩ := small_all h
  refine ⟨h1, h2, Nat.succ_le_succ h3, Nat.le_trans (listText_le (m := n) fun t ht => ?_) (by rw [shownAll_len]; exact hm)⟩
  obtain ⟨d, hd, rfl⟩ := shownAll_mem ht
  exact (h d hd).ln
end KX

set_option Elab.async false
set_option maxRecDepth 100000
set_option maxHeartbeats 2000000
/-! Nested data: its type, what isinstance says of it; items of it; small walks. -/
namespace KX
open PySem PySem.Spec PyProof.Rows L2
def tyD : PyData → String
  | .none => "NoneType"
  | .bool _ => "bool"
  | .int _ => "int"
  | .str _ => "str"
  | .list _ => "list"
  | .tuple _ => "tuple"
  | .dict _ => "dict"
def isIntD : PyData → Bool
  | .int _ => true
  | _ => false
def isBoolD : PyData → Bool
  | .bool _ => true
  | _ => false
def isStrD : PyData → Bool
  | .str _ => true
  | _ => false
def isTupD : PyData → Bool
  | .tuple _ => true
  | _ => false
def isLstD : PyData → Bool
  | .list _ => true
  | _ => false
theorem dp_ty {K : PySem.W.Frag} {H : Hp} {v : V} {d : PyData} (h : Dp K H v d) : TyX K H v (.type (tyD d)) := by
  cases h with
  | non => exact .base .non
  | bl b => exact .base (.bl b)
  | int i => exact .base (.int i)
  | str z => exact .base (.str z)
  | tup h _ =>
    rcases h with h | ⟨o, its, n, h1, h2, _⟩
    · rcases h with h | ⟨o, h⟩
      · exact .base (.tup h)
      · exact .fTuple h
    · exact .kTuple h1 h2
  | lst h _ =>
    rcases h with h | ⟨o, its, n, h1, h2, _⟩
    · rcases h with h | ⟨o, h⟩
      · exact .base (.lst h)
      · exact .base (.frz h)
    · exact .kList h1 h2
theorem kit_int {K : PySem.W.Frag} (d : PyData) : PySem.W.kitOne K (.type (tyD d)) (.type "int") = some (isIntD d || isBoolD d) := by cases d <;> kernel_rfl
theorem kit_bool {K : PySem.W.Frag} (d : PyData) : PySem.W.kitOne K (.type (tyD d)) (.type "bool") = some (isBoolD d) := by cases d <;> kernel_rfl
theorem kit_str {K : PySem.W.Frag} (d : PyData) : PySem.W.kitOne K (.type (tyD d)) (.type "str") = some (isStrD d) := by cases d <;> kernel_rfl
theorem kit_tup {K : PySem.W.Frag} (d : PyData) : PySem.W.kitOne K (.type (tyD d)) (.type "tuple") = some (isTupD d) := by cases d <;> kernel_rfl
theorem kit_lst {K : PySem.W.Frag} (d : PyData) : PySem.W.kitOne K (.type (tyD d)) (.type "list") = some (isLstD d) := by cases d <;> kernel_rfl
theorem kit_seq {K : PySem.W.Frag} (d : PyData) : PySem.W.kitAny K (.type (tyD d)) [.type "list", .type "tuple"] = some (isLstD d || isTupD d) := by
  unfold PySem.W.kitAny PySem.W.kitAny PySem.W.kitAny
  rw [kit_lst, kit_tup]
  cases d <;> rfl
theorem ite2' {b : Bool} {A B : Prop} (h1 : b = true → A) (h2 : b = false → B) : if b = true then A else B := by
  cases b
  · exact h2 rfl
  · exact h1 rfl
theorem same_put {H : Hp} {p : Addr} {o : HO} (hp : H p = none) : Same H (upd H p o) := fun x u e => (upd_ne (ne_of_none e hp)).trans e
theorem sqL_same {K : PySem.W.Frag} {H H' : Hp} {a : Addr} {xs : List V} (s : Same H H') (h : SqL K H a xs) : SqL K H' a xs := by
  rcases h with (h | ⟨o, h⟩) | h
  · exact .inl (.inl (s _ _ h))
  · exact .inl (.inr ⟨o, s _ _ h⟩)
  · exact .inr h
theorem dpall_len {K : PySem.W.Frag} {H : Hp} : ∀ {xs : List V} {ds : List PyData}, DpAll K H xs ds → xs.length = ds.length
  | _, _, .nil => rfl
  | _, _, .cons _ h => congrArg (· + 1) (dpall_len h)
theorem dpall_at {K : PySem.W.Frag} {H : Hp} : ∀ {xs : List V} {ds : List PyData} {i : Nat} {x : V}, DpAll K H xs ds → xs[i]? = some x → ∃ d, ds[i]? = some d ∧ Dp K H x d
  | _, _, 0, _, .cons h _, e => ⟨_, rfl, by cases e; exact h⟩
  | _, _, i + 1, _, .cons _ t, e => dpall_at (i := i) t e
theorem dpall_snoc {K : PySem.W.Frag} {H : Hp} {x : V} {d : PyData} (h : Dp K H x d) : ∀ {xs : List V} {ds : List PyData}, DpAll K H xs ds → DpAll K H (xs ++ [x]) (ds ++ [d])
  | _, _, .nil => .cons h .nil
  | _, _, .cons h1 t => .cons h1 (dpall_snoc h t)
theorem dpall_app {K : PySem.W.Frag} {H : Hp} {ys : List V} {es : List PyData} (k : DpAll K H ys es) : ∀ {xs : List V} {ds : List PyData}, DpAll K H xs ds → DpAll K H (xs ++ ys) (ds ++ es)
  | _, _, .nil => k
  | _, _, .cons h1 t => .cons h1 (dpall_app k t)
theorem dpall_take {K : PySem.W.Frag} {H : Hp} : ∀ {xs : List V} {ds : List PyData} (i : Nat), DpAll K H xs ds → DpAll K H (xs.take i) (ds.take i)
  | _, _, 0, _ => .nil
  | _, _, _ + 1, .nil => .nil
  | _, _, i + 1, .cons h t => .cons h (dpall_take i t)
theorem dpall_drop {K : PySem.W.Frag} {H : Hp} : ∀ {xs : List V} {ds : List PyData} (i : Nat), DpAll K H xs ds → DpAll K H (xs.drop i) (ds.drop i)
  | _, _, 0, h => h
  | _, _, _ + 1, .nil => .nil
  | _, _, i + 1, .cons _ t => dpall_drop i t
theorem dpall_set {K : PySem.W.Frag} {H : Hp} {x : V} {d : PyData} (h : Dp K H x d) : ∀ {xs : List V} {ds : List PyData} (i : Nat), DpAll K H xs ds → DpAll K H (xs.set i x) (ds.set i d)
  | _, _, _, .nil => .nil
  | _, _, 0, .cons _ t => .cons h t
  | _, _, i + 1, .cons h1 t => .cons h1 (dpall_set h i t)
theorem dpall_erase {K : PySem.W.Frag} {H : Hp} : ∀ {xs : List V} {ds : List PyData} (i : Nat), DpAll K H xs ds → DpAll K H (xs.eraseIdx i) (ds.eraseIdx i)
  | _, _, _, .nil => .nil
  | _, _, 0, .cons _ t => t
  | _, _, i + 1, .cons h t => .cons h (dpall_erase i t)
theorem dpall_3 {K : PySem.W.Frag} {H : Hp} : ∀ {xs : List V} {ds : List PyData}, DpAll K H xs ds → xs.length = 3 → ∃ x y z a b c, xs = [x, y, z] ∧ ds = [a, b, c] ∧ Dp K H x a ∧ Dp K H y b ∧ Dp K H z c
  | _, _, .cons h1 (.cons h2 (.cons h3 .nil)), _ => ⟨_, _, _, _, _, _, rfl, rfl, h1, h2, h3⟩
  | _, _, .nil, e => nomatch e
  | _, _, .cons _ .nil, e => nomatch e
  | _, _, .cons _ (.cons _ .nil), e => nomatch e
  | _, _, .cons _ (.cons _ (.cons _ (.cons _ _))), e => absurd e (by simp)
/-- a text's data -/
theorem dpall_strs {K : PySem.W.Frag} {H : Hp} : ∀ zs : List Str, DpAll K H (zs.map V.str) (zs.map PyData.str)
  | [] => .nil
  | z :: zs => .cons (.str z) (dpall_strs zs)
/-- one of two walks -/
theorem pi_or {X : Cx} {tg e : Expr} {A B : TI} (ha : PI X tg e A) (hb : PI X tg e B) : PI X tg e (fun σ H R => A σ H R ∨ B σ H R) :=
  ⟨fun pins s σ H R I h => h.elim (ha.run pins s σ H R I) (hb.run pins s σ H R I)⟩
theorem take_at {α : Type} {xs : List α} {i : Nat} {x : α} (h : xs[i]? = some x) : xs.take (i + 1) = xs.take i ++ [x] := by
  rw [List.take_add_one, h]
  rfl
theorem ixN_nat {n j : Nat} (h : j < n) : ixN n (j : Int) = some j := by
  unfold ixN
  rw [if_pos (by omega), if_pos (by omega)]
  rfl
theorem len_is {α : Type} {xs : List α} (j : Nat) (c : decide (V.int ((xs.length : Nat) : Int) = V.int (j : Int)) = true) : xs.length = j := by
  have q := V.int.inj (of_decide_eq_true c)
  omega
theorem len_not {α : Type} {xs : List α} (j : Nat) (c : decide (V.int ((xs.length : Nat) : Int) = V.int (j : Int)) = false) : xs.length ≠ j := fun e => of_decide_eq_false c (by rw [e])
theorem len_isN {α : Type} {xs : List α} (j : Nat) (c : (!decide (V.int ((xs.length : Nat) : Int) = V.int (j : Int))) = false) : xs.length = j := by
  refine len_is j ?_
  revert c
  cases decide (V.int ((xs.length : Nat) : Int) = V.int (j : Int)) <;> intro q
  · cases q
  · rfl
theorem len_notN {α : Type} {xs : List α} (j : Nat) (c : (!decide (V.int ((xs.length : Nat) : Int) = V.int (j : Int))) = true) : xs.length ≠ j := by
  rintro e
  rw [e, decide_eq_true rfl] at c
  cases c
theorem lay_all {k : Nat} : ∀ {ds : List PyData}, (∀ d ∈ ds, d.canLay0 = true ∧ d.depth ≤ k) → PyData.canLayAll0 ds = true ∧ PyData.depthAll ds ≤ k
  | [], _ => ⟨rfl, Nat.zero_le _⟩
  | d :: ds, h => by
    obtain ⟨h1, h2⟩ := h d List.mem_cons_self
    obtain ⟨h3, h4⟩ := lay_all fun e he => h e (List.mem_cons_of_mem _ he)
    refine ⟨?_, ?_⟩
    · show (d.canLay0 && PyData.canLayAll0 ds) = true
      rw [h1, h3]
      rfl
    · show max d.depth (PyData.depthAll ds) ≤ k
      exact Nat.max_le.mpr ⟨h2, h4⟩
theorem list_shaped {ds : List PyData} (h : ∀ d ∈ ds, d.canLay0 = true ∧ d.depth ≤ 60) : SeqAt.shaped (.list ds) = true := by
  obtain ⟨h1, h2⟩ := lay_all h
  unfold SeqAt.shaped
  refine Bool.and_eq_true_iff.mpr ⟨h1, decide_eq_true ?_⟩
  show PyData.depthAll ds + 1 ≤ 64
  omega
end KX

set_option Elab.async false
set_option maxRecDepth 100000
set_option maxHeartbeats 2000000
/-! Names: texts of 1 to 8 letters a to z. -/
namespace KX
open PySem PySem.Spec PyProof.Rows L2
def isLet (c : Nat) : Bool := decide (97 ≤ c) && decide (c ≤ 122)
def isNm (z : Str) : Bool := decide (1 ≤ z.length) && decide (z.length ≤ 8) && z.cps.toList.all isLet
def nmD : PyData → Bool
  | .str z => isNm z
  | _ => false
def okN (d : PyData) : Prop := ∀ z, d = .str z → z.length ≤ 1000
theorem letters_eq : (("abcdefghijklmnopqrstuvwxyz" : Str)).cps.toList = [97, 98, 99, 100, 101, 102, 103, 104, 105, 106, 107, 108, 109, 110, 111, 112, 113, 114, 115, 116, 117, 118, 119, 120, 121, 122] := by decide +kernel
theorem mem_26 (c : Nat) : c ∈ ([97, 98, 99, 100, 101, 102, 103, 104, 105, 106, 107, 108, 109, 110, 111, 112, 113, 114, 115, 116, 117, 118, 119, 120, 121, 122] : List Nat) ↔ (97 ≤ c ∧ c ≤ 122) := by
  constructor
  · intro h
    have k : ∀ x ∈ ([97, 98, 99, 100, 101, 102, 103, 104, 105, 106, 107, 108, 109, 110, 111, 112, 113, 114, 115, 116, 117, 118, 119, 120, 121, 122] : List Nat), 97 ≤ x ∧ x ≤ 122 := by decide
    exact k c h
  · rintro ⟨h1, h2⟩
    obtain ⟨k, rfl⟩ : ∃ k, c = 97 + k := ⟨c - 97, by omega⟩
    have hk : k < 26 := by omega
    have z : ∀ k : Fin 26, 97 + k.val ∈ ([97, 98, 99, 100, 101, 102, 103, 104, 105, 106, 107, 108, 109, 110, 111, 112, 113, 114, 115, 116, 117, 118, 119, 120, 121, 122] : List Nat) := by decide
    exact z ⟨k, hk⟩
theorem mem_letters (c : Nat) : decide (c ∈ (("abcdefghijklmnopqrstuvwxyz" : Str)).cps.toList) = isLet c := by
  rw [letters_eq]
  unfold isLet
  by_cases h : 97 ≤ c ∧ c ≤ 122
  · rw [decide_eq_true h.1, decide_eq_true h.2]
    exact decide_eq_true ((mem_26 c).mpr h)
  · have e : (decide (97 ≤ c) && decide (c ≤ 122)) = false := by
      by_cases h1 : 97 ≤ c
      · rw [decide_eq_true h1, decide_eq_false (fun h2 => h ⟨h1, h2⟩)]
        rfl
      · rw [decide_eq_false h1]
        rfl
    rw [e]
    exact decide_eq_false fun q => h ((mem_26 c).mp q)
theorem one_lt (a b : Nat) : ([a] < [b]) ↔ a < b := by
  constructor
  · intro h
    rcases List.cons_lt_cons_iff.mp h with h | ⟨rfl, h⟩
    · exact h
    · exact absurd h (List.lt_irrefl _)
  · intro h
    exact List.cons_lt_cons_iff.mpr (.inl h)
theorem lo_let (c : Nat) : (!decide ((⟨#[c]⟩ : Str).cps.toList < (("a" : Str)).cps.toList)) = decide (97 ≤ c) := by
  have e : (("a" : Str)).cps.toList = [97] := by decide +kernel
  rw [e]
  show (!decide ([c] < [97])) = _
  by_cases h : 97 ≤ c
  · rw [decide_eq_true h, decide_eq_false (fun q => by have := (one_lt _ _).mp q; omega)]
    rfl
  · rw [decide_eq_false h, decide_eq_true ((one_lt _ _).mpr (by omega))]
    rfl
theorem hi_let (c : Nat) : (!decide ((("z" : Str)).cps.toList < (⟨#[c]⟩ : Str).cps.toList)) = decide (c ≤ 122) := by
  have e : (("z" : Str)).cps.toList = [122] := by decide +kernel
  rw [e]
  show (!decide ([122] < [c])) = _
  by_cases h : c ≤ 122
  · rw [decide_eq_true h, decide_eq_false (fun q => by have := (one_lt _ _).mp q; omega)]
    rfl
  · rw [decide_eq_false h, decide_eq_true ((one_lt _ _).mpr (by omega))]
    rfl
theorem nm_off {d : PyData} (h : isStrD d = false) : nmD d = false := by cases d <;> first | rfl | cases h
theorem nm_short {z : Str} (h : z.length < 1) : isNm z = false := by
  unfold isNm
  rw [decide_eq_false (by omega)]
  rfl
theorem nm_long {z : Str} (h : z.length > 8) : isNm z = false := by
  unfold isNm
  rw [decide_eq_false (show ¬ z.length ≤ 8 by omega), Bool.and_false]
  rfl
theorem nm_mid {z : Str} (h1 : ¬ z.length < 1) (h2 : ¬ z.length > 8) : isNm z = z.cps.toList.all isLet := by
  unfold isNm
  rw [decide_eq_true (by omega), decide_eq_true (by omega)]
  rfl
/-- what is promised of is_name -/
def spName (K : PySem.W.Frag) : Sp := fun vs H Q _ => ∃ (x : V) (d : PyData), vs = [x] ∧ Dp K H x d ∧ okN d ∧ ∀ H', Same H H' → Q (.bl (nmD d)) H'
def spInt (K : PySem.W.Frag) : Sp := fun vs H Q _ => ∃ (x : V) (d : PyData), vs = [x] ∧ Dp K H x d ∧ Q (.bl (isIntD d)) H
theorem str_dec (u v : Str) : decide (V.str u = V.str v) = decide (u = v) := by
  by_cases h : u = v
  · rw [h, decide_eq_true rfl, decide_eq_true rfl]
  · rw [decide_eq_false (fun q => h (V.str.inj q)), decide_eq_false h]
theorem str_dec' (u v : Str) : decide (V.str u = V.str v) = decide (v = u) := by
  rw [str_dec]
  by_cases h : u = v
  · rw [h]
  · rw [decide_eq_false h, decide_eq_false (fun q => h q.symm)]
end KX

set_option Elab.async false
set_option maxRecDepth 100000
set_option maxHeartbeats 2000000
/-! A walk over a thing that is a list or a tuple. -/
namespace KX
open PySem PySem.Spec PyProof.Rows L2
section
variable {X : Cx} {tg : Expr}
def Sq (K : PySem.W.Frag) (H : Hp) (a : Addr) (xs : List V) : Prop := SqL K H a xs ∨ SqT K H a xs
theorem Sq.same {K : PySem.W.Frag} {H H' : Hp} {a : Addr} {xs : List V} (s : Same H H') (h : Sq K H a xs) : Sq K H' a xs := h.imp (sqL_same s) (sqT_same s)
def iSeq (K : PySem.W.Frag) (tl : TE) : TI := fun σ H R => tl σ H fun x H1 => ∃ a xs, x = .ref a ∧ Sq K H1 a xs ∧ ∀ J, Walk J xs.length (fun G => Same H1 G) (YAt xs) → R J H1
theorem pi_seq {l : Expr} {tl : TE} (hl : PE X l tl) : PI X tg l (iSeq X.K tl) := by
  refine ⟨fun pins s σ H R I h => ?_⟩
  refine thn (hl.run pins s σ H _ I h) fun v s1 ⟨x, H1, I1, r1, q1⟩ => ?_
  obtain ⟨a, xs, e, hq, q⟩ := q1
  subst e
  cases r1
  rcases hq with hq | hq
  · obtain ⟨its, rv, p, hz⟩ := I1.list hq
    refine wpAny_pyIter_list p.isList ?_
    refine ⟨s1.heap.objs.size, [s1.heap.objs.size], _, _, H1, rfl, I1.kept (t' := s1.toks) fun b o e => Heap.get?_push_of_some _ e, turn_list a _, ⟨_, Heap.get?_push_size _ rfl, rfl, rfl⟩, fun b hb => ?_, q _ (walk_list.mono (fun G z => sqL_same z hq) fun _ _ _ _ _ _ y => y)⟩
    have e : b = s1.heap.objs.size := by simpa using hb
    subst e
    exact I1.fpOk (Nat.le_refl _) (I1.hok.fresh (Nat.le_refl _))
  · obtain ⟨its, rv, p, hz⟩ := I1.tuple hq
    refine wpAny_pyIter_tuple (show s1.heap.IsTuple a its.toArray from p) ?_
    refine ⟨s1.heap.objs.size, [s1.heap.objs.size], _, _, H1, rfl, I1.kept (t' := s1.toks) fun b o e => Heap.get?_push_of_some _ e, turn_tuple a _, ⟨_, Heap.get?_push_size _ rfl, rfl, rfl⟩, fun b hb => ?_, q _ (walk_tup.mono (fun G z => sqT_same z hq) fun _ _ _ _ _ _ y => y)⟩
    have e : b = s1.heap.objs.size := by simpa using hb
    subst e
    exact I1.fpOk (Nat.le_refl _) (I1.hok.fresh (Nat.le_refl _))
def iEnumS (K : PySem.W.Frag) (ta : TA) : TI := fun σ H R => ta σ H fun vs H1 => ∃ a xs, vs = [.ref a] ∧ Sq K H1 a xs ∧ ∀ J, Walk J xs.length (fun G => Same H1 G) (YPair (fun i => some (.int (i : Nat))) (fun i => xs[i]?)) → R J H1
theorem pi_enumS {e : Expr} {ta : TA} {p pos tpos : Pos} {elts : List Expr} {kk : Nat} (hg : Gl X "enumerate") (hm : X.mg "enumerate" = none) (ha : PA X [e] ta) (hs : starEach [e] X.env = [(false, eval e X.env)] := by rfl) :
    PI X (.Tuple elts kk tpos) (.Call (.Name "enumerate" p) [e] [] pos) (iEnumS X.K ta) := by
  refine ⟨fun pins s σ H R I h => Call_ (ld_blt I hg hm boot_enumerate (PyProof.Rows.callWith_type1 (thn (ha.run pos pins s σ H _ I h) fun us s1 hh => ?_) hs rfl))⟩
  obtain ⟨vs, H1, I1, r1, a, xs, rfl, hq, q⟩ := hh
  obtain rfl := Vals.ref1 r1
  rcases hq with hq | hq
  · obtain ⟨its, rv, p', hz⟩ := I1.list hq
    refine call_enumerate_list p'.isList fun h' he hit hsz hk => wpAny_pyIter_enum he ?_
    have I2 : Inv X pins σ H1 { s1 with heap := h' } := I1.kept (t' := s1.toks) hk
    refine ⟨s1.heap.objs.size + 1, [s1.heap.objs.size + 1, s1.heap.objs.size], _, _, H1, rfl, I2, turn_enum a (s1.heap.objs.size + 1) s1.heap.objs.size, ⟨⟨.none, he⟩, hit, Nat.succ_ne_self _⟩, fun b hb => ?_, q _ (walk_enum.mono (fun G z => sqL_same z hq) fun _ _ _ _ _ _ y => y)⟩
    have hle : s1.heap.objs.size ≤ b := by
      rcases List.mem_cons.mp hb with rfl | hb
      · exact Nat.le_succ _
      · rw [List.mem_singleton.mp hb]
        exact Nat.le_refl _
    exact I1.fpOk hle (I1.hok.fresh hle)
  · obtain ⟨its, rv, p', hz⟩ := I1.tuple hq
    refine enum_tup p' fun h' he hit hk => wpAny_pyIter_enum he ?_
    have I2 : Inv X pins σ H1 { s1 with heap := h' } := I1.kept (t' := s1.toks) hk
    refine ⟨s1.heap.objs.size + 1, [s1.heap.objs.size + 1, s1.heap.objs.size], _, _, H1, rfl, I2, turn_enumT a (s1.heap.objs.size + 1) s1.heap.objs.size, ⟨⟨.none, he⟩, hit, Nat.succ_ne_self _⟩, fun b hb => ?_, q _ (walk_enumT.mono (fun G z => sqT_same z hq) fun _ _ _ _ _ _ y => y)⟩
    have hle : s1.heap.objs.size ≤ b := by
      rcases List.mem_cons.mp hb with rfl | hb
      · exact Nat.le_succ _
      · rw [List.mem_singleton.mp hb]
        exact Nat.le_refl _
    exact I1.fpOk hle (I1.hok.fresh hle)
/-- xs[i] of a list or a tuple -/
theorem atI_len {α β : Type} (f : α → β) (xs : List α) (i : Int) : atI (xs.map f) i = (atI xs i).map f := by
  unfold atI
  rw [List.length_map]
  cases ixN xs.length i with
  | none => rfl
  | some j =>
    show (xs.map f)[j]? = (xs[j]?).map f
    rw [List.getElem?_map]
end
end KX
namespace KX
open PySem PySem.Spec PyProof.Rows L2
theorem ix_of {K : PySem.W.Frag} {H : Hp} {a : Addr} {xs : List V} {i : Int} {v : V} {Q : VK} (h : Sq K H a xs) (e : atI xs i = some v) (q : Q v H) : rIx K (.ref a) (.int i) H Q :=
  h.elim (fun h => .inl ⟨a, xs, i, v, rfl, rfl, h, e, q⟩) fun h => .inr (.inl ⟨a, xs, i, v, rfl, rfl, h, e, q⟩)
/-- the place ahead of i, around -/
def pred (n i : Nat) : Nat := if i = 0 then n - 1 else i - 1
theorem pred_lt {n i : Nat} (h : i < n) : pred n i < n := by unfold pred; split <;> omega
theorem ixN_pred {n i : Nat} (h : i < n) : ixN n ((i : Int) - 1) = some (pred n i) := by
  unfold ixN pred
  by_cases h0 : i = 0
  · subst h0
    rw [if_neg (by omega), if_pos (by omega), if_pos rfl]
    congr 1
    omega
  · rw [if_pos (by omega), if_pos (by omega), if_neg h0]
    congr 1
    omega
theorem atI_pred {α : Type} {xs : List α} {i : Nat} (h : i < xs.length) : atI xs ((i : Int) - 1) = xs[pred xs.length i]? := by
  unfold atI
  rw [ixN_pred h]
  rfl
theorem range_at {n i : Nat} : (List.range n).take n = List.range n := by rw [List.take_of_length_le (by rw [List.length_range]; exact Nat.le_refl _)]
theorem map_range_succ {α : Type} (f : Nat → α) (i : Nat) : (List.range (i + 1)).map f = (List.range i).map f ++ [f i] := by
  rw [List.range_succ, List.map_append]
  rfl
theorem walk_rng {n : Nat} : Walk (Itr 0 n) n (fun _ => True) (fun i H x H' => H' = H ∧ x = .int ((i : Nat) : Int)) :=
  walk_range.mono (fun _ h => h) fun i H x H' _ _ y => ⟨y.1, by rw [y.2]; show V.int (0 + (i : Int)) = _; rw [Int.zero_add]⟩
def rLenQ (K : PySem.W.Frag) : List V → Hp → VK → Prop := fun xs H Q => ∃ p ys, xs = [.ref p] ∧ (SqL K H p ys ∨ SqT K H p ys) ∧ Q (.int ys.length) H
end KX

set_option Elab.async false
set_option maxRecDepth 100000
set_option maxHeartbeats 2000000
/-! len, bool, abs, in, ==, >>, + of own instances, by own methods; max(.., default=). -/
namespace KX
open PySem PySem.Spec PySem.Calls PyProof.Rows L2
section
variable {X : Cx} {pins : List (Addr × Obj)} {σ : L2.St} {H : Hp} {s : Shared} {CX : CXT} {k : Nat} {f C : Addr} {fd : FuncData} {ps : List Str} {sp : Sp} {E : XK}
/-- f called by a built-in, one call deep -/
theorem run_in1 {us : List Value} {vs : List V} {Q : VK} (F : FnOk X.prog X.w X.K X.mg X.base CX k f fd ps sp) (hr : Room (k + 1) X.A) (hb : Binds X.K fd ps []) (hx : Passes CX X E) (I : Inv X pins σ H s) (r : Vals vs us) (h : sp vs H Q E) :
    wpAny (model X.prog X.w) X.A.in1 (call (.ref f) us) (EP X pins σ Q) X.xe s := by
  have hl : (us ++ []).length = ps.length := by
    rw [List.append_nil, ← r.length]
    exact F.len _ _ _ _ h
  have hbi := hb s us I.kIn hl
  rw [List.append_nil] at hbi
  refine wpAny_call (codeAny_mono (F.run X.A.in1 X.stack s H ⟨us, []⟩ us vs Q E hr.in1 I.env0.in1 hbi r h) fun res s' z => ?_)
  match res, z with
  | .error e, z => exact hx pins σ H s e s' I z
  | .ok (.ret u), z => exact I.after z
  | .ok .next, z => exact False.elim z
  | .ok .brk, z => exact False.elim z
  | .ok .cont, z => exact False.elim z
theorem run_in0 {us : List Value} {vs : List V} {Q : VK} (F : FnOk X.prog X.w X.K X.mg X.base CX k f fd ps sp) (hr : Room k X.A) (hb : Binds X.K fd ps []) (hx : Passes CX X E) (I : Inv X pins σ H s) (r : Vals vs us) (h : sp vs H Q E) :
    wpAny (model X.prog X.w) X.A (call (.ref f) us) (EP X pins σ Q) X.xe s :=
  run_fn (dvs := []) F hr hb .nil hx I r (by rw [List.append_nil]; exact h)
/-- an instance of C that H tracks -/
abbrev InsT (H : Hp) (a C : Addr) : Prop := ∃ dx fs, H a = some (.ins C dx fs)
theorem insT_at (I : Inv X pins σ H s) {a : Addr} (h : InsT H a C) : ∃ ox od, PySem.W.InstAt s.heap a ox C od := by
  obtain ⟨dx, fs, h⟩ := h
  obtain ⟨mA, O, _⟩ := ins_get I.hok h
  obtain ⟨od, J, _⟩ := O.look
  exact ⟨_, _, J⟩
/-- len(o) -/
theorem call_lenO (m : Meth X.K C "__len__" f) (F : FnOk X.prog X.w X.K X.mg X.base CX k f fd ps sp) (hr : Room (k + 1) X.A) (hb : Binds X.K fd ps []) (hx : Passes CX X E) :
    CallR X (.builtin "len") (fun xs H Q => ∃ a, xs = [.ref a] ∧ InsT H a C ∧ sp [.ref a] H (fun v H' => ∃ n : Nat, v = .int n ∧ n < 2 ^ 62 ∧ Q (.int n) H') E) := by
  intro pins s σ H xs us Q I r h
  obtain ⟨a, rfl, hi, q⟩ := h
  obtain rfl := Vals.ref1 r
  obtain ⟨ox, od, J⟩ := insT_at I hi
  obtain ⟨m', fr⟩ := I.fr
  refine PySem.W.len_K fr I.mod.kin J m.at_ m.fn (wpAny_mono (run_in1 F hr hb hx I r q) (fun u s' z => ?_) fun _ _ z => z)
  obtain ⟨v, H', I', rv, n, rfl, hn, q'⟩ := z
  obtain ⟨t, rfl⟩ := rv
  exact ⟨⟨by omega, by omega⟩, .int n, H', I'.tok _, ⟨_, rfl⟩, q'⟩
/-- the truth of o -/
theorem truthy_O (m : Meth X.K C "__bool__" f) (F : FnOk X.prog X.w X.K X.mg X.base CX k f fd ps sp) (hr : Room k X.A) (hb : Binds X.K fd ps []) (hx : Passes CX X E) {a : Addr} {Q : Bool → Hp → Prop} (I : Inv X pins σ H s) (hi : InsT H a C)
    (q : sp [.ref a] H (fun v H' => ∃ b, v = .bl b ∧ Q b H') E) : wpAny (model X.prog X.w) X.A (truthy (.ref a)) (TP X pins σ Q) X.xe s := by
  obtain ⟨ox, od, J⟩ := insT_at I hi
  obtain ⟨m', fr⟩ := I.fr
  refine PySem.W.truthy_K fr I.mod.kin J m.at_ m.fn (wpAny_mono (run_in0 F hr hb hx I (us := [.ref a]) (vs := [.ref a]) (.cons rfl .nil) q) (fun u s' z => ?_) fun _ _ z => z)
  obtain ⟨v, H', I', rv, b, rfl, q'⟩ := z
  cases (show u = Value.bool b from rv)
  exact ⟨H', I', q'⟩
/-- x in o -/
theorem op_inO (m : Meth X.K C "__contains__" f) (F : FnOk X.prog X.w X.K X.mg X.base CX k f fd ps sp) (hr : Room k X.A) (hb : Binds X.K fd ps []) (hx : Passes CX X E) :
    OpR X (compareOp .In) (fun x y H Q => ∃ a, y = .ref a ∧ InsT H a C ∧ sp [.ref a, x] H (fun v H' => ∃ b, v = .bl b ∧ Q (.bl b) H') E) := by
  intro pins s σ H x y v u Q I rx ry h
  obtain ⟨a, rfl, hi, q⟩ := h
  cases (show u = Value.ref a from ry)
  obtain ⟨ox, od, J⟩ := insT_at I hi
  obtain ⟨m', fr⟩ := I.fr
  refine PySem.W.in_K fr I.mod.kin J m.at_ m.fn (wpAny_mono (run_in0 F hr hb hx I (us := [.ref a, v]) (vs := [.ref a, x]) (.cons rfl (.cons rx .nil)) q) (fun u s' z => ?_) fun _ _ z => z)
  obtain ⟨v', H', I', rv, b, rfl, q'⟩ := z
  cases (show u = Value.bool b from rv)
  exact wpAny_truthy_bool ⟨.bl b, H', I', rfl, q'⟩
theorem op_notInO (m : Meth X.K C "__contains__" f) (F : FnOk X.prog X.w X.K X.mg X.base CX k f fd ps sp) (hr : Room k X.A) (hb : Binds X.K fd ps []) (hx : Passes CX X E) :
    OpR X (compareOp .NotIn) (fun x y H Q => ∃ a, y = .ref a ∧ InsT H a C ∧ sp [.ref a, x] H (fun v H' => ∃ b, v = .bl b ∧ Q (.bl (!b)) H') E) := by
  intro pins s σ H x y v u Q I rx ry h
  obtain ⟨a, rfl, hi, q⟩ := h
  cases (show u = Value.ref a from ry)
  obtain ⟨ox, od, J⟩ := insT_at I hi
  obtain ⟨m', fr⟩ := I.fr
  refine PySem.W.notIn_K fr I.mod.kin J m.at_ m.fn (wpAny_mono (run_in0 F hr hb hx I (us := [.ref a, v]) (vs := [.ref a, x]) (.cons rfl (.cons rx .nil)) q) (fun u s' z => ?_) fun _ _ z => z)
  obtain ⟨v', H', I', rv, b, rfl, q'⟩ := z
  cases (show u = Value.bool b from rv)
  exact wpAny_truthy_bool ⟨.bl (!b), H', I', rfl, q'⟩
/-- abs(o) -/
theorem call_absO (m : Meth X.K C "__abs__" f) (F : FnOk X.prog X.w X.K X.mg X.base CX k f fd ps sp) (hr : Room (k + 1) X.A) (hb : Binds X.K fd ps []) (hx : Passes CX X E) :
    CallR X (.builtin "abs") (fun xs H Q => ∃ a, xs = [.ref a] ∧ InsT H a C ∧ sp [.ref a] H Q E) := by
  intro pins s σ H xs us Q I r h
  obtain ⟨a, rfl, hi, q⟩ := h
  obtain rfl := Vals.ref1 r
  obtain ⟨ox, od, J⟩ := insT_at I hi
  refine call_function_entry kind_abs plain_abs entry_abs (args_abs _) ?_
  unfold Builtin.«abs»
  refine wpAny_bind (m := oneArg "abs" _) (wpAny_pure ?_)
  refine wpAny_bind (m := callSpecial? (.ref a) (Str.ofString "__abs__")) ?_
  refine PySem.W.special_fn I.kIn J m.at_ (beq_iff_eq.mp m.fn) ?_
  exact wpAny_mono (run_in1 F hr hb hx I r q) (fun u s' z => wpAny_pure ⟨u, rfl, z⟩) fun _ _ z => z
/-- max(xs, default=d), of whole numbers -/
def rMaxD (K : PySem.W.Frag) : List V → List V → Hp → VK → Prop := fun xs zs H Q => ∃ (a : Addr) (ns : List Int) (d : Int), xs = [.ref a] ∧ zs = [.int d] ∧ SqL K H a (ns.map V.int) ∧
  Q (.int (match ns with | [] => d | n :: r => r.foldl max n)) H
theorem cr_maxD (hc : X.calm = true) (hu : X.A.units + 64 < cLine) : CallRK X (.builtin "max") [Str.ofString "default"] (rMaxD X.K) := by
  intro pins s σ H xs zs us ws Q I r rz h
  obtain ⟨a, ns, d, rfl, rfl, hs, q⟩ := h
  obtain rfl := Vals.ref1 r
  obtain ⟨ud, rfl, td, rfl⟩ := vals1 rz
  obtain ⟨its, rv, hl, _⟩ := I.list hs
  obtain ⟨as, ra⟩ : ∃ as, ReadsAll s.heap its (ns.map PyData.int) as := by
    clear hs hl q
    rename_i hlen
    clear hlen
    induction ns generalizing its with
    | nil => cases rv; exact ⟨_, .nil⟩
    | cons n r ih =>
      cases rv with
      | cons h t =>
        obtain ⟨tk, rfl⟩ := h
        obtain ⟨as, ra⟩ := ih _ t
        exact ⟨_, .cons (.int _ _) ra⟩
  have dep : PyData.depthAll (ns.map PyData.int) = 0 := by
    clear ra hs q rv hl
    rename_i hlen
    clear hlen
    induction ns with
    | nil => rfl
    | cons n r ih => exact Nat.le_zero.mp (Nat.max_le.mpr ⟨Nat.le_refl _, Nat.le_of_eq ih⟩)
  refine PySem.W.max_list_default (I.ok.hd hc) hl.isList (by simpa using ra) ⟨fun x hx y hy => by
    obtain ⟨i, _, rfl⟩ := List.mem_map.mp hx
    obtain ⟨j, _, rfl⟩ := List.mem_map.mp hy
    rfl, fun x hx => by
    obtain ⟨i, _, rfl⟩ := List.mem_map.mp hx
    exact nofun⟩ (by rw [dep]; omega) (fun e h' tk kp => ?_) (fun y ys i v h' tk bs e hv hr kp => ?_)
  · have e0 : ns = [] := List.map_eq_nil_iff.mp e
    subst e0
    exact ⟨.int d, H, I.kept (t' := tk) kp, ⟨_, rfl⟩, q⟩
  · cases ns with
    | nil => cases e
    | cons n r =>
      cases e
      rw [PySem.W.maxD_ints] at hr
      cases hr
      exact ⟨.int _, H, I.kept (t' := tk) kp, ⟨_, rfl⟩, q⟩
/-- bool(o) -/
theorem bool_in {prog : Program} {w : World} (x : Value) : MeetsIn prog w (Builtin.«bool.__new__» ⟨[.type "bool", x], []⟩) (fun A R s => wpAny (model prog w) A.in1 (truthy x) (fun b s' => R (.ok (.ret (.bool b))) s') (fun e s' => R (.error e) s') s) :=
  .of_wp fun A R s h => by
    have f1 := F.conv_sub_bool
    obtain ⟨hp, g, d, tk, os⟩ := s
    repeat (any_goals (first | assumption | (with_reducible refine wpAny_bind (wpAny_mono h (fun b s' z => ?_) fun _ _ e => e)) | wp_step))
    exact ⟨_, rfl, z⟩
theorem op_eqO (m : Meth X.K C "__eq__" f) (F : FnOk X.prog X.w X.K X.mg X.base CX k f fd ps sp) (hr : Room k X.A) (hb : Binds X.K fd ps []) (hx : Passes CX X E) (hu : X.A.units < cLine) :
    OpR X (compareOp .Eq) (fun x y H Q => ∃ (a : Addr) (t : Value), x = .ref a ∧ InsT H a C ∧ TyX X.K H y t ∧ PySem.W.notFirst X.K C t = true ∧ sp [.ref a, y] H (fun v H' => ∃ b, v = .bl b ∧ Q (.bl b) H') E) := by
  intro pins s σ H x y v u Q I rx ry h
  obtain ⟨a, t, rfl, hi, ty, hn, q⟩ := h
  cases (show v = Value.ref a from rx)
  obtain ⟨ox, od, J⟩ := insT_at I hi
  obtain ⟨m', fr⟩ := I.fr
  obtain ⟨P, Z, p, _⟩ := kit_of I ry ty
  show wpAny _ _ (richCompare .Eq (.ref a) u) _ _ _
  refine PySem.W.cmp_K (op := .Eq) hu fr I.mod.kin J (Z.ty _ _ I.kIn p) hn m.at_ m.fn (wpAny_mono (run_in0 F hr hb hx I (us := [.ref a, u]) (vs := [.ref a, y]) (.cons rfl (.cons ry .nil)) q) (fun w s' z => ?_) fun _ _ z => z)
  obtain ⟨v', H', I', rv, b, rfl, q'⟩ := z
  cases (show w = Value.bool b from rv)
  exact ⟨.bl b, H', I', rfl, q'⟩
/-- bool(x), by the truth of x -/
theorem bool_of {x : Value} {Q : Bool → Hp → Prop} {R : VK} (h : wpAny (model X.prog X.w) X.A.in1.in1 (truthy x) (TP X pins σ Q) X.xe s) (q : ∀ b H', Q b H' → R (.bl b) H') : wpAny (model X.prog X.w) X.A (call (.type "bool") [x]) (EP X pins σ R) X.xe s :=
  callType_newIn F.called_bool F.newNe_bool (F.typeCall_bool_1 x) (F.newCall_bool_1 x) (fun obj => F.args_object_init_2 obj x) F.entry_bool_new (bool_in x) (wpAny_mono h (fun b s' z => by
    obtain ⟨H', I', q'⟩ := z
    exact ⟨PySem.typeIs_bool _ _, .bl b, H', I', rfl, q b H' q'⟩) fun _ _ z => z)
theorem run_in22 {us : List Value} {vs : List V} {Q : VK} (F : FnOk X.prog X.w X.K X.mg X.base CX k f fd ps sp) (hr : Room (k + 2) X.A) (hb : Binds X.K fd ps []) (hx : Passes CX X E) (I : Inv X pins σ H s) (r : Vals vs us) (h : sp vs H Q E) :
    wpAny (model X.prog X.w) X.A.in1.in1 (call (.ref f) us) (EP X pins σ Q) X.xe s := by
  have hl : (us ++ []).length = ps.length := by
    rw [List.append_nil, ← r.length]
    exact F.len _ _ _ _ h
  have hbi := hb s us I.kIn hl
  rw [List.append_nil] at hbi
  refine wpAny_call (codeAny_mono (F.run X.A.in1.in1 X.stack s H ⟨us, []⟩ us vs Q E hr.in1.in1 I.env0.in1.in1 hbi r h) fun res s' z => ?_)
  match res, z with
  | .error e, z => exact hx pins σ H s e s' I z
  | .ok (.ret u), z => exact I.after z
  | .ok .next, z => exact False.elim z
  | .ok .brk, z => exact False.elim z
  | .ok .cont, z => exact False.elim z
/-- bool(o) -/
theorem call_boolO (m : Meth X.K C "__bool__" f) (F : FnOk X.prog X.w X.K X.mg X.base CX k f fd ps sp) (hr : Room (k + 2) X.A) (hb : Binds X.K fd ps []) (hx : Passes CX X E) :
    CallR X (.type "bool") (fun xs H Q => ∃ a, xs = [.ref a] ∧ InsT H a C ∧ sp [.ref a] H (fun v H' => ∃ b, v = .bl b ∧ Q (.bl b) H') E) := by
  intro pins s σ H xs us Q I r h
  obtain ⟨a, rfl, hi, q⟩ := h
  obtain rfl := Vals.ref1 r
  obtain ⟨ox, od, J⟩ := insT_at I hi
  obtain ⟨m', fr⟩ := I.fr
  refine bool_of (Q := fun b H' => Q (.bl b) H') (PySem.W.truthy_K fr I.mod.kin J m.at_ m.fn (wpAny_mono (run_in22 F hr hb hx I r q) (fun u s' z => ?_) fun _ _ z => z)) fun b H' q => q
  obtain ⟨v, H', I', rv, b, rfl, q'⟩ := z
  cases (show u = Value.bool b from rv)
  exact ⟨H', I', q'⟩
/-- bool(t), t a tuple -/
theorem call_boolT : CallR X (.type "bool") (fun xs H Q => ∃ (a : Addr) (zs : List V), xs = [.ref a] ∧ SqT X.K H a zs ∧ Q (.bl (!zs.isEmpty)) H) := by
  intro pins s σ H xs us Q I r h
  obtain ⟨a, zs, rfl, hq, q⟩ := h
  obtain rfl := Vals.ref1 r
  obtain ⟨its, rv, pl, hz⟩ := I.tuple hq
  have hl := line63
  have hlen := rv.length
  exact bool_of (Q := fun b H' => Q (.bl b) H') (truthy_tuple pl (by simp only [List.size_toArray]; omega) ⟨H, I.tok _, by rw [isEmpty_of rv]; exact q⟩) fun b H' q => q
end
end KX

set_option Elab.async false
set_option maxRecDepth 100000
set_option maxHeartbeats 2000000
namespace KX
open PySem PySem.Spec PyProof.Rows L2
theorem call_isEdT {X : Cx} {a D d : Addr} {oe : Obj} {pn : List (Addr × Obj)} {bmB : List Value} {nid : String} (T : ExK X.K D bmB nid) (sp : PySem.W.specialIn X.K (.builtin "object.__class__") "__get__" = some (some (.builtin "getset_descriptor.__get__"))) (tk : PySem.W.takesIn X.K (.builtin "object.__class__") = some true)
    (hz : Zc (.ref D) (some d) oe) (hf : ∃ vs, oe.data = .fields vs) : CallR (X.suite a ((a, oe) :: pn)) (.builtin "isinstance") (fun xs H Q => (∃ fs, H d = some (.xd fs)) ∧ ∃ (tp : Addr) (cs : List V) (us : List Value) (b : Bool), xs = [.ref a, .ref tp] ∧ H tp = some (.tup cs) ∧ Paired ClsV cs us ∧ PySem.W.kitAny X.K (.ref D) us = some b ∧ Q (.bl b) H) := by
  intro pins s σ H xs us Q I r h
  obtain ⟨⟨fs, hd⟩, tp, cs, ws, b, rfl, hT, k, e, q⟩ := h
  obtain ⟨u1, u2, rfl, r1, r2⟩ := vals2 r
  cases (show u2 = Value.ref tp from r2)
  cases (show u1 = Value.ref a from r1)
  obtain ⟨_, its, rv, o, h1, h2, n, h3⟩ := (show ObjOk X.prog X.w H s.heap tp (.tup cs) from I.hok tp _ hT)
  obtain rfl := ClsV.all k rv
  obtain ⟨oc, od2, dt, sl⟩ := o
  simp only at h2 h3
  subst h2 h3
  obtain ⟨hget, _⟩ := I.pin (a, oe) (List.mem_append.mpr (.inl List.mem_cons_self))
  obtain ⟨vs, hv⟩ := hf
  have hx : ObjOk X.prog X.w H s.heap d (.xd fs) := I.hok d _ hd
  obtain ⟨mA, hns, rel⟩ := hx
  obtain ⟨od, ho, _⟩ := lookIn_ns hns
  obtain ⟨cd, hc, _⟩ := PySem.W.any_some T.hd
  have J : PySem.W.InstAt s.heap a oe D (some od) := ⟨hget, hz.1, by unfold PySem.W.notCls; rw [hv] <;> rfl, by rw [hz.2]; exact ho⟩
  exact PySem.W.kia_tup (PySem.W.kitx_exc (od := some od) (by rw [hc] <;> rfl) T.ga T.gg T.exC T.ha sp tk T.hm) I.kIn J h1 e (fun z => nomatch z) fun tk' => ⟨.bl b, H, I.tok tk', rfl, q⟩
theorem pss_only {X : Cx} {st : List Stmt} {p : Prop} {t : TS} (h : p → PSs X st t) : PSs X st (fun D σ H => p ∧ t D σ H) := ⟨fun pins s σ H D I q => (h q.1).run pins s σ H D I q.2⟩
theorem pss_no {X : Cx} {st : List Stmt} : PSs X st (fun _ _ _ => False) := ⟨fun _ _ _ _ _ _ q => q.elim⟩
def excBody : List Stmt → List Stmt
  | .Try _ (.ExceptHandler _ _ b _ :: _) _ _ _ :: _ => b
  | _ => []
/-- a suite told at the place where it is entered -/
def tsAt (X : Cx) (st : List Stmt) (a : Addr) (cls : Value) (d : Option Addr) : TS := fun D σ H => ∃ t, (∀ (oe : Obj) (pn : List (Addr × Obj)), L2N.Zn cls d oe → (∃ vs, oe.data = .fields vs) → PSs (X.suite a ((a, oe) :: pn)) st t) ∧ t D σ H
theorem tsAt_ok {X : Cx} {st : List Stmt} {a : Addr} {cls : Value} {d : Option Addr} {oe : Obj} {pn : List (Addr × Obj)} (hz : L2N.Zn cls d oe) (hf : ∃ vs, oe.data = .fields vs) : PSs (X.suite a ((a, oe) :: pn)) st (tsAt X st a cls d) :=
  ⟨fun pins s σ H D I q => (q.choose_spec.1 oe pn hz hf).run pins s σ H D I q.choose_spec.2⟩
theorem takesN0 {X : Cx} : L2N.Takes X (fun _ _ _ _ => False) := fun _ _ ⟨_, _, _, _, _, _, _, _, _, _, _, _, _, _, _, _, w⟩ => w.elim
end KX

set_option Elab.async false
set_option maxRecDepth 100000
set_option maxHeartbeats 2000000
/-! Defs called in an except suite that look at the exception itself: the promise is made for the pinned object p. -/
namespace KX
open PySem PySem.Spec PyProof.Rows L2 L2H
structure FnP0 (p : Addr × Obj) (P : Program) (w : World) (K : PySem.W.Frag) (mg : Str → Option Value) (base : Heap) (CX : CXT) (k : Nat) (f : Addr) (fd : FuncData) (ps : List Str) (sp : Sp) : Prop where
  len : ∀ vs H Q E, sp vs H Q E → vs.length = ps.length
  run : ∀ (A : Around) (outer : List Env) (s : Shared) (H : Hp) (args : Args) (us : List Value) (vs : List V) (Q : VK) (E : XK), RoomH k A → Hot1 A p → PinOk outer H s p → Env0 P w K mg base A outer s H → BindsTo s fd args (ps.zip us) → Vals vs us → sp vs H Q E →
    codeAny (model P w) A (.call (.ref f) args) (CR CX outer P w H s Q E) s
section
variable {p : Addr × Obj} {P : Program} {w : World} {K : PySem.W.Frag} {mg : Str → Option Value} {base : Heap} {CX : CXT} {k : Nat} {f : Addr} {x qual : Str} {params : Arguments} {body : List Stmt} {scope : Scope} {dvs : List V} {kws : List (Str × V)} {fd : FuncData} {N ps : List Str} {sp : Sp}
theorem fnP0_ok (F : FunD K x qual params body scope dvs kws f fd) (S : FnScope N ps scope) (len : ∀ vs H Q E, sp vs H Q E → vs.length = ps.length)
    (hb : ∀ (cdv : Value) (A : Around) (outer : List Env) (s : Shared) (H : Hp) (vs : List V) (Q : VK) (E : XK), Hot1 A p → RoomH k (A.deeper (envOfC qual scope s.heap.objs.size f cdv)) → sp vs H Q E →
      ∃ t, PSs (cxH CX P w K mg base N qual scope f cdv A outer s H E p) body t ∧ t { nx := fun _ H' => Q .non H', rt := Q } (start N vs) H) : FnP0 p P w K mg base CX (k + 1) f fd ps sp := by
  obtain ⟨oc, od, dV, kV, doc, pm, an, cdv, ct, osl, rfl, lk, hcd, _, _⟩ := F.ex
  refine ⟨len, fun A outer s H args us vs Q E hr hot hpin e0 bd r hsp => ?_⟩
  have hl := len _ _ _ _ hsp
  have KI : K.In s.heap := e0.mod.kin.keeps fun b o e => (e0.bs b o e).1
  have nl : s.heap.NoLimit := e0.mod.nolimit.keeps fun b o e => (e0.bs b o e).1
  have kinds : ∀ y ∈ ps.zip us, scope.names.lookup y.1 = some .local ∨ (scope.names.lookup y.1 = some .cell ∧ ((cellsFrom (s.heap.objs.size + 1) scope.names []).lookup y.1).isSome = true) := by
    rintro ⟨n, v⟩ hy
    exact (S.par n (List.of_mem_zip hy).1).imp id fun q => ⟨q, PySem.W.cellsFrom_some _ _ _ (.inl q)⟩
  refine codeAny_call_function hr.depth (KI _ _ lk) rfl S.co S.gen rfl (PySem.W.codeRec_of KI hcd) (bd _ _ _ _ ?_)
  refine wpAny_newFunctionEnv_cells S.kind kinds fun env he s1 xx => ?_
  subst he
  refine ⟨nl.keeps xx.toInCall.keep, codeAny_func ?_⟩
  obtain ⟨t, ht, hq⟩ := hb cdv A outer s H vs Q E hot (hr.deeper _) hsp
  have I : Inv (cxH CX P w K mg base N qual scope f cdv A outer s H E p) [] (L2.start N vs) H s1 := inv_startH S hpin e0 hl r xx
  refine wpAny_mono (ht.run [] s1 (L2.start N vs) H _ I hq) (fun fl s' hs => ?_) fun e s' hs => hs
  cases fl with
  | ret u =>
    obtain ⟨v, σ', H', J, rv, q⟩ := hs
    exact ⟨v, H', J.os, J.bare, J.base, J.hok, rv, q⟩
  | next =>
    obtain ⟨σ', H', J, q⟩ := hs
    exact ⟨V.non, H', J.os, J.bare, J.base, J.hok, rfl, q⟩
  | brk => exact False.elim hs.choose_spec.choose_spec.2
  | cont => exact False.elim hs.choose_spec.choose_spec.2
end
section
variable {X : Cx} {CX : CXT} {k : Nat} {f : Addr} {fd : FuncData} {ps : List Str} {sp : Sp} {E : L2.St → XK} {x : Str} {q pos : Pos} {e : Expr} {es : List Expr} {t : TA} {p : Addr × Obj}
theorem pe_callP0 (F : FnP0 p X.prog X.w X.K X.mg X.base CX k f fd ps sp) (hr : RoomH k X.A) (hot : Hot1 X.A p) (hp : p ∈ X.pn) (hg : Gl X x) (hm : X.mg x = some (.ref f)) (hk : PySem.W.keepIn X.K (.ref f) = true) (hb : Binds X.K fd ps []) (hx : ∀ σ, PassesAt CX X σ (E σ))
    (ha : PA X (e :: es) t) (hdb : (x == ("__debug__" : Str)) = false := by decide) (he : starEach (e :: es) X.env = (false, eval e X.env) :: starEach es X.env := by rfl) (hpl : (backTo pos (starEach es X.env)).any (·.1) = false := by rfl) :
    PE X (.Call (.Name x q) (e :: es) [] pos) (tCallS sp E t) := by
  refine ⟨fun pins s σ H Q I h => ?_⟩
  refine wpAny_Call_Name_kw (ld_glob I hg hm ?_ hdb)
  refine PySem.W.callWith_K (h₀ := X.base) I.ok.mod.kin hk (thn (ha.run pos pins s σ H _ I h) fun us s1 ⟨vs, H1, I1, r, hsp⟩ => ⟨I1.kIn, ?_⟩) he hpl
  have hl : us.length = ps.length := by rw [← r.length]; exact F.len _ _ _ _ hsp
  have b := hb s1 us I1.kIn (by rw [List.append_nil]; exact hl)
  rw [List.append_nil] at b
  have P1 := I1.pin p (List.mem_append_left _ hp)
  have hpin : PinOk X.stack H1 s1 p := ⟨P1.1, P1.2.1, fun hm => (List.mem_cons.mp (I1.stkSub p.1 hm)).elim P1.2.2.1 P1.2.2.2.1, P1.2.2.2.2⟩
  refine wpAny_call (codeAny_mono (F.run X.A X.stack s1 H1 ⟨us, []⟩ us vs Q (E σ) hr hot hpin I1.env0 b r hsp) fun r s' hq => ?_)
  cases r with
  | error e => exact hx σ pins H1 s1 e s' I1 hq
  | ok fl =>
    cases fl with
    | ret u => exact I1.after hq
    | next => exact False.elim hq
    | brk => exact False.elim hq
    | cont => exact False.elim hq
/-- isinstance of the pinned exception, of a class -/
theorem call_isEdG {a D d : Addr} {oe : Obj} {bmB : List Value} {nid : String} (hp : (a, oe) ∈ X.pn) (T : ExK X.K D bmB nid) (sp : PySem.W.specialIn X.K (.builtin "object.__class__") "__get__" = some (some (.builtin "getset_descriptor.__get__"))) (tk : PySem.W.takesIn X.K (.builtin "object.__class__") = some true)
    (hz : Zc (.ref D) (some d) oe) (hf : ∃ vs, oe.data = .fields vs) : CallR X (.builtin "isinstance") (fun xs H Q => (∃ fs, H d = some (.xd fs)) ∧ rIsE X.K D a xs H Q) := by
  intro pins s σ H xs us Q I r h
  obtain ⟨⟨fs, hd⟩, c, cv, b, rfl, hcv, e, q⟩ := h
  obtain ⟨u1, u2, rfl, rx, rt⟩ := vals2 r
  cases (show u1 = Value.ref a from rx)
  obtain rfl := hcv _ rt
  obtain ⟨hget, _⟩ := I.pin (a, oe) (List.mem_append_left _ hp)
  obtain ⟨vs, hv⟩ := hf
  obtain ⟨mA, hns, rel⟩ := (show ObjOk X.prog X.w H s.heap d (.xd fs) from I.hok d _ hd)
  obtain ⟨od, ho, _⟩ := lookIn_ns hns
  obtain ⟨cd, hc, _⟩ := PySem.W.any_some T.hd
  have J : PySem.W.InstAt s.heap a oe D (some od) := ⟨hget, hz.1, by unfold PySem.W.notCls; rw [hv] <;> rfl, by rw [hz.2]; exact ho⟩
  exact PySem.W.kia_one (PySem.W.kitx_exc (od := some od) (by rw [hc] <;> rfl) T.ga T.gg T.exC T.ha sp tk T.hm) I.kIn J e (fun z => nomatch z) fun tk' => ⟨.bl b, H, I.kept (t' := tk') fun _ _ z => z, rfl, q⟩
end
end KX

set_option Elab.async false
set_option maxRecDepth 100000
set_option maxHeartbeats 2000000
/-! What the written part says of an own exception class that stores: with its answers to isinstance and except. -/
namespace KX
open PySem PySem.Spec PyProof.Rows L2 He StX
structure Er (K : PySem.W.Frag) (c : Str) (bm : List Value) (nid : String) (flds : List Str) (own : List (Str × Bool)) (blt : List (String × Bool)) (exs : List (Str × Bool)) : Prop where
  T : ExK K (ga K c) bm nid
  X : XfC K (ga K c)
  ty : PySem.W.typeIn K (.ref (ga K c)) = some (.type "type")
  no : ∀ f ∈ flds, PySem.W.findIn K (.ref (ga K c)) f = some none
  iC : PySem.W.findIn K (.ref (ga K c)) "__init__" = some (some (.ref (ma K (ga K c) "__init__")))
  fn : PySem.W.isFn K (.ref (ma K (ga K c) "__init__")) = true
  kO : ∀ x ∈ own, PySem.W.kitOne K (.ref (ga K c)) (.ref (ga K x.1)) = some x.2
  kB : ∀ x ∈ blt, PySem.W.kitOne K (.ref (ga K c)) (.type x.1) = some x.2
  ex : ∀ x ∈ exs, PySem.W.exmOne K (.ref (ga K c)) (.ref (ga K x.1)) = some x.2
  sp : PySem.W.specialIn K (.builtin "object.__class__") "__get__" = some (some (.builtin "getset_descriptor.__get__"))
  tk : PySem.W.takesIn K (.builtin "object.__class__") = some true
def erB (K : PySem.W.Frag) (c : Str) (bm : List Value) (nid : String) (flds : List Str) (own : List (Str × Bool)) (blt : List (String × Bool)) (exs : List (Str × Bool)) : Bool :=
  let C := ga K c
  exkB K C bm nid && (xfB K C && (decide (PySem.W.typeIn K (.ref C) = some (.type "type")) && ((flds.all fun f => eqO (PySem.W.findIn K (.ref C) f) (some none)) && (eqO (PySem.W.findIn K (.ref C) "__init__") (some (some (.ref (ma K C "__init__")))) && (PySem.W.isFn K (.ref (ma K C "__init__"))
  && ((own.all fun x => decide (PySem.W.kitOne K (.ref C) (.ref (ga K x.1)) = some x.2)) && ((blt.all fun x => decide (PySem.W.kitOne K (.ref C) (.type x.1) = some x.2)) && ((exs.all fun x => decide (PySem.W.exmOne K (.ref C) (.ref (ga K x.1)) = some x.2))
  && (eqO (PySem.W.specialIn K (.builtin "object.__class__") "__get__") (some (some (.builtin "getset_descriptor.__get__"))) && decide (PySem.W.takesIn K (.builtin "object.__class__") = some true))))))))))
theorem er_of {K : PySem.W.Frag} {c : Str} {bm : List Value} {nid : String} {flds : List Str} {own : List (Str × Bool)} {blt : List (String × Bool)} {exs : List (Str × Bool)} (h : erB K c bm nid flds own blt exs = true) : Er K c bm nid flds own blt exs := by
  unfold erB at h
  obtain ⟨h1, h⟩ := Bool.and_eq_true_iff.mp h
  obtain ⟨h2, h⟩ := Bool.and_eq_true_iff.mp h
  obtain ⟨h3, h⟩ := Bool.and_eq_true_iff.mp h
  obtain ⟨h4, h⟩ := Bool.and_eq_true_iff.mp h
  obtain ⟨h5, h⟩ := Bool.and_eq_true_iff.mp h
  obtain ⟨h6, h⟩ := Bool.and_eq_true_iff.mp h
  obtain ⟨h7, h⟩ := Bool.and_eq_true_iff.mp h
  obtain ⟨h8, h⟩ := Bool.and_eq_true_iff.mp h
  obtain ⟨h9, h⟩ := Bool.and_eq_true_iff.mp h
  obtain ⟨h10, h11⟩ := Bool.and_eq_true_iff.mp h
  exact ⟨exkB_ok h1, xfB_ok h2, of_decide_eq_true h3, fun f hf => eqO_ok (List.all_eq_true.mp h4 f hf), eqO_ok h5, h6, fun x hx => of_decide_eq_true (List.all_eq_true.mp h7 x hx), fun x hx => of_decide_eq_true (List.all_eq_true.mp h8 x hx),
    fun x hx => of_decide_eq_true (List.all_eq_true.mp h9 x hx), eqO_ok h10, of_decide_eq_true h11⟩
end KX

set_option Elab.async false
set_option maxRecDepth 100000
set_option maxHeartbeats 0
namespace K11
open PySem PySem.Spec PyProof.Rows L2 He KX
def top (i : Nat) : Stmt := PySem.Challenge.pw_rowsinplace_k11_wrong_arguments.main.body.getD i (.Pass ⟨0, 0, 0, 0⟩)
def vT : List Value := [.type "ValueError", .type "Exception", .type "BaseException", .type "object"]
def frees : List Str := ["isinstance", "int", "bool", "str", "len", "all", "list", "dict", "range", "max", "min", "sorted", "abs", "tuple", "repr"]
def gls : List Str := (["PlaceError", "MissingError", "BadOperation", "BadCall", "OPERATIONS", "ARGUMENTS", "NEW", "is_integer", "is_name", "arguments_of", "apply", "check_call", "_fits", "_last_place", "_taken_out", "_index", "_exchange"] : List Str) ++ (["_law_bag", "_law_draw", "_law_of", "_law_name", "_law_names", "_law_lists", "_law_all", "_law_needs", "_law_home", "_law_call", "_law_after", "_law_is_name", "_law_odd", "_law_expected", "_law_outcome", "_law_unknown", "law"] : List Str)
abbrev ErBO (K : PySem.W.Frag) : Prop := Er K "BadOperation" vT "ValueError.__new__" ["op"] [("PlaceError", true)] [] [("BadCall", false), ("BadOperation", true)]
abbrev ErBC (K : PySem.W.Frag) : Prop := Er K "BadCall" vT "ValueError.__new__" ["argument"] [("PlaceError", true), ("BadOperation", false), ("MissingError", false)] [] [("BadCall", true)]
def errB (K : PySem.W.Frag) : Bool := erB K "BadOperation" vT "ValueError.__new__" ["op"] [("PlaceError", true)] [] [("BadCall", false), ("BadOperation", true)]
  && (erB K "BadCall" vT "ValueError.__new__" ["argument"] [("PlaceError", true), ("BadOperation", false), ("MissingError", false)] [] [("BadCall", true)] && decide (PySem.W.kitAny K (.ref (ga K "BadCall")) [.ref (ga K "BadOperation"), .ref (ga K "MissingError")] = some false))
def ops : List Str := ["put", "add", "take", "move", "send", "top", "bottom", "up", "down", "swap"]
def isRef : Option (Option Value) → Bool
  | some (some (.ref _)) => true
  | _ => false
def args : List (Str × List Str) := [("put", ["x", "to", "k"]), ("add", ["x", "to"]), ("take", ["x"]), ("move", ["x", "to", "k"]), ("send", ["x", "to"]), ("top", ["x"]), ("bottom", ["x"]), ("up", ["x"]), ("down", ["x"]), ("swap", ["x", "y"])]
/-- the table of arguments: a tuple of texts for each operation -/
def argB (K : PySem.W.Frag) (o : Str × List Str) : Bool := match PySem.W.nsIn K (ga K "ARGUMENTS") o.1 with
  | some (some (.ref a)) => tupB K a o.2
  | _ => false
def conB (K : PySem.W.Frag) : Bool := tupB K (ga K "OPERATIONS") ops && (tupB K (ga K "NEW") ["put", "add"] && args.all fun o => argB K o)
def chk (K : PySem.W.Frag) : Bool := errB K && (conB K && ((frees.all fun x => (Fa.free x).ok K) && (gls.all fun x => (Fa.glo x).ok K)))
def initD (i : Nat) (c : Str) : DefD := ⟨(c, some "__init__"), "__init__", c ++ ".__init__", defArgs (inClass (top i) 0), defBody (inClass (top i) 0), defScope (inClass (top i) 0), [], []⟩
def fnD (i : Nat) (x : Str) : DefD := ⟨(x, none), x, x, defArgs (top i), defBody (top i), defScope (top i), [], []⟩
def fn : List DefD := [initD 6 "BadOperation", initD 7 "BadCall", fnD 1 "is_integer", fnD 2 "is_name", fnD 12 "arguments_of", ⟨("apply", none), "apply", "apply", defArgs (top 13), defBody (top 13), defScope (top 13), [], [("x", .non), ("y", .non), ("to", .non), ("k", .non)]⟩, fnD 14 "check_call", fnD 15 "_fits", fnD 16 "_last_place", fnD 17 "_taken_out", fnD 18 "_index", fnD 19 "_exchange", fnD 21 "_law_bag", fnD 22 "_law_draw", fnD 23 "_law_of", fnD 24 "_law_name", fnD 25 "_law_names", fnD 26 "_law_lists", fnD 27 "_law_all", fnD 28 "_law_needs", fnD 29 "_law_home", fnD 30 "_law_call", fnD 31 "_law_after", fnD 32 "_law_is_name", fnD 33 "_law_odd", fnD 34 "_law_expected", fnD 35 "_law_outcome", fnD 36 "_law_unknown", fnD 37 "law"]
def dics : List (Str × List Str) := [("ARGUMENTS", ops)]
abbrev R : PySem.W.OpenRow := PySem.W.OpenLaw.row PySem.Challenge.rw_rowsinplace_k11_wrong_arguments
abbrev hk : PySem.W.Hook := hookD 4 chk fn dics
def ob (s : PySem.W.SharedT) : (Bool × List FnW) × KeyT := lookD 4 chk fn dics (HandSHeadRun.getT s)
theorem ob_eq (s : PySem.W.SharedT) : ob s = hk.obs s.abs := lookD_eq (HandSHeadRun.getT_eq s)
def loose : List Str := (["is_integer", "is_name", "PlaceError", "MissingError", "BadOperation", "BadCall", "OPERATIONS", "ARGUMENTS", "NEW", "arguments_of", "apply", "check_call", "_fits", "_last_place", "_taken_out", "_index", "_exchange"] : List Str) ++ (["_law_bag", "_law_draw", "_law_of", "_law_name", "_law_names", "_law_lists", "_law_all", "_law_needs", "_law_home", "_law_call", "_law_after", "_law_is_name", "_law_odd", "_law_expected", "_law_outcome", "_law_unknown"] : List Str)
theorem run1 (w : World) : HandSHeadRun.RunEq R (PySem.W.view R.prog [37]) hk ob 20000 loose (setF w true) := by
  intro os
  kernel_rfl
theorem run2 (w : World) : HandSHeadRun.RunEq R (PySem.W.view R.prog [37]) hk ob 20000 loose (setF w false) := by
  intro os
  kernel_rfl
theorem run (w : World) : HandSHeadRun.RunEq R (PySem.W.view R.prog [37]) hk ob 20000 loose w := run_two run1 run2 w
end K11

set_option Elab.async false
set_option maxRecDepth 100000
set_option maxHeartbeats 2000000
namespace K11
open PySem PySem.Spec PyProof.Rows L2 KX
abbrev sBag : Stmt := top 21
abbrev sDraw : Stmt := top 22
abbrev sOf : Stmt := top 23



abbrev sLaw : Stmt := top 37
abbrev FnP (K : PySem.W.Frag) (x : Str) (st : Stmt) (f : Addr) (fd : FuncData) : Prop := FunD K x x (defArgs st) (defBody st) (defScope st) [] [] f fd
section
variable {P : Program} {w : World} {K : PySem.W.Frag} {mg : Str → Option Value} {base : Heap}
theorem scBag : FnScope ["script", "at", "cell", "digits"] ["script", "at"] (defScope sBag) := ⟨rfl, rfl, rfl, by decide +kernel, rfl, by decide +kernel, by decide +kernel⟩
theorem ok_bag {f : Addr} {fd : FuncData} (F : FnP K "_law_bag" sBag f fd) (gLen : mg "len" = none) (gAbs : mg "abs" = none) (gInt : mg "int" = none) : FnOk P w K mg base CX0 1 f fd ["script", "at"] (spBag K) := by
  refine F.ok scBag (fun vs H Q E h => ?_) (fun cdv A outer s H vs Q E hr h => ?_)
  · obtain ⟨a, ns, i, rfl, _⟩ := h
    rfl
  · obtain ⟨a, ns, i, rfl, hS, hl, hi, k⟩ := h
    refine ⟨_, PSs.nox (pss_cons (ps_set (i := 2) scBag.nd rfl (Or.inl rfl) (pe_ifExp (pt_cmpR op_lt (pv 1) (pe_callB call_len_seq (by rfl) gLen PySem.boot_len (pa_cons (pv 0) pa_nil)) (nomark _)) (pe_ix ix_list (pv 0) (pv 1) (fun _ _ => rfl)) pe_int))
      (pss_cons (ps_set (i := 3) scBag.nd rfl (Or.inl rfl) (pe_ifExp (pt_cmpR op_ge (pe_callB call_abs (by rfl) gAbs (by decide +kernel) (pa_cons (pv 2) pa_nil)) (pe_op op_pow pe_int pe_int) (nomark _)) (pe_callB call_abs (by rfl) gAbs (by decide +kernel) (pa_cons (pv 2) pa_nil)) pe_int))
      (pss_one (ps_ret (pe_lst (pa_cons (pv 3) (pa_cons (pe_op op_add (pe_op op_add (pe_op op_modN (pe_callTy call_int1 (by rfl) gInt (by decide +kernel) (pa_cons (pv 2) pa_nil)) pe_int) (pe_op op_mul pe_int (pv 1))) pe_int) (pa_cons pe_int pa_nil)))))))), ?_⟩
    have fin : ∀ (d z : Int), 0 ≤ d → ∀ (p : Addr), H p = none → Q (.ref p) (upd H p (.lst [.int d, .int (z.fmod 1152921504606846883 + 7001 * (i : Int) + 17), .int 0])) := by
      intro d z hd p hp
      obtain ⟨h1, h2⟩ := fmod_in (x := z) (y := 1152921504606846883) (by decide)
      exact k p _ hp (Kept.new hp) (fun x n => upd_ne n) ⟨d, _, 0, upd_same, hd, by omega, by omega, by decide, by decide⟩
    refine ⟨_, rfl, _, rfl, _, _, rfl, .inl hS, _, _, rfl, rfl, _, rfl, ?_⟩
    refine ite2 (fun c => ?_) (fun c => ?_)
    · have ci : i < ns.length := by
        have c' : (i : Int) < ((ns.map V.int).length : Int) := of_decide_eq_true c
        rw [List.length_map] at c'
        omega
      have hx : (ns.map V.int)[i]? = some (.int ns[i]) := by
        rw [List.getElem?_map, List.getElem?_eq_getElem ci]
        rfl
      refine ⟨_, rfl, _, rfl, _, _, _, _, rfl, rfl, hS, atI_nat hx, ?_⟩
      refine ⟨_, rfl, _, rfl, _, _, rfl, rfl, ⟨by decide, by decide, by decide⟩, _, _, rfl, rfl, _, rfl, ?_⟩
      refine ite2 (fun c2 => ?_) (fun c2 => ?_)
      · refine ⟨_, rfl, _, rfl, _, rfl, _, rfl, .inl ⟨_, rfl, _, _, rfl, rfl, (by show (1152921504606846883 : Int) ≠ 0; decide), _, rfl, _, _, rfl, rfl, .inl ⟨by decide, by decide⟩, _, _, rfl, rfl, _, _, rfl, rfl, ?_⟩⟩
        exact ⟨(by show 3 ≤ sizeLine; decide), fun p hp => fin _ _ (by split <;> omega) p hp⟩
      · refine ⟨_, rfl, _, rfl, .inl ⟨_, rfl, _, _, rfl, rfl, (by show (1152921504606846883 : Int) ≠ 0; decide), _, rfl, _, _, rfl, rfl, .inl ⟨by decide, by decide⟩, _, _, rfl, rfl, _, _, rfl, rfl, ?_⟩⟩
        exact ⟨(by show 3 ≤ sizeLine; decide), fun p hp => fin _ _ (by decide) p hp⟩
    · refine ⟨_, rfl, _, rfl, _, _, rfl, rfl, ⟨by decide, by decide, by decide⟩, _, _, rfl, rfl, _, rfl, ?_⟩
      refine ite2 (fun c2 => ?_) (fun c2 => ?_)
      · refine ⟨_, rfl, _, rfl, _, rfl, _, rfl, .inl ⟨_, rfl, _, _, rfl, rfl, (by show (1152921504606846883 : Int) ≠ 0; decide), _, rfl, _, _, rfl, rfl, .inl ⟨by decide, by decide⟩, _, _, rfl, rfl, _, _, rfl, rfl, ?_⟩⟩
        exact ⟨(by show 3 ≤ sizeLine; decide), fun p hp => fin _ _ (by split <;> omega) p hp⟩
      · refine ⟨_, rfl, _, rfl, .inl ⟨_, rfl, _, _, rfl, rfl, (by show (1152921504606846883 : Int) ≠ 0; decide), _, rfl, _, _, rfl, rfl, .inl ⟨by decide, by decide⟩, _, _, rfl, rfl, _, _, rfl, rfl, ?_⟩⟩
        exact ⟨(by show 3 ≤ sizeLine; decide), fun p hp => fin _ _ (by decide) p hp⟩
/-- if bag[0] > 0: a digit; else the next mixed number -/
theorem scDraw : FnScope ["bag", "many", "digit", "mixed"] ["bag", "many"] (defScope sDraw) := ⟨rfl, rfl, rfl, by decide +kernel, rfl, by decide +kernel, by decide +kernel⟩
theorem ok_draw {f : Addr} {fd : FuncData} (F : FnP K "_law_draw" sDraw f fd) (gInt : mg "int" = none) : FnOk P w K mg base CX0 1 f fd ["bag", "many"] spDraw := by
  refine F.ok scDraw (fun vs H Q E h => ?_) (fun cdv A outer s H vs Q E hr h => ?_)
  · obtain ⟨b, n, many, rfl, _⟩ := h
    rfl
  · obtain ⟨b, n, many, rfl, ⟨d, m, c, hb, hd, hm0, hm, hc0, hc⟩, hn, hp, hw, k⟩ := h
    refine ⟨_, PSs.nox (pss_cons (ps_if (pt_cmpR op_gt (pe_ix ix_list (pv 0) pe_int (fun _ _ => rfl)) pe_int (nomark _))
        (pss_cons (ps_set (i := 2) scDraw.nd rfl (Or.inl rfl) (pe_op op_modN (pe_callTy call_int1 (by rfl) gInt (by decide +kernel) (pa_cons (pe_ix ix_list (pv 0) pe_int (fun _ _ => rfl)) pa_nil)) (pv 1)))
        (pss_cons (ps_asg (pe_op op_fdivW (pe_ix ix_list (pv 0) pe_int (fun _ _ => rfl)) (pv 1)) (pg_sub (pv 0) pe_int set_list))
        (pss_one (ps_ret (pv 2)))))
        pss_nil)
      (pss_cons (ps_asg (pe_op op_add (pe_ix ix_list (pv 0) pe_int (fun _ _ => rfl)) pe_int) (pg_sub (pv 0) pe_int set_list))
      (pss_cons (ps_set (i := 3) scDraw.nd rfl (Or.inl rfl) (pe_op op_add (pe_op op_pow (pe_op op_add (pe_ix ix_list (pv 0) pe_int (fun _ _ => rfl)) (pe_op op_mul pe_int (pe_ix ix_list (pv 0) pe_int (fun _ _ => rfl)))) pe_int) (pe_op op_mul pe_int (pe_ix ix_list (pv 0) pe_int (fun _ _ => rfl)))))
      (pss_cons (ps_set (i := 3) scDraw.nd rfl (Or.inl rfl) (pe_op op_modN (pe_callTy call_int1 (by rfl) gInt (by decide +kernel) (pa_cons (pv 3) pa_nil)) pe_int))
      (pss_cons (ps_set (i := 3) scDraw.nd rfl (Or.inl rfl) (pe_op op_modN (pe_callTy call_int1 (by rfl) gInt (by decide +kernel) (pa_cons (pe_op op_pow (pe_op op_add (pv 3) (pe_op op_mul pe_int (pe_ix ix_list (pv 0) pe_int (fun _ _ => rfl)))) pe_int) pa_nil)) pe_int))
      (pss_one (ps_ret (pe_op op_modN (pe_callTy call_int1 (by rfl) gInt (by decide +kernel) (pa_cons (pe_op op_fdivN (pv 3) pe_int) pa_nil)) (pv 1))))))))), ?_⟩
    refine ⟨_, rfl, _, _, _, _, rfl, rfl, SqL.of hb, rfl, _, _, rfl, rfl, _, rfl, ?_⟩
    refine ite2 (fun c0 => ?_) (fun c0 => ?_)
    · obtain ⟨f1, f2⟩ := fmod_in (x := d) hp
      refine ⟨_, rfl, _, _, _, _, rfl, rfl, SqL.of hb, rfl, .inl ⟨_, rfl, _, rfl, _, _, rfl, rfl, (by show many ≠ 0; omega), ?_⟩⟩
      refine ⟨_, rfl, _, _, _, _, rfl, rfl, SqL.of hb, rfl, _, rfl, _, _, rfl, rfl, wide_div hp hw (by decide) (by decide), _, rfl, b, _, 0, _, rfl, rfl, hb, rfl, _, rfl, ?_⟩
      refine k _ _ f1 f2 (fun x nx => upd_ne nx) ⟨d / many, m, c, upd_same, Int.ediv_nonneg hd (by omega), hm0, hm, hc0, by omega⟩
    · refine ⟨_, rfl, _, _, _, _, rfl, rfl, SqL.of hb, rfl, _, _, rfl, rfl, _, rfl, b, _, 2, _, rfl, rfl, hb, rfl, ?_⟩
      have hb2 : upd H b (.lst [.int d, .int m, .int (c + 1)]) b = some (.lst [.int d, .int m, .int (c + 1)]) := upd_same
      refine ⟨_, rfl, _, _, _, _, rfl, rfl, SqL.of hb2, rfl, _, rfl, _, _, _, _, rfl, rfl, SqL.of hb2, rfl, _, _, rfl, rfl, .inl ⟨by decide, by decide⟩, _, _, rfl, rfl, _, _, rfl, rfl, draw_pow hm0 hm hc0 (by omega), ?_⟩
      refine ⟨_, rfl, _, _, _, _, rfl, rfl, SqL.of hb2, rfl, _, _, rfl, rfl, .inl ⟨by decide, by decide⟩, _, _, rfl, rfl, ?_⟩
      refine ⟨_, rfl, .inl ⟨_, rfl, _, _, rfl, rfl, (by show (1152921504606846869 : Int) ≠ 0; decide), ?_⟩⟩
      refine ⟨_, rfl, _, rfl, _, _, _, _, rfl, rfl, SqL.of hb2, rfl, _, _, rfl, rfl, .inl ⟨by decide, by decide⟩, _, _, rfl, rfl, _, _, rfl, rfl, draw_pow3 (fmod_in (by decide)).1 (fmod_in (by decide)).2 hc0 (by omega), .inl ⟨_, rfl, _, _, rfl, rfl, (by show (2305843009213693951 : Int) ≠ 0; decide), ?_⟩⟩
      refine ⟨_, rfl, _, _, rfl, rfl, ⟨by decide, by decide⟩, .inl ⟨_, rfl, _, rfl, _, _, rfl, rfl, (by show many ≠ 0; omega), ?_⟩⟩
      exact k _ _ (fmod_in hp).1 (fmod_in hp).2 (fun x nx => upd_ne nx) ⟨d, m, c + 1, upd_same, hd, hm0, hm, by omega, by omega⟩
theorem scOf : FnScope ["bag", "some"] ["bag", "some"] (defScope sOf) := ⟨rfl, rfl, rfl, by decide +kernel, rfl, by decide +kernel, by decide +kernel⟩
theorem ok_of {f fD : Addr} {fd fdD : FuncData} (F : FnP K "_law_of" sOf f fd) (FD : FnP K "_law_draw" sDraw fD fdD) (gD : mg "_law_draw" = some (.ref fD)) (gLen : mg "len" = none) (gInt : mg "int" = none) : FnOk P w K mg base CX0 2 f fd ["bag", "some"] (spOf K) := by
  have GD : FnOk P w K mg base CX0 1 fD fdD ["bag", "many"] spDraw := ok_draw FD gInt
  have bD : Binds K fdD ["bag", "many"] [] := FD.bindsN fun _ _ _ _ _ _ us hl => match us, hl with | [_, _], _ => rfl
  refine F.ok scOf (fun vs H Q E h => ?_) (fun cdv A outer s H vs Q E hr h => ?_)
  · obtain ⟨b, l, n, xs, rfl, _⟩ := h
    rfl
  · obtain ⟨b, l, n, xs, rfl, hB, hn, nlb, hS, h0, h1, k⟩ := h
    refine ⟨_, PSs.nox (pss_one (ps_ret (pe_ix ix_list (pv 1) (pe_call GD hr rfl gD FD.kp bD .nil pass0 (pa_cons (pv 0) (pa_cons (pe_callB call_len_seq (by rfl) gLen PySem.boot_len (pa_cons (pv 1) pa_nil)) pa_nil))) (fun _ _ => rfl)))), ?_⟩
    refine ⟨_, rfl, _, rfl, _, rfl, _, _, rfl, .inl hS, b, n, _, rfl, hB, hn, by omega, ?_, fun r H' r0 r1 hk hB' => ?_⟩
    · have e : ((xs.length : Nat) : Int).natAbs = xs.length := by simp
      rw [e]
      exact Nat.lt_of_le_of_lt h1 (by decide)
    · obtain ⟨i, rfl⟩ : ∃ i : Nat, r = i := ⟨r.toNat, by omega⟩
      have hi : i < xs.length := by omega
      have hx : xs[i]? = some xs[i] := List.getElem?_eq_getElem hi
      exact ⟨_, _, _, _, rfl, rfl, hk.kept.seq nlb hS, atI_nat hx, k i _ H' hx hk hB'⟩
end
end K11

set_option Elab.async false
set_option maxRecDepth 100000
set_option maxHeartbeats 2000000
namespace K11
open PySem PySem.Spec PyProof.Rows L2 KX
abbrev sInt : Stmt := top 1
abbrev sName : Stmt := top 2
abbrev sOpp : Stmt := top 9999 /- opposite -/
abbrev sBound : Stmt := top 9999 /- is_bound -/
abbrev sRing : Stmt := top 9999 /- is_ring -/
section
variable {P : Program} {w : World} {K : PySem.W.Frag} {mg : Str → Option Value} {base : Heap}
theorem scInt : FnScope ["thing"] ["thing"] (defScope sInt) := ⟨rfl, rfl, rfl, by decide +kernel, rfl, by decide +kernel, by decide +kernel⟩
theorem ok_int {f : Addr} {fd : FuncData} (F : FnP K "is_integer" sInt f fd) (gI : mg "isinstance" = none) (gInt : mg "int" = none) (gB : mg "bool" = none) : FnOk P w K mg base CX0 1 f fd ["thing"] (spInt K) := by
  refine F.ok scInt (fun vs H Q E h => ?_) (fun cdv A outer s H vs Q E hr h => ?_)
  · obtain ⟨x, t, rfl, _⟩ := h
    rfl
  · obtain ⟨x, d, rfl, hk, k⟩ := h
    refine ⟨_, PSs.nox (pss_one (ps_ret (pe_and (pe_callB call_isi (by rfl) gI (by decide +kernel) (pa_cons (pv 0) (pa_cons (pe_bltn (v := .ty "int") (by rfl) gInt (by decide +kernel) rfl) pa_nil)))
      (pe_one (pe_not (pe_callB call_isi (by rfl) gI (by decide +kernel) (pa_cons (pv 0) (pa_cons (pe_bltn (v := .ty "bool") (by rfl) gB (by decide +kernel) rfl) pa_nil)))))))), ?_⟩
    refine ⟨_, rfl, _, _, _, _, _, rfl, .ty _, dp_ty hk, kit_int d, _, rfl, ite2' (fun c => ?_) (fun c => ?_)⟩
    · refine ⟨_, rfl, _, _, _, _, _, rfl, .ty _, dp_ty hk, kit_bool d, _, rfl, ?_⟩
      cases d <;> first | exact k | exact absurd c Bool.false_ne_true
    · have e : isIntD d = false := by cases d <;> first | rfl | exact absurd c.symm Bool.false_ne_true
      rw [← e]
      exact k
theorem scName : FnScope ["thing", "letter"] ["thing"] (defScope sName) := ⟨rfl, rfl, rfl, by decide +kernel, rfl, by decide +kernel, by decide +kernel⟩
theorem ok_name {f : Addr} {fd : FuncData} (F : FnP K "is_name" sName f fd) (gI : mg "isinstance" = none) (gS : mg "str" = none) (gL : mg "len" = none) (gA : mg "all" = none) : FnOk P w K mg base CX0 1 f fd ["thing"] (spName K) := by
  refine F.ok scName (fun vs H Q E h => ?_) (fun cdv A outer s H vs Q E hr h => ?_)
  · obtain ⟨x, t, rfl, _⟩ := h
    rfl
  · obtain ⟨x, d, rfl, hk, ho, k⟩ := h
    have nd := scName.nd
    refine ⟨_, PSs.nox (pss_cons (ps_if (PW.pt (pw_or (pt_not (pt_val (pe_callB call_isi (by rfl) gI (by decide +kernel) (pa_cons (pv 0) (pa_cons (pe_bltn (v := .ty "str") (by rfl) gS (by decide +kernel) rfl) pa_nil)))))
        (pw_or (pt_cmpR op_lt (pe_callB call_len_str (by rfl) gL PySem.boot_len (pa_cons (pv 0) pa_nil)) pe_int (nomark _)) (pw_or1 (pt_cmpR op_gt (pe_callB call_len_str (by rfl) gL PySem.boot_len (pa_cons (pv 0) pa_nil)) pe_int (nomark _)))))) (pss_one (ps_ret pe_bl)) pss_nil)
      (pss_one (ps_ret (pe_callB (cr_all rfl) (by rfl) gA (by decide +kernel) (pa_cons (pe_lc (own := [("letter", 1)]) (g := gName 1) (tt := tYes) rfl nd (pi_str (pv 0)) (blkOk_by (own := [("letter", 1)]) (N := ["thing", "letter"]) (sc := defScope sName) (by decide +kernel))
        (fun _ _ _ _ _ => pg_name (i := 1) nd rfl (Or.inl rfl)) (fun _ _ _ _ _ => pts_nil) (fun _ _ _ _ _ => pe_chain op_le_str op_le_str pe_str (pv 1) pe_str)) pa_nil))))), ?_⟩
    refine ⟨_, rfl, _, _, _, _, _, rfl, .ty _, dp_ty hk, kit_str d, _, rfl, ?_⟩
    by_cases hs : isStrD d = true
    · obtain ⟨z, rfl⟩ : ∃ z, d = .str z := by cases d <;> first | exact ⟨_, rfl⟩ | cases hs
      have hz := ho z rfl
      cases hk with
      | str =>
        have hzl : z.length ≤ sizeLine := by rw [sizeLine_eq]; omega
        refine ⟨_, rfl, _, rfl, hzl, _, _, rfl, rfl, _, rfl, ite2' (fun c1 => ?_) (fun c1 => ?_)⟩
        · have e := nm_short (z := z) (by have := of_decide_eq_true c1; omega)
          have q := k H (Same.refl H)
          rw [show nmD (.str z) = isNm z from rfl, e] at q
          exact q
        · have n1 : ¬ z.length < 1 := by have := of_decide_eq_false c1; omega
          refine ⟨_, rfl, _, rfl, hzl, _, _, rfl, rfl, _, rfl, ite2' (fun c2 => ?_) (fun c2 => ?_)⟩
          · have e := nm_long (z := z) (by have := of_decide_eq_true c2; omega)
            have q := k H (Same.refl H)
            rw [show nmD (.str z) = isNm z from rfl, e] at q
            exact q
          · have n2 : ¬ z.length > 8 := by have := of_decide_eq_false c2; omega
            refine ⟨_, rfl, z, rfl, fun D nD => ?_⟩
            refine lc_it (walk_str (z := z)) (fun i G => G D = some (.lst (((z.cps.toList.take i).map isLet).map V.bl)) ∧ Same H G) ⟨upd_same, same_put nD⟩ (fun _ _ _ _ => trivial) ?_ ?_
            · rintro i x G' G hi ⟨hD, s1⟩ ⟨rfl, c, hc, rfl⟩
              refine ⟨rfl, ?_⟩
              dsimp only [tYes]
              rw [if_pos rfl]
              have hcl : z.cps.toList[i]? = some c := by rw [Array.getElem?_toList]; exact hc
              have fin : ∃ acc, G D = some (.lst acc) ∧ acc.length < sizeLine ∧ ((upd G D (.lst (acc ++ [V.bl (isLet c)]))) D = some (.lst (((z.cps.toList.take (i + 1)).map isLet).map V.bl)) ∧ Same H (upd G D (.lst (acc ++ [V.bl (isLet c)])))) := by
                refine ⟨_, hD, ?_, ?_, fun y o e => ?_⟩
                · rw [List.length_map, List.length_map, List.length_take, sizeLine_eq]
                  have e1 : z.cps.toList.length ≤ 1000 := by rw [Array.length_toList]; exact hz
                  exact Nat.lt_of_le_of_lt (Nat.min_le_right _ _) (by omega)
                · rw [upd_same, take_at hcl, List.map_append, List.map_append]
                  rfl
                · rw [upd_ne (ne_of_none e nD)]
                  exact s1 _ _ e
              refine ⟨_, rfl, _, _, rfl, rfl, _, rfl, ?_⟩
              rw [lo_let]
              refine ite2' (fun c3 => ?_) (fun c3 => ?_)
              · refine ⟨_, _, rfl, rfl, ?_⟩
                rw [hi_let]
                have e : decide (c ≤ 122) = isLet c := by
                  unfold isLet
                  rw [c3]
                  rfl
                rw [e]
                exact fin
              · have e : isLet c = false := by
                  unfold isLet
                  rw [c3]
                  rfl
                rw [e] at fin
                exact fin
            · rintro G ⟨hD, s1⟩
              have hsz : z.cps.toList.take z.cps.size = z.cps.toList := by rw [← Array.length_toList, List.take_length]
              rw [hsz] at hD
              refine ⟨D, z.cps.toList.map isLet, rfl, SqL.of hD, ?_⟩
              have q := k G s1
              rw [show nmD (.str z) = isNm z from rfl, nm_mid n1 n2] at q
              have e : (z.cps.toList.map isLet).all id = z.cps.toList.all isLet := by rw [List.all_map]; rfl
              rw [e]
              exact q
    · have e : isStrD d = false := Bool.eq_false_iff.mpr hs
      rw [e]
      have q := k H (Same.refl H)
      rw [nm_off e] at q
      exact q
end
end K11

set_option Elab.async false
set_option maxRecDepth 100000
set_option maxHeartbeats 2000000
/-! Drawn names: what is promised of them, and their texts. -/
namespace KX
open PySem PySem.Spec PyProof.Rows L2
abbrev tlc (z : Str) : List Nat := z.cps.toList
theorem tlc_len (z : Str) : (tlc z).length = z.length := Array.length_toList
theorem tlc_app (x y : Str) : tlc (x ++ y) = tlc x ++ tlc y := Array.toList_append
theorem nm_inv {z : Str} (h : isNm z = true) : 1 ≤ z.length ∧ z.length ≤ 8 ∧ ∀ c ∈ tlc z, isLet c = true := by
  unfold isNm at h
  obtain ⟨h, h3⟩ := Bool.and_eq_true_iff.mp h
  obtain ⟨h1, h2⟩ := Bool.and_eq_true_iff.mp h
  exact ⟨of_decide_eq_true h1, of_decide_eq_true h2, List.all_eq_true.mp h3⟩
theorem nm_of {z : Str} (h1 : 1 ≤ z.length) (h2 : z.length ≤ 8) (h3 : ∀ c ∈ tlc z, isLet c = true) : isNm z = true := by
  unfold isNm
  rw [decide_eq_true h1, decide_eq_true h2, List.all_eq_true.mpr h3]
  rfl
theorem join0 : ∀ zs : List Nat, tlc (Str.join ⟨#[]⟩ (zs.map fun c => (⟨#[c]⟩ : Str))) = zs
  | [] => rfl
  | [c] => rfl
  | c :: d :: r => by
    have ih := join0 (d :: r)
    show tlc ((⟨#[c]⟩ : Str) ++ ⟨#[]⟩ ++ Str.join ⟨#[]⟩ ((d :: r).map fun c => (⟨#[c]⟩ : Str))) = _
    rw [tlc_app, tlc_app, ih]
    rfl
theorem letters_at : ∀ {j : Nat}, j < 26 → (("abcdefghijklmnopqrstuvwxyz" : Str)).cps.toList[j]? = some (97 + j) := by
  intro j h
  rw [letters_eq]
  have z : ∀ k : Fin 26, ([97, 98, 99, 100, 101, 102, 103, 104, 105, 106, 107, 108, 109, 110, 111, 112, 113, 114, 115, 116, 117, 118, 119, 120, 121, 122] : List Nat)[k.val]? = some (97 + k.val) := by decide
  exact z ⟨j, h⟩
theorem let_at {j : Nat} (h : j < 26) : isLet (97 + j) = true := by
  unfold isLet
  rw [decide_eq_true (by omega), decide_eq_true (by omega)]
  rfl
theorem inV_str (z : Str) (zs : List Str) : inV (.str z) (zs.map V.str) = decide (z ∈ zs) := by
  unfold inV
  rw [List.any_map]
  by_cases h : z ∈ zs
  · rw [decide_eq_true h]
    exact List.any_eq_true.mpr ⟨z, h, by show (z == z) = true; exact beq_self_eq_true z⟩
  · rw [decide_eq_false h]
    refine List.any_eq_false.mpr fun y hy => ?_
    show ¬ (y == z) = true
    rw [beq_iff_eq]
    rintro rfl
    exact h hy
theorem flat_strs (zs : List Str) : (zs.map V.str).all flatV = true := by
  rw [List.all_map]
  exact List.all_eq_true.mpr fun _ _ => rfl
theorem cutS_to {z : Str} {i : Nat} (h : i ≤ z.length) : tlc (cutS z none (some (i : Int))) = (tlc z).take i := by
  unfold cutS tlc
  rw [HT.sIx_none, HT.sIx_nat, List.drop_zero, Nat.min_eq_left h, Nat.sub_zero]
theorem cutS_from {z : Str} {i : Nat} (h : i ≤ z.length) : tlc (cutS z (some (i : Int)) none) = (tlc z).drop i := by
  unfold cutS tlc
  rw [HT.sIx_none, HT.sIx_nat, Nat.min_eq_left h]
  refine List.take_of_length_le ?_
  rw [List.length_drop, Array.length_toList]
  exact Nat.le_refl _
theorem nm_splice {one : Str} {at_ c : Nat} (h : isNm one = true) (ha : at_ < one.length) (hc : isLet c = true) : isNm (cutS one none (some (at_ : Int)) ++ ⟨#[c]⟩ ++ cutS one (some ((at_ : Int) + 1)) none) = true := by
  obtain ⟨h1, h2, h3⟩ := nm_inv h
  have e : tlc (cutS one none (some (at_ : Int)) ++ ⟨#[c]⟩ ++ cutS one (some ((at_ : Int) + 1)) none) = (tlc one).take at_ ++ [c] ++ (tlc one).drop (at_ + 1) := by
    rw [tlc_app, tlc_app, cutS_to (by omega)]
    congr 1
    exact cutS_from (i := at_ + 1) (by omega)
  have hl : (cutS one none (some (at_ : Int)) ++ ⟨#[c]⟩ ++ cutS one (some ((at_ : Int) + 1)) none).length = one.length := by
    rw [← tlc_len, e, List.length_append, List.length_append, List.length_take, List.length_drop, tlc_len]
    show min at_ one.length + 1 + (one.length - (at_ + 1)) = one.length
    omega
  refine nm_of (by omega) (by omega) fun d hd => ?_
  rw [e] at hd
  rcases List.mem_append.mp hd with hd | hd
  · rcases List.mem_append.mp hd with hd | hd
    · exact h3 d (List.mem_of_mem_take hd)
    · rw [List.mem_singleton.mp hd]
      exact hc
  · exact h3 d (List.mem_of_mem_drop hd)
theorem cutS_len (z : Str) (lo hi : Option Int) : (cutS z lo hi).length ≤ z.length := by
  rw [← tlc_len, ← tlc_len]
  unfold cutS tlc
  show (List.take _ (List.drop _ z.cps.toList)).length ≤ _
  rw [List.length_take, List.length_drop]
  omega
/-- _law_name -/
def spLName : Sp := fun vs H Q _ => ∃ (b : Addr) (n : Int), vs = [.ref b] ∧ Bag H b n ∧ n < 900000 ∧ ∀ z G, isNm z = true → Kept b H G → Bag G b (n + 9) → Q (.str z) G
/-- a new list of unlike names -/
def Names (b F : Addr) (H G : Hp) (zs : List Str) (m : Int) : Prop :=
  H F = none ∧ F ≠ b ∧ Kept b H G ∧ Bag G b m ∧ G F = some (.lst (zs.map V.str)) ∧ zs.Nodup ∧ ∀ z ∈ zs, isNm z = true
/-- _law_names -/
def spLNames : Sp := fun vs H Q _ => ∃ (b : Addr) (n : Int) (many : Nat), vs = [.ref b, .int (many : Int)] ∧ Bag H b n ∧ n < 800000 ∧ 1 ≤ many ∧ many ≤ 100 ∧ ∀ F zs G, Names b F H G zs (n + 20 * many) → 1 ≤ zs.length → zs.length ≤ many → Q (.ref F) G
/-- _law_numbers -/
def spLNums : Sp := fun vs H Q _ => ∃ (b : Addr) (n : Int) (many : Nat), vs = [.ref b, .int (many : Int)] ∧ Bag H b n ∧ n < 800000 ∧ 1 ≤ many ∧ many ≤ 100 ∧ ∀ F zs G, Names b F H G zs (n + 20 * many) → 1 ≤ zs.length → zs.length ≤ many + 1 → Q (.ref F) G
theorem seq_by {A B : TS} {D : Ends} {σ : L2.St} {H : Hp} (R : L2.St → Hp → Prop) (h2 : ∀ σ H, R σ H → B D σ H) (h1 : (∀ σ H, R σ H → B D σ H) → A { D with nx := fun σ H => B D σ H } σ H) : tSeq A B D σ H := h1 h2
theorem Bag.but {H G : Hp} {b : Addr} {m : Int} (k : But b H G) {x : Addr} (n : x ≠ b) : G x = H x := k x n
/-- within _law_names: the names found so far at F -/
structure LN (b F : Addr) (H G : Hp) (zs : List Str) (m : Int) : Prop where
  bag : Bag G b m
  fnd : G F = some (.lst (zs.map V.str))
  kept : Kept b H G
  ne : F ≠ b
  nd : zs.Nodup
  nm : ∀ z ∈ zs, isNm z = true
theorem LN.to {b F : Addr} {H G G' : Hp} {zs : List Str} {m m' : Int} (h : LN b F H G zs m) (k : Kept b G G') (hB : Bag G' b m') : LN b F H G' zs m' :=
  ⟨hB, k F _ h.ne h.fnd, h.kept.trans k, h.ne, h.nd, h.nm⟩
theorem LN.le {b F : Addr} {H G : Hp} {zs : List Str} {m m' : Int} (h : LN b F H G zs m) (q : m ≤ m') : LN b F H G zs m' := ⟨h.bag.mono q, h.fnd, h.kept, h.ne, h.nd, h.nm⟩
theorem LN.add {b F : Addr} {H G : Hp} {zs : List Str} {m : Int} {z : Str} (h : LN b F H G zs m) (hF : H F = none) (hz : isNm z = true) (n : z ∉ zs) : LN b F H (upd G F (.lst (zs.map V.str ++ [.str z]))) (zs ++ [z]) m := by
  refine ⟨h.bag.put h.ne, ?_, fun x o nx e => (upd_ne (ne_of_none e hF)).trans (h.kept x o nx e), h.ne, ?_, fun y hy => ?_⟩
  · rw [upd_same, List.map_append]
    rfl
  · refine List.nodup_append.mpr ⟨h.nd, by simp, fun x hx y hy => ?_⟩
    rw [List.mem_singleton.mp hy]
    rintro rfl
    exact n hx
  · rcases List.mem_append.mp hy with hy | hy
    · exact h.nm y hy
    · rw [List.mem_singleton.mp hy]
      exact hz
theorem atI_zero {α : Type} {xs : List α} (h : 0 < xs.length) : ∃ x, atI xs 0 = some x ∧ x ∈ xs := by
  match xs, h with
  | x :: r, _ => exact ⟨x, by unfold atI ixN; rw [if_pos (by decide), if_pos (by rw [List.length_cons]; omega)]; rfl, List.mem_cons_self⟩
theorem nm_line {z : Str} (h : isNm z = true) : z.length ≤ sizeLine := by
  have := (nm_inv h).2.1
  rw [sizeLine_eq]
  omega
theorem flt_take {α : Type} {xs : List α} {i : Nat} {x : α} {p : α → Bool} (h : xs[i]? = some x) : (xs.take (i + 1)).filter p = (xs.take i).filter p ++ (if p x = true then [x] else []) := by
  rw [take_at h, List.filter_append]
  congr 1
  by_cases e : p x = true
  · rw [if_pos e]
    exact List.filter_cons_of_pos e
  · rw [if_neg e]
    exact List.filter_cons_of_neg e
theorem ne_dec (u v : Str) : (!decide (V.str u = V.str v)) = decide (u ≠ v) := by
  rw [str_dec]
  by_cases h : u = v
  · rw [decide_eq_true h, decide_eq_false (fun q => q h)]
    rfl
  · rw [decide_eq_false h, decide_eq_true h]
    rfl
theorem atI_end {α : Type} {xs : List α} (h : 0 < xs.length) : ∃ x, atI xs (-1) = some x ∧ x ∈ xs := by
  have e : ixN xs.length (-1) = some (xs.length - 1) := by
    unfold ixN
    rw [if_neg (by decide), if_pos (by omega)]
    congr 1
    omega
  have hl : xs.length - 1 < xs.length := by omega
  refine ⟨xs[xs.length - 1], ?_, List.getElem_mem hl⟩
  unfold atI
  rw [e]
  exact List.getElem?_eq_getElem hl
theorem atI_map {α β : Type} {f : α → β} {xs : List α} {i : Int} {x : α} (h : atI xs i = some x) : atI (xs.map f) i = some (f x) := by
  rw [atI_len, h]
  rfl
theorem two_unlike {α : Type} : ∀ {xs : List α}, xs.Nodup → 2 ≤ xs.length → ∀ z, ∃ y ∈ xs, y ≠ z
  | x :: y :: r, h, _, z => by
    by_cases e : x = z
    · refine ⟨y, by simp, fun q => ?_⟩
      have := (List.nodup_cons.mp h).1
      rw [e, ← q] at this
      exact this (by simp)
    · exact ⟨x, by simp, e⟩
  | [_], _, h, _ => by simp at h
  | [], _, h, _ => by simp at h
theorem sum_le {m : Nat} : ∀ {ns : List Int}, (∀ x ∈ ns, x.natAbs ≤ m) → ns.sum.natAbs ≤ ns.length * m
  | [], _ => by simp
  | x :: r, h => by
    have h1 := h x List.mem_cons_self
    have h2 := sum_le (ns := r) fun y hy => h y (List.mem_cons_of_mem _ hy)
    rw [List.sum_cons, List.length_cons, Nat.succ_mul]
    omega
/-- a list that grows, made within -/
structure RD (b F : Addr) (H G : Hp) (rs : List Str) (m : Int) : Prop where
  bag : Bag G b m
  fnd : G F = some (.lst (rs.map V.str))
  kept : Kept b H G
  ne : F ≠ b
theorem RD.to {b F : Addr} {H G G' : Hp} {rs : List Str} {m m' : Int} (h : RD b F H G rs m) (k : Kept b G G') (hB : Bag G' b m') : RD b F H G' rs m' := ⟨hB, k F _ h.ne h.fnd, h.kept.trans k, h.ne⟩
theorem RD.le {b F : Addr} {H G : Hp} {rs : List Str} {m m' : Int} (h : RD b F H G rs m) (q : m ≤ m') : RD b F H G rs m' := ⟨h.bag.mono q, h.fnd, h.kept, h.ne⟩
theorem RD.set {b F : Addr} {H G : Hp} {rs qs : List Str} {m : Int} (h : RD b F H G rs m) (hF : H F = none) : RD b F H (upd G F (.lst (qs.map V.str))) qs m :=
  ⟨h.bag.put h.ne, upd_same, fun x o nx e => (upd_ne (ne_of_none e hF)).trans (h.kept x o nx e), h.ne⟩
end KX

set_option Elab.async false
set_option maxRecDepth 100000
set_option maxHeartbeats 1000000
namespace K11
open PySem PySem.Spec PyProof.Rows L2 KX
abbrev sLNm : Stmt := top 24
abbrev sLNms : Stmt := top 25
abbrev sLNum : Stmt := top 9999 /- _law_numbers -/
section
variable {P : Program} {w : World} {K : PySem.W.Frag} {mg : Str → Option Value} {base : Heap}
theorem scLNm : FnScope ["bag", "letters", "turn"] ["bag"] (defScope sLNm) := ⟨rfl, rfl, rfl, by decide +kernel, rfl, by decide +kernel, by decide +kernel⟩
theorem ok_lnm {f fD : Addr} {fd fdD : FuncData} (F : FnP K "_law_name" sLNm f fd) (GD : FnOk P w K mg base CX0 1 fD fdD ["bag", "many"] spDraw) (bD : Binds K fdD ["bag", "many"] []) (kD : PySem.W.keepIn K (.ref fD) = true) (gD : mg "_law_draw" = some (.ref fD))
    (n_range : mg "range" = none) : FnOk P w K mg base CX0 2 f fd ["bag"] spLName := by
  refine F.ok scLNm (fun vs H Q E h => ?_) (fun cdv A outer s H vs Q E hr h => ?_)
  · obtain ⟨b, n, rfl, _⟩ := h
    rfl
  · obtain ⟨b, n, rfl, hB, hn, k⟩ := h
    have nd := scLNm.nd
    refine ⟨_, PSs.nox (pss_cons (ps_set (i := 1) nd rfl (Or.inr rfl) pe_str)
(pss_one (ps_ret (pe_join pe_str (pe_lc (own := [("turn", 2)]) (g := (gName 2)) (tt := tYes) rfl nd (pi_range1 (by rfl) n_range (pa_cons (pe_op op_add pe_int (pe_call GD hr rfl gD kD bD .nil pass0 (pa_cons (pv 0) (pa_cons pe_int pa_nil)))) pa_nil)) (blkOk_by (own := [("turn", 2)]) (N := ["bag", "letters", "turn"]) (sc := defScope sLNm) (by decide +kernel)) (fun _ _ _ _ _ => (pg_name (i := 2) nd rfl (Or.inl rfl))) (fun _ _ _ _ _ => pts_nil) (fun _ _ _ _ _ => (pe_ix ix_str (pv 1) (pe_call GD hr rfl gD kD bD .nil pass0 (pa_cons (pv 0) (pa_cons pe_int pa_nil))) (fun _ _ => rfl)))))))), ?_⟩
    refine ⟨⟨_, rfl⟩, _, rfl, b, n, 8, rfl, hB, by omega, by decide, by decide, fun r G1 r0 r1 k1 hB1 => ⟨_, _, rfl, rfl, _, rfl, by omega, by omega, fun D nD => ?_⟩⟩
    obtain ⟨nn, hnn⟩ : ∃ nn : Nat, (1 + r).toNat = nn ∧ 1 ≤ nn ∧ nn ≤ 8 := ⟨_, rfl, by omega, by omega⟩
    rw [hnn.1]
    have hDb := hB1.ne nD
    have hDH : ∀ y o, H y = some o → y ≠ D := fun y o e => by
      rintro rfl
      have q := (k1 y hDb).trans e
      rw [nD] at q
      cases q
    refine lc_it (walk_rng (n := nn)) (fun i G => ∃ zs : List Nat, G D = some (.lst ((zs.map fun c => (⟨#[c]⟩ : Str)).map V.str)) ∧ zs.length = i ∧ (∀ c ∈ zs, isLet c = true) ∧ Bag G b (n + 1 + i) ∧ Kept b H G)
      ⟨[], upd_same, rfl, fun _ z => (nomatch z), (hB1.put hDb).mono (by omega), fun y o e q => (upd_ne (hDH y o q)).trans ((k1 y e).trans q)⟩ (fun _ _ _ _ => trivial) ?_ ?_
    · rintro i x G' G hi ⟨zs, hD, hl, hz, hBG, kG⟩ ⟨rfl, rfl⟩
      refine ⟨rfl, ?_⟩
      dsimp only [tYes]
      rw [if_pos rfl]
      refine ⟨_, rfl, _, rfl, b, _, 26, rfl, hBG, by omega, by decide, by decide, fun q G2 q0 q1 k2 hB2 => ?_⟩
      obtain ⟨j, rfl⟩ : ∃ j : Nat, q = j := ⟨q.toNat, by omega⟩
      have hj : j < 26 := by omega
      refine ⟨_, _, _, rfl, rfl, (by decide +kernel), atI_nat (letters_at hj), _, (k2 D hDb).trans hD, ?_, zs ++ [97 + j], ?_, ?_, ?_, ?_, fun y o e z => ?_⟩
      · rw [List.length_map, List.length_map, sizeLine_eq]
        omega
      · rw [upd_same, List.map_append, List.map_append]
        rfl
      · rw [List.length_append, hl]
        rfl
      · intro c hc
        rcases List.mem_append.mp hc with hc | hc
        · exact hz c hc
        · rw [List.mem_singleton.mp hc]
          exact let_at hj
      · exact (hB2.put hDb).mono (by omega)
      · rw [upd_ne (hDH y o z)]
        exact (k2 y e).trans (kG y o e z)
    · rintro G ⟨zs, hD, hl, hz, hBG, kG⟩
      refine ⟨_, D, zs.map fun c => (⟨#[c]⟩ : Str), rfl, rfl, .inl (SqL.of hD), ?_, ?_⟩
      · have e1 : ((zs.map fun c => (⟨#[c]⟩ : Str)).map (·.length)) = zs.map fun _ => 1 := by rw [List.map_map]; rfl
        have e2 : (("" : String) : Str).length = 0 := by decide +kernel
        rw [e1, e2, List.map_const', List.sum_replicate_nat]
        omega
      · have e0 : (("" : String) : Str) = ⟨#[]⟩ := by decide +kernel
        rw [TL.join_eq, e0]
        have e := join0 zs
        have hL : (Str.join ⟨#[]⟩ (zs.map fun c => (⟨#[c]⟩ : Str))).length = nn := by rw [← tlc_len, e, hl]
        exact k _ G (nm_of (by omega) (by omega) (fun c hc => hz c (by rw [← e]; exact hc))) kG (hBG.mono (by omega))
theorem scLNms : FnScope ["bag", "many", "found", "turn", "name", "one", "at"] ["bag", "many"] (defScope sLNms) := ⟨rfl, rfl, rfl, by decide +kernel, rfl, by decide +kernel, by decide +kernel⟩
theorem ok_lnms {f fD fO fN : Addr} {fd fdD fdO fdN : FuncData} (F : FnP K "_law_names" sLNms f fd) (GD : FnOk P w K mg base CX0 1 fD fdD ["bag", "many"] spDraw) (bD : Binds K fdD ["bag", "many"] []) (kD : PySem.W.keepIn K (.ref fD) = true) (gD : mg "_law_draw" = some (.ref fD))
    (GO : FnOk P w K mg base CX0 2 fO fdO ["bag", "some"] (spOf K)) (bO : Binds K fdO ["bag", "some"] []) (kO : PySem.W.keepIn K (.ref fO) = true) (gO : mg "_law_of" = some (.ref fO))
    (GN : FnOk P w K mg base CX0 2 fN fdN ["bag"] spLName) (bN : Binds K fdN ["bag"] []) (kN : PySem.W.keepIn K (.ref fN) = true) (gN : mg "_law_name" = some (.ref fN))
    (n_range : mg "range" = none) (n_len : mg "len" = none) : FnOk P w K mg base CX0 3 f fd ["bag", "many"] spLNames := by
  refine F.ok scLNms (fun vs H Q E h => ?_) (fun cdv A outer s H vs Q E hr2 h => ?_)
  · obtain ⟨b, n, m, rfl, _⟩ := h
    rfl
  · obtain ⟨b, n, many, rfl, hB, hn, h1, h100, k⟩ := h
    have nd := scLNms.nd
    have hr1 := hr2.mono (j := 1) (by decide)
    refine ⟨_, PSs.nox (pss_cons (ps_set (i := 2) nd rfl (Or.inl rfl) (pe_lst (pa_cons (pe_call GN hr2 rfl gN kN bN .nil pass0 (pa_cons (pv 0) pa_nil)) pa_nil)))
(pss_cons (ps_for PassesOwn.never rfl (pi_range1 (by rfl) n_range (pa_cons (pe_op op_sub (pv 1) pe_int) pa_nil)) (pg_name (i := 3) nd rfl (Or.inl rfl))
(pss_cons (ps_set (i := 4) nd rfl (Or.inl rfl) (pe_call GN hr2 rfl gN kN bN .nil pass0 (pa_cons (pv 0) pa_nil)))
(pss_cons (ps_if (pt_cmpR op_eq (pe_call GD hr1 rfl gD kD bD .nil pass0 (pa_cons (pv 0) (pa_cons pe_int pa_nil))) pe_int (nomark _))
(pss_cons (ps_set (i := 5) nd rfl (Or.inl rfl) (pe_call GO hr2 rfl gO kO bO .nil pass0 (pa_cons (pv 0) (pa_cons (pv 2) pa_nil))))
(pss_cons (ps_set (i := 6) nd rfl (Or.inl rfl) (pe_call GD hr1 rfl gD kD bD .nil pass0 (pa_cons (pv 0) (pa_cons (pe_callB call_len_str (by rfl) n_len PySem.boot_len (pa_cons (pv 5) pa_nil)) pa_nil))))
(pss_one (ps_set (i := 4) nd rfl (Or.inl rfl) (pe_op op_add_str (pe_op op_add_str (pe_slice sl_str (pv 5) po_none (po_some (pv 6))) (pe_ix ix_str (pv 4) pe_int (fun _ _ => rfl))) (pe_slice sl_str (pv 5) (po_some (pe_op op_add (pv 6) pe_int)) po_none))))))
pss_nil)
(pss_one (ps_if (pt_cmpR op_notIn_seq (pv 4) (pv 2) rfl)
(pss_one (ps_expr (pe_bm PySem.F.plainAttrs_list PySem.F.slot_list_append PySem.F.type_list_append mt_append (pv 2) (pa_cons (pv 4) pa_nil))))
pss_nil)))))
(pss_one (ps_ret (pv 2))))), ?_⟩
    refine ⟨_, rfl, b, n, rfl, hB, by omega, fun z0 G1 hz0 k1 hB1 => ⟨(by show 1 ≤ sizeLine; decide), fun F0 nF => ?_⟩⟩
    have hFb := hB1.ne nF
    have hFH : H F0 = none := by
      cases e : H F0 with
      | none => rfl
      | some o => exact absurd (k1 F0 o hFb e) (by rw [nF]; exact nofun)
    have lp0 : LN b F0 H (upd G1 F0 (.lst [.str z0])) [z0] (n + 9) := ⟨hB1.put hFb, upd_same, fun x o nx e => (upd_ne (ne_of_none e hFH)).trans (k1 x o nx e), hFb, by simp, fun z hz => by rw [List.mem_singleton.mp hz]; exact hz0⟩
    generalize upd G1 F0 (.lst [.str z0]) = G2 at lp0
    refine ⟨_, rfl, _, _, rfl, rfl, _, rfl, by omega, by omega, ?_⟩
    have e1 : ((many : Int) - 1).toNat = many - 1 := by omega
    rw [e1]
    refine for_it (walk_rng (n := many - 1)) (fun i σ G => ∃ zs y3 y4 y5 y6, σ = [some (.ref b), some (.int (many : Int)), some (.ref F0), y3, y4, y5, y6] ∧ LN b F0 H G zs (n + 9 + 12 * i) ∧ 1 ≤ zs.length ∧ zs.length ≤ i + 1)
      ⟨[z0], _, _, _, _, rfl, lp0.le (by omega), by simp, by simp⟩ (fun _ _ _ _ _ => trivial) ?_ ?_
    · rintro i x σ G' G hi ⟨zs, y3, y4, y5, y6, rfl, lp, hl1, hl2⟩ ⟨rfl, rfl⟩
      refine ⟨_, rfl, b, _, rfl, lp.bag, by omega, fun z G3 hz k3 hB3 => ?_⟩
      have lp3 := lp.to k3 hB3
      dsimp only [gName, List.set]
      refine seq_by (fun σ G => ∃ z y5 y6, σ = [some (.ref b), some (.int (many : Int)), some (.ref F0), some (.int (i : Int)), some (.str z), y5, y6] ∧ isNm z = true ∧ LN b F0 H G zs (n + 9 + 12 * (i + 1 : Nat))) ?_ (fun nxt => ?_)
      · rintro σ G ⟨z, y5, y6, rfl, hz, lp⟩
        refine ⟨_, rfl, _, rfl, F0, _, rfl, .inl (SqL.of lp.fnd), rfl, flat_strs zs, _, rfl, ite2' (fun c => ?_) (fun c => ?_)⟩
        · have c' : (!inV (.str z) (zs.map V.str)) = true := c
          rw [inV_str] at c'
          have hnot : z ∉ zs := fun q => by
            rw [decide_eq_true q] at c'
            cases c'
          refine ⟨_, rfl, .inl ⟨rfl, _, SqL.of lp.fnd⟩, _, rfl, F0, _, _, rfl, rfl, lp.fnd, (by rw [List.length_map, sizeLine_eq]; omega), ?_⟩
          exact ⟨zs ++ [z], _, _, _, _, rfl, lp.add hFH hz hnot, by rw [List.length_append]; omega, by rw [List.length_append]; show zs.length + 1 ≤ _; omega⟩
        · exact ⟨zs, _, _, _, _, rfl, lp, hl1, by omega⟩
      · refine ⟨_, rfl, b, _, 2, rfl, lp3.bag, by omega, by decide, by decide, fun r G4 r0 r1 k4 hB4 => ⟨rfl, _, rfl, ite2' (fun c => ?_) (fun c => ?_)⟩⟩
        · have lp4 := lp3.to k4.kept hB4
          refine ⟨_, rfl, _, rfl, b, F0, _, _, rfl, lp4.bag, by omega, hFb, SqL.of lp4.fnd, by rw [List.length_map]; omega, by rw [List.length_map]; omega, fun j v G5 hv k5 hB5 => ?_⟩
          obtain ⟨one, ho, rfl⟩ := Option.map_eq_some_iff.mp ((List.getElem?_map ..).symm.trans hv)
          have hno := lp4.nm one (List.mem_of_getElem? ho)
          have hlo := nm_line hno
          obtain ⟨o1, o8, _⟩ := nm_inv hno
          have lp5 := lp4.to k5.kept hB5
          refine ⟨_, rfl, _, rfl, _, rfl, hlo, b, _, _, rfl, lp5.bag, by omega, by omega, by omega, fun a G6 a0 a1 k6 hB6 => ?_⟩
          have lp6 := lp5.to k6.kept hB6
          obtain ⟨at_, rfl⟩ : ∃ j : Nat, a = j := ⟨a.toNat, by omega⟩
          have hat : at_ < one.length := by omega
          obtain ⟨c0, hc0, hm⟩ := atI_zero (xs := tlc z) (by rw [tlc_len]; have := (nm_inv hz).1; omega)
          have hlet := (nm_inv hz).2.2 c0 hm
          have l1 := cutS_len one none (some (at_ : Int))
          have l2 := cutS_len one (some ((at_ : Int) + 1)) none
          have l3 : (⟨#[c0]⟩ : Str).length = 1 := rfl
          refine ⟨_, rfl, _, rfl, _, rfl, _, rfl, hlo, _, rfl, _, _, c0, rfl, rfl, nm_line hz, hc0, _, _, rfl, rfl, (by rw [sizeLine_eq]; omega), _, rfl, _, rfl, _, _, rfl, rfl, _, rfl, _, rfl, hlo, _, _, rfl, rfl, (by rw [Str.length_append, sizeLine_eq]; omega), ?_⟩
          exact nxt _ _ ⟨_, _, _, rfl, nm_splice hno hat hlet, lp6.le (by omega)⟩
        · exact nxt _ _ ⟨z, _, _, rfl, hz, (lp3.to k4.kept hB4).le (by omega)⟩
    · rintro σ G ⟨zs, y3, y4, y5, y6, rfl, lp, hl1, hl2⟩
      exact ⟨_, rfl, k F0 zs G ⟨hFH, hFb, lp.kept, lp.bag.mono (by omega), lp.fnd, lp.nd, lp.nm⟩ hl1 (by omega)⟩
end
end K11

set_option Elab.async false
set_option maxRecDepth 100000
set_option maxHeartbeats 2000000
/-! x in t, x not in t: data, t a tuple of data. -/
namespace KX
open PySem PySem.Spec PyProof.Rows L2
variable {X : Cx}
def rInDT (K : PySem.W.Frag) (neg : Bool) : R2 := fun x y H Q => ∃ d ds, Dp K H x d ∧ Dp K H y (.tuple ds) ∧ SeqAt.shaped d = true ∧ SeqAt.shaped (.tuple ds) = true ∧ Q (.bl (if neg then !ds.any fun z => PyData.eqv z d else ds.any fun z => PyData.eqv z d)) H
theorem op_inDT (hu : X.A.units + 65 < cLine) : OpR X (compareOp .In) (rInDT X.K false) := by
  intro pins s σ H x y v u Q I rx ry h
  obtain ⟨d, ds, hd, he, sd, se, q⟩ := h
  obtain ⟨as, r1⟩ := Dp.reads I d x v hd rx
  obtain ⟨bs, r2⟩ := Dp.reads I (.tuple ds) y u he ry
  exact SeqAt.in_tuple_reads r2 r1 (SeqAt.canLay_of_shaped se) (SeqAt.canLay_of_shaped sd) (room_in_shaped sd hu) ⟨.bl _, H, I, rfl, q⟩
theorem op_notInDT (hu : X.A.units + 65 < cLine) : OpR X (compareOp .NotIn) (rInDT X.K true) := by
  intro pins s σ H x y v u Q I rx ry h
  obtain ⟨d, ds, hd, he, sd, se, q⟩ := h
  obtain ⟨as, r1⟩ := Dp.reads I d x v hd rx
  obtain ⟨bs, r2⟩ := Dp.reads I (.tuple ds) y u he ry
  exact SeqAt.notIn_tuple_reads r2 r1 (SeqAt.canLay_of_shaped se) (SeqAt.canLay_of_shaped sd) (room_in_shaped sd hu) ⟨.bl _, H, I, rfl, q⟩
theorem strs_dp {K : PySem.W.Frag} {H : Hp} : ∀ zs : List Str, DpAll K H (zs.map V.str) (zs.map PyData.str)
  | [] => .nil
  | z :: r => .cons (.str z) (strs_dp r)
/-- is the thing one of the texts -/
def inS (zs : List Str) (d : PyData) : Bool := (zs.map PyData.str).any fun z => PyData.eqv z d
theorem inS_str (zs : List Str) (z : Str) : inS zs (.str z) = decide (z ∈ zs) := by
  unfold inS
  rw [List.any_map]
  by_cases h : z ∈ zs
  · rw [decide_eq_true h]
    exact List.any_eq_true.mpr ⟨z, h, by show (z == z) = true; exact beq_self_eq_true z⟩
  · rw [decide_eq_false h]
    refine List.any_eq_false.mpr fun y hy => ?_
    show ¬ (y == z) = true
    rw [beq_iff_eq]
    rintro rfl
    exact h hy
end KX

set_option Elab.async false
set_option maxRecDepth 100000
set_option maxHeartbeats 2000000
/-! Bounds and rings, in plain words. -/
namespace KX
open PySem PySem.Spec PyProof.Rows L2
abbrev Bd := Str × Str × Int
/-- a bound, if it is one -/
def bd3 : PyData → Option Bd
  | .tuple [.str u, .str v, .int c] => if (isNm u && (isNm v && !decide (u = v))) = true then some (u, v, c) else none
  | _ => none
def bdD (d : PyData) : Bool := (bd3 d).isSome
def okBd (d : PyData) : Prop := ∀ ds, d = .tuple ds → ds.length ≤ 1000 ∧ ∀ e ∈ ds, okN e
def okRing (d : PyData) : Prop := ∀ ds, d = .list ds ∨ d = .tuple ds → ds.length ≤ 1000 ∧ ∀ e ∈ ds, okBd e
def jb (ts : List Bd) (i : Nat) : Bool :=
  match ts[pred ts.length i]?, ts[i]? with
  | some p, some q => decide (p.2.1 = q.1)
  | _, _ => false
def rgT (ts : List Bd) : Bool := (List.range ts.length).all (jb ts) && decide ((ts.map fun t => t.2.2).sum < 0)
def bdOf (d : PyData) : Bd := (bd3 d).getD (⟨#[]⟩, ⟨#[]⟩, 0)
def rgL (ds : List PyData) : Bool := ds.all bdD && rgT (ds.map bdOf)
def rgD : PyData → Bool
  | .list ds => rgL ds
  | .tuple ds => rgL ds
  | _ => false
theorem rg_nil : rgL [] = false := by
  show (true && ((List.range 0).all _ && decide (([] : List Int).sum < 0))) = false
  rfl
/-- a bound that stands at x -/
def BdAt (K : PySem.W.Frag) (H : Hp) (x : V) (t : Bd) : Prop := ∃ a, x = .ref a ∧ SqT K H a [.str t.1, .str t.2.1, .int t.2.2]
theorem bd3_inv {d : PyData} {t : Bd} (h : bd3 d = some t) : d = .tuple [.str t.1, .str t.2.1, .int t.2.2] ∧ isNm t.1 = true ∧ isNm t.2.1 = true ∧ t.1 ≠ t.2.1 := by
  unfold bd3 at h
  split at h
  · split at h
    · rename_i u v c hc
      cases h
      obtain ⟨h1, h2⟩ := Bool.and_eq_true_iff.mp hc
      obtain ⟨h2, h3⟩ := Bool.and_eq_true_iff.mp h2
      refine ⟨rfl, h1, h2, fun e => ?_⟩
      rw [decide_eq_true e] at h3
      cases h3
    · cases h
  · cases h
theorem dp_tup3 {K : PySem.W.Frag} {H : Hp} {x : V} {u v : Str} {c : Int} (h : Dp K H x (.tuple [.str u, .str v, .int c])) : BdAt K H x (u, v, c) := by
  cases h with
  | tup hS ha =>
    cases ha with
    | cons h1 ha =>
      cases ha with
      | cons h2 ha =>
        cases ha with
        | cons h3 ha =>
          cases ha
          cases h1
          cases h2
          cases h3
          exact ⟨_, rfl, hS⟩
theorem bd_at {K : PySem.W.Frag} {H : Hp} {x : V} {d : PyData} (h : Dp K H x d) (hb : bdD d = true) : BdAt K H x (bdOf d) := by
  unfold bdD at hb
  unfold bdOf
  cases e : bd3 d with
  | none =>
    rw [e] at hb
    cases hb
  | some t =>
    obtain ⟨rfl, _⟩ := bd3_inv e
    exact dp_tup3 h
theorem BdAt.same {K : PySem.W.Frag} {H H' : Hp} {x : V} {t : Bd} (s : Same H H') (h : BdAt K H x t) : BdAt K H' x t := h.imp fun a h => ⟨h.1, sqT_same s h.2⟩
theorem bd_off {d : PyData} (h : isTupD d = false) : bdD d = false := by cases d <;> first | rfl | cases h
theorem bd_len {ds : List PyData} (h : ds.length ≠ 3) : bdD (.tuple ds) = false := by
  unfold bdD
  cases e : bd3 (.tuple ds) with
  | none => rfl
  | some t =>
    have q := PyData.tuple.inj (bd3_inv e).1
    rw [q] at h
    exact absurd rfl h
/-- two texts are not the same one -/
def neS : PyData → PyData → Bool
  | .str u, .str v => !decide (u = v)
  | _, _ => true
/-- what bdD is, part by part -/
theorem bd_parts (a b c : PyData) : bdD (.tuple [a, b, c]) = (nmD a && (nmD b && (neS a b && isIntD c))) := by
  unfold bdD bd3
  cases a <;> try rfl
  rename_i u
  cases b <;> try (show (false : Bool) = (isNm u && (false && _)); cases isNm u <;> rfl)
  rename_i v
  cases c <;> try (show false = (isNm u && (isNm v && (!decide (u = v) && false))); cases isNm u <;> cases isNm v <;> cases decide (u = v) <;> rfl)
  show (if (isNm u && (isNm v && !decide (u = v))) = true then some ((u, v, _) : Bd) else none).isSome = (isNm u && (isNm v && (!decide (u = v) && true)))
  cases isNm u <;> cases isNm v <;> cases decide (u = v) <;> rfl
theorem bds_at {K : PySem.W.Frag} {H : Hp} {xs : List V} {ds : List PyData} {i : Nat} {x : V} (hA : DpAll K H xs ds) (hb : ds.all bdD = true) (h : xs[i]? = some x) : ∃ t, (ds.map bdOf)[i]? = some t ∧ BdAt K H x t := by
  obtain ⟨d, hd, hx⟩ := dpall_at hA h
  refine ⟨bdOf d, ?_, bd_at hx (List.all_eq_true.mp hb d (List.mem_of_getElem? hd))⟩
  rw [List.getElem?_map, hd]
  rfl
theorem jb_eq {ts : List Bd} {i : Nat} {p q : Bd} (hp : ts[pred ts.length i]? = some p) (hq : ts[i]? = some q) : jb ts i = decide (p.2.1 = q.1) := by
  unfold jb
  rw [hp, hq]
/-- what _law_is_round asks of a list of things -/
def okE (e : PyData) : Prop := okBd e ∧ e.canLay0 = true ∧ e.depth ≤ 60
def spRound (K : PySem.W.Frag) : Sp := fun vs H Q _ => ∃ (l : Addr) (xs : List V) (ds : List PyData), vs = [.ref l] ∧ SqL K H l xs ∧ DpAll K H xs ds ∧ ds.length ≤ 1000 ∧ (∀ e ∈ ds, okE e) ∧ ∀ H', Same H H' → Q (.bl (rgL ds)) H'
def spBound (K : PySem.W.Frag) : Sp := fun vs H Q _ => ∃ (x : V) (d : PyData), vs = [x] ∧ Dp K H x d ∧ okBd d ∧ ∀ H', Same H H' → Q (.bl (bdD d)) H'
def spOpp (K : PySem.W.Frag) : Sp := fun vs H Q _ => ∃ (a : Addr) (x y : V) (c : Int), vs = [.ref a] ∧ SqT K H a [x, y, .int c] ∧ ∀ p, H p = none → Q (.ref p) (upd H p (.tup [y, x, .int (-c - 1)]))
def spRing (K : PySem.W.Frag) : Sp := fun vs H Q _ => ∃ (x : V) (d : PyData), vs = [x] ∧ Dp K H x d ∧ okRing d ∧ ∀ H', Same H H' → Q (.bl (rgD d)) H'
/-- a bound's data, its constant not beyond m -/
def BdX (m : Nat) (d : PyData) : Prop := ∃ u v c, d = .tuple [.str u, .str v, .int c] ∧ isNm u = true ∧ isNm v = true ∧ c.natAbs ≤ m
/-- _law_round -/
def spRnd (K : PySem.W.Frag) : Sp := fun vs H Q _ => ∃ (b L : Addr) (n : Int) (zs : List Str), vs = [.ref b, .ref L] ∧ Bag H b n ∧ n < 700000 ∧ L ≠ b ∧ H L = some (.lst (zs.map V.str)) ∧ zs.Nodup ∧ 2 ≤ zs.length ∧ zs.length ≤ 100 ∧ (∀ z ∈ zs, isNm z = true) ∧
  ∀ R rs ds G, H R = none → R ≠ b → Kept b H G → Bag G b (n + 60) → G R = some (.lst rs) → DpAll K G rs ds → 1 ≤ ds.length → ds.length ≤ 8 → (∀ d ∈ ds, BdX (10 ^ 29) d) → Q (.ref R) G
/-- a bound's tuple, made within -/
def BdT (G : Hp) (x : V) (t : Bd) : Prop := ∃ a, x = .ref a ∧ G a = some (.tup [.str t.1, .str t.2.1, .int t.2.2])
theorem BdT.off {G : Hp} {x : V} {t : Bd} {R : Addr} {ys : List V} {o : HO} (h : BdT G x t) (e : G R = some (.lst ys)) : BdT (upd G R o) x t := by
  obtain ⟨a, rfl, ha⟩ := h
  refine ⟨a, rfl, (upd_ne ?_).trans ha⟩
  rintro rfl
  rw [e] at ha
  cases ha
theorem BdT.kept {b : Addr} {n : Int} {G G' : Hp} {x : V} {t : Bd} (h : BdT G x t) (hB : Bag G b n) (k : Kept b G G') : BdT G' x t := by
  obtain ⟨a, rfl, ha⟩ := h
  refine ⟨a, rfl, k a _ ?_ ha⟩
  rintro rfl
  obtain ⟨d, m, c, e, _⟩ := hB
  rw [e] at ha
  cases ha
theorem BdT.same {G G' : Hp} {x : V} {t : Bd} (h : BdT G x t) (k : Same G G') : BdT G' x t := h.imp fun a h => ⟨h.1, k _ _ h.2⟩
def bdX (t : Bd) : PyData := .tuple [.str t.1, .str t.2.1, .int t.2.2]
theorem bts_dp {K : PySem.W.Frag} {G : Hp} : ∀ {xs : List V} {ts : List Bd}, Paired (BdT G) xs ts → DpAll K G xs (ts.map bdX)
  | _, _, .nil => .nil
  | _, _, .cons h r => by
    obtain ⟨a, rfl, ha⟩ := h
    exact .cons (.tup (SqT.of ha) (.cons (.str _) (.cons (.str _) (.cons (.int _) .nil)))) (bts_dp r)
theorem pair_imp {α β : Type} {P Q : α → β → Prop} (h : ∀ x y, P x y → Q x y) : ∀ {xs : List α} {ys : List β}, Paired P xs ys → Paired Q xs ys
  | _, _, .nil => .nil
  | _, _, .cons a r => .cons (h _ _ a) (pair_imp h r)
theorem pair_snoc {α β : Type} {P : α → β → Prop} {x : α} {y : β} (h : P x y) : ∀ {xs : List α} {ys : List β}, Paired P xs ys → Paired P (xs ++ [x]) (ys ++ [y])
  | _, _, .nil => .cons h .nil
  | _, _, .cons a r => .cons a (pair_snoc h r)
theorem pair_len {α β : Type} {P : α → β → Prop} : ∀ {xs : List α} {ys : List β}, Paired P xs ys → xs.length = ys.length
  | _, _, .nil => rfl
  | _, _, .cons _ r => congrArg (· + 1) (pair_len r)
theorem cut_from {α : Type} (xs : List V) (i : Nat) (h : i ≤ xs.length) : cutV xs (some (i : Int)) none = xs.drop i := by
  unfold cutV
  rw [HT.sIx_none, HT.sIx_nat, Nat.min_eq_left h]
  refine List.take_of_length_le ?_
  rw [List.length_drop]
  exact Nat.le_refl _
end KX

set_option Elab.async false
set_option maxRecDepth 100000
set_option maxHeartbeats 2000000
/-! Small odd things: scalars, and lists and tuples of a few of them. -/
namespace KX
open PySem PySem.Spec PyProof.Rows L2
def ScD (m : Nat) : PyData → Prop
  | .none => True
  | .bool _ => True
  | .int i => i.natAbs ≤ m
  | .str z => z.length ≤ 100 ∧ ∀ c ∈ tlc z, c < 1000
  | _ => False
def ElX (m : Nat) (d : PyData) : Prop := ScD m d ∨ ∃ ds, ((d = .list ds ∧ ∃ z r, ds = .str z :: r) ∨ d = .tuple ds) ∧ ds.length ≤ 6 ∧ ∀ e ∈ ds, ScD m e
theorem ScD.mono {m m' : Nat} {d : PyData} (h : m ≤ m') (q : ScD m d) : ScD m' d := by
  cases d <;> first | exact q | exact Nat.le_trans q h
theorem ElX.mono {m m' : Nat} {d : PyData} (h : m ≤ m') (q : ElX m d) : ElX m' d := by
  rcases q with q | ⟨ds, e, hl, q⟩
  · exact .inl (q.mono h)
  · exact .inr ⟨ds, e, hl, fun x hx => (q x hx).mono h⟩
theorem nm_sc {m : Nat} {z : Str} (h : isNm z = true) : ScD m (.str z) := by
  obtain ⟨h1, h2, h3⟩ := nm_inv h
  refine ⟨by omega, fun c hc => ?_⟩
  have q := h3 c hc
  unfold isLet at q
  have := of_decide_eq_true (Bool.and_eq_true_iff.mp q).2
  exact Nat.lt_of_le_of_lt this (by decide)
theorem BdX.el {m : Nat} {d : PyData} (h : BdX m d) : ElX m d := by
  obtain ⟨u, v, c, rfl, hu, hv, hc⟩ := h
  refine .inr ⟨_, .inr rfl, by show 3 ≤ 6; decide, fun e he => ?_⟩
  rcases List.mem_cons.mp he with rfl | he
  · exact nm_sc hu
  rcases List.mem_cons.mp he with rfl | he
  · exact nm_sc hv
  rw [List.mem_singleton.mp he]
  exact hc
theorem sc_okN {m : Nat} {d : PyData} (h : ScD m d) : okN d := by
  rintro z rfl
  have := h.1
  omega
theorem str_ok {z : Str} (h : z.length ≤ 100 ∧ ∀ c ∈ tlc z, c < 1000) : PyData.canLay0 (.str z) = true := by
  show z.cps.all (· < 0x110000) = true
  rw [← Array.all_toList]
  exact List.all_eq_true.mpr fun c hc => decide_eq_true (Nat.lt_trans (h.2 c hc) (by decide))
theorem sc_lay {m : Nat} {d : PyData} (h : ScD m d) : d.canLay0 = true ∧ d.depth ≤ 0 := by
  cases d with
  | none => exact ⟨rfl, Nat.le_refl _⟩
  | bool => exact ⟨rfl, Nat.le_refl _⟩
  | int => exact ⟨rfl, Nat.le_refl _⟩
  | str z => exact ⟨str_ok h, Nat.le_refl _⟩
  | list => exact False.elim h
  | tuple => exact False.elim h
  | dict => exact False.elim h
theorem ElX.okE {m : Nat} {d : PyData} (h : ElX m d) : okE d := by
  rcases h with h | ⟨ds, e, hl, q⟩
  · refine ⟨fun ds e => ?_, (sc_lay h).1, Nat.le_trans (sc_lay h).2 (by decide)⟩
    subst e
    exact False.elim h
  · obtain ⟨l1, l2⟩ := lay_all (k := 0) fun x hx => sc_lay (q x hx)
    rcases e with ⟨rfl, _⟩ | rfl
    · exact ⟨fun es e => (nomatch e), l1, by show PyData.depthAll ds + 1 ≤ 60; omega⟩
    · refine ⟨fun es e => ?_, l1, by show PyData.depthAll ds + 1 ≤ 60; omega⟩
      cases e
      exact ⟨by omega, fun x hx => sc_okN (q x hx)⟩
theorem sc_small {m : Nat} {d : PyData} (hm : m < 10 ^ 40) (h : ScD m d) : Small d 0 1002 := by
  cases d with
  | none => exact ⟨rfl, rfl, Nat.le_refl _, by show ("None" : Str).length ≤ 1002; decide⟩
  | bool b => exact ⟨rfl, rfl, Nat.le_refl _, by cases b <;> (show (_ : Str).length ≤ 1002; decide)⟩
  | int i =>
    have hi : i.natAbs < 10 ^ 40 := Nat.lt_of_le_of_lt h hm
    refine ⟨decide_eq_true ?_, rfl, Nat.le_refl _, ?_⟩
    · have h2 : i.natAbs < 2 ^ 140 := Nat.lt_trans hi (by decide)
      exact Nat.lt_trans (PySem.Flt.log2_lt_of (by decide) h2) (by decide)
    · have q := int_text_length_le10 (k := 40) (by decide) hi
      show (Str.ofString (toString i)).length ≤ 1002
      rw [PySem.ofString_length]
      omega
  | str z =>
    refine ⟨rfl, rfl, Nat.le_refl _, ?_⟩
    have q := PySem.StrLaws.reprText_len z fun c hc => Nat.lt_trans (h.2 c hc) (by decide)
    have := h.1
    show (reprText z).length ≤ 1002
    omega
  | list => exact False.elim h
  | tuple => exact False.elim h
  | dict => exact False.elim h
theorem piled_le {m : Nat} : ∀ {ts : List Str}, (∀ t ∈ ts, t.length ≤ m) → piled ts ≤ ts.length * (m + 2)
  | [], _ => Nat.zero_le _
  | t :: r, h => by
    have h1 := h t List.mem_cons_self
    have h2 := piled_le (ts := r) fun u hu => h u (List.mem_cons_of_mem _ hu)
    rw [List.length_cons, Nat.succ_mul]
    simp only [piled, List.map_cons, List.sum_cons] at h2 ⊢
    omega
theorem tupleText_le {m : Nat} {ts : List Str} (h : ∀ t ∈ ts, t.length ≤ m) : (tupleText ts).length ≤ ts.length * (m + 2) + 4 := by
  unfold tupleText
  have e1 : (("(" : String) : Str).length = 1 := by decide
  have e2 : ((if ts.length == 1 then ",)" else ")" : String) : Str).length ≤ 2 := by split <;> decide
  rw [Str.length_append, Str.length_append]
  cases ts with
  | nil =>
    have : (Str.join ", " ([] : List Str)).length = 0 := rfl
    omega
  | cons x r =>
    have q := join_length_add (x :: r) (by simp)
    have p := piled_le h
    omega
theorem small_tuple {k n m : Nat} {ds : List PyData} (h : ∀ d ∈ ds, Small d k n) (hm : ds.length * (n + 2) + 4 ≤ m) : Small (.tuple ds) (k + 1) m := by
  obtain ⟨h1, h2, h3⟩ := small_all h
  refine ⟨h1, h2, Nat.succ_le_succ h3, Nat.le_trans (tupleText_le (m := n) fun t ht => ?_) (by rw [shownAll_len]; exact hm)⟩
  obtain ⟨d, hd, rfl⟩ := shownAll_mem ht
  exact (h d hd).ln
theorem Small.mono {d : PyData} {k k' n n' : Nat} (h : Small d k n) (hk : k ≤ k') (hn : n ≤ n') : Small d k' n' := ⟨h.sh, h.nd, Nat.le_trans h.dp hk, Nat.le_trans h.ln hn⟩
theorem ElX.small {m : Nat} {d : PyData} (hm : m < 10 ^ 40) (h : ElX m d) : Small d 1 6100 := by
  rcases h with h | ⟨ds, e, hl, q⟩
  · exact (sc_small hm h).mono (by decide) (by decide)
  · have hs : ∀ e ∈ ds, Small e 0 1002 := fun e he => sc_small hm (q e he)
    have hb : ds.length * (1002 + 2) ≤ 6 * 1004 := Nat.mul_le_mul_right _ hl
    rcases e with ⟨rfl, _⟩ | rfl
    · exact small_list hs (by omega)
    · exact small_tuple hs (by omega)
/-- what _law_changed makes -/
def spChg (K : PySem.W.Frag) : Sp := fun vs H Q _ => ∃ (b R L : Addr) (n : Int) (rs : List V) (ds : List PyData) (zs : List Str) (m : Nat), vs = [.ref b, .ref R, .ref L] ∧ Bag H b n ∧ n < 700000 ∧ R ≠ b ∧ L ≠ b ∧ H R = some (.lst rs) ∧ DpAll K H rs ds ∧ 1 ≤ ds.length ∧ ds.length ≤ 100 ∧ (∀ d ∈ ds, BdX m d) ∧
  H L = some (.lst (zs.map V.str)) ∧ 1 ≤ zs.length ∧ zs.length ≤ 100 ∧ (∀ z ∈ zs, isNm z = true) ∧
  ∀ F fs es G, H F = none → F ≠ b → Kept b H G → Bag G b (n + 3) → G F = some (.lst fs) → DpAll K G fs es → es.length ≤ 2 * ds.length → (∀ e ∈ es, ElX (m + 10 ^ 29) e) → Q (.ref F) G
theorem sc_any {K : PySem.W.Frag} {G G' : Hp} {m : Nat} {v : V} {d : PyData} (h : ScD m d) (q : Dp K G v d) : Dp K G' v d := by
  cases q with
  | non => exact .non
  | bl b => exact .bl b
  | int i => exact .int i
  | str x => exact .str x
  | lst => exact False.elim h
  | tup => exact False.elim h
theorem sc_anys {K : PySem.W.Frag} {G G' : Hp} {m : Nat} : ∀ {vs : List V} {ds : List PyData}, (∀ e ∈ ds, ScD m e) → DpAll K G vs ds → DpAll K G' vs ds
  | _, _, _, .nil => .nil
  | _, _, h, .cons a r => .cons (sc_any (h _ List.mem_cons_self) a) (sc_anys (fun e he => h e (List.mem_cons_of_mem _ he)) r)
/-- such a thing stands while all but the bag stands -/
theorem el_kept {K : PySem.W.Frag} {G G' : Hp} {b : Addr} {n : Int} {m : Nat} {v : V} {d : PyData} (hB : Bag G b n) (k : Kept b G G') (h : ElX m d) (q : Dp K G v d) : Dp K G' v d := by
  obtain ⟨bd, bm, bc, eb, _⟩ := hB
  rcases h with h | ⟨ds, e, hl, hs⟩
  · exact sc_any h q
  · rcases e with ⟨rfl, z, r, rfl⟩ | rfl
    · cases q with
      | lst hS hA =>
        refine .lst ?_ (sc_anys hs hA)
        cases hA with
        | cons h1 _ =>
          cases h1
          have hne : ∀ {a : Addr} {u : HO}, G a = some u → (∀ xs, u = .lst (.int bd :: xs) → False) → a ≠ b := by
            rintro a u h1 h2 rfl
            rw [eb] at h1
            exact h2 _ (Option.some.inj h1).symm
          rcases hS with (h | ⟨o2, h⟩) | h
          · exact .inl (.inl (k _ _ (hne h (fun _ z => nomatch z)) h))
          · exact .inl (.inr ⟨o2, k _ _ (hne h (fun _ z => nomatch z)) h⟩)
          · exact .inr h
    · cases q with
      | tup hS hA =>
        refine .tup ?_ (sc_anys hs hA)
        have hne : ∀ {a : Addr} {u : HO}, G a = some u → (∀ xs, u ≠ .lst xs) → a ≠ b := by
          rintro a u h1 h2 rfl
          rw [eb] at h1
          exact h2 _ (Option.some.inj h1).symm
        rcases hS with (h | ⟨o2, h⟩) | h
        · exact .inl (.inl (k _ _ (hne h (fun _ z => nomatch z)) h))
        · exact .inl (.inr ⟨o2, k _ _ (hne h (fun _ z => nomatch z)) h⟩)
        · exact .inr h
theorem els_kept {K : PySem.W.Frag} {G G' : Hp} {b : Addr} {n : Int} {m : Nat} (hB : Bag G b n) (k : Kept b G G') : ∀ {vs : List V} {ds : List PyData}, (∀ e ∈ ds, ElX m e) → DpAll K G vs ds → DpAll K G' vs ds
  | _, _, _, .nil => .nil
  | _, _, h, .cons a r => .cons (el_kept hB k (h _ List.mem_cons_self) a) (els_kept hB k (fun e he => h e (List.mem_cons_of_mem _ he)) r)
theorem el_bd {m : Nat} {d : PyData} (h : ElX m d) (q : bdD d = true) : BdX m d := by
  unfold bdD at q
  cases e : bd3 d with
  | none => rw [e] at q; cases q
  | some t =>
    obtain ⟨rfl, h1, h2, _⟩ := bd3_inv e
    refine ⟨t.1, t.2.1, t.2.2, rfl, h1, h2, ?_⟩
    rcases h with h | ⟨ds, e2, _, hs⟩
    · exact False.elim h
    · rcases e2 with ⟨e2, _⟩ | e2
      · cases e2
      · cases e2
        exact hs (.int t.2.2) (by simp)
end KX

set_option Elab.async false
set_option maxRecDepth 100000
set_option maxHeartbeats 2000000
/-! Facts that stand while nothing tracked changes (mv), or nothing but the bag (mb). -/
namespace KX
open PySem PySem.Spec PySem.Calls PyProof.Rows L2
theorem new_same {H G : Hp} {p : Addr} {o : HO} (e : upd H p o = G) (np : H p = none) : Same H G := e ▸ same_put np
theorem new_at {H G : Hp} {p : Addr} {o : HO} (e : upd H p o = G) : G p = some o := e ▸ upd_same
/-- a list at a, which is not the bag -/
structure LsA (b : Addr) (H : Hp) (a : Addr) (xs : List V) : Prop where
  ne : a ≠ b
  at_ : H a = some (.lst xs)
/-- what stood at first stands, and the bag is new -/
structure SmN (b : Addr) (H0 H : Hp) : Prop where
  no : H0 b = none
  sm : Same H0 H
theorem bag_nt {H : Hp} {b : Addr} {n : Int} (hB : Bag H b n) {a : Addr} {u : HO} (h : H a = some u) (q : ∀ xs, u ≠ .lst xs) : a ≠ b := by
  obtain ⟨d, m, c, e, _⟩ := hB
  rintro rfl
  rw [e] at h
  exact q _ (Option.some.inj h).symm
section
variable {K : PySem.W.Frag} {b a : Addr} {H G : Hp} {n : Int}
theorem _root_.Eq.mv {o : HO} (h : H a = some o) (s : Same H G) : G a = some o := s _ _ h
theorem _root_.L2.SqL.mv {xs : List V} (h : SqL K H a xs) (s : Same H G) : SqL K G a xs := s.seq h
theorem _root_.L2.SqT.mv {xs : List V} (h : SqT K H a xs) (s : Same H G) : SqT K G a xs := sqT_same s h
theorem _root_.L2.Dp.mv {x : V} {d : PyData} (h : Dp K H x d) (s : Same H G) : Dp K G x d := dp_same s _ _ h
theorem _root_.L2.DpAll.mv {xs : List V} {ds : List PyData} (h : DpAll K H xs ds) (s : Same H G) : DpAll K G xs ds := dps_same s _ _ h
theorem _root_.L2.Same.mv {H0 : Hp} (h : Same H0 H) (s : Same H G) : Same H0 G := h.trans s
theorem Bag.mv (h : Bag H b n) (s : Same H G) : Bag G b n := by obtain ⟨d, m, c, e, r⟩ := h; exact ⟨d, m, c, s _ _ e, r⟩
theorem LsA.mv {xs : List V} (h : LsA b H a xs) (s : Same H G) : LsA b G a xs := ⟨h.1, s _ _ h.2⟩
theorem SmN.mv {H0 : Hp} (h : SmN b H0 H) (s : Same H G) : SmN b H0 G := ⟨h.1, h.2.trans s⟩
theorem _root_.Eq.mb {o : HO} (h : H a = some o) (hB : Bag H b n) (k : Kept b H G) (q : ∀ xs, o ≠ .lst xs := by exact nofun) : G a = some o := k _ _ (bag_nt hB h q) h
theorem _root_.L2.SqT.mb {xs : List V} (h : SqT K H a xs) (hB : Bag H b n) (k : Kept b H G) : SqT K G a xs := by
  rcases h with (h | ⟨o2, h⟩) | h
  · exact .inl (.inl (k _ _ (bag_nt hB h nofun) h))
  · exact .inl (.inr ⟨o2, k _ _ (bag_nt hB h nofun) h⟩)
  · exact .inr h
theorem LsA.mb {xs : List V} (h : LsA b H a xs) (_ : Bag H b n) (k : Kept b H G) : LsA b G a xs := ⟨h.1, k _ _ h.1 h.2⟩
theorem SmN.mb {H0 : Hp} (h : SmN b H0 H) (_ : Bag H b n) (k : Kept b H G) : SmN b H0 G := ⟨h.1, fun x o e => k x o (ne_of_none e h.1) (h.2 _ _ e)⟩
end
theorem SmN.off {b D : Addr} {H0 H : Hp} {o : HO} (h : SmN b H0 H) (n : H0 D = none) : SmN b H0 (upd H D o) := ⟨h.1, fun y u e => (upd_ne (ne_of_none e n)).trans (h.2 _ _ e)⟩
theorem LsA.off {b a D : Addr} {H : Hp} {xs : List V} {o : HO} (h : LsA b H a xs) (n : a ≠ D) : LsA b (upd H D o) a xs := ⟨h.1, (upd_ne n).trans h.2⟩
theorem intsDp {K : PySem.W.Frag} {H : Hp} : ∀ zs : List Int, DpAll K H (zs.map V.int) (zs.map PyData.int)
  | [] => .nil
  | z :: r => .cons (.int z) (intsDp r)
theorem listSh {ds : List PyData} {k : Nat} (hk : k < 60) (h : ∀ d ∈ ds, d.canLay0 = true ∧ d.depth ≤ k) : SeqAt.shaped (.list ds) = true := by
  obtain ⟨l1, l2⟩ := lay_all (k := k) h
  exact Bool.and_eq_true_iff.mpr ⟨l1, decide_eq_true (by show PyData.depthAll ds + 1 ≤ _; omega)⟩
theorem tupSh {ds : List PyData} {k : Nat} (hk : k < 60) (h : ∀ d ∈ ds, d.canLay0 = true ∧ d.depth ≤ k) : SeqAt.shaped (.tuple ds) = true := by
  obtain ⟨l1, l2⟩ := lay_all (k := k) h
  exact Bool.and_eq_true_iff.mpr ⟨l1, decide_eq_true (by show PyData.depthAll ds + 1 ≤ _; omega)⟩
theorem intsSh (zs : List Int) : SeqAt.shaped (.list (zs.map PyData.int)) = true := listSh (k := 0) (by decide) fun d hd => by
  obtain ⟨z, _, rfl⟩ := List.mem_map.mp hd
  exact ⟨rfl, Nat.zero_le _⟩
theorem fresh_k {b p : Addr} {H G : Hp} (k : Kept b H G) (ne : p ≠ b) (n : G p = none) : H p = none := by
  cases e : H p with
  | none => rfl
  | some o => rw [k p o ne e] at n; cases n
theorem kept_upd {b p : Addr} {H G : Hp} {o : HO} (k : Kept b H G) (n : H p = none) : Kept b H (upd G p o) := fun x u ne e => (upd_ne (ne_of_none e n)).trans (k x u ne e)
theorem _root_.KX.Kept.mv {b : Addr} {H G G' : Hp} (k : Kept b H G) (s : Same G G') : Kept b H G' := fun x o ne e => s _ _ (k x o ne e)
theorem mergeK_new {kvs : List (Key × V)} (h : (kvs.map (·.1)).Nodup) : mergeK [] kvs = kvs := by
  have : ∀ (kvs acc : List (Key × V)), ((acc ++ kvs).map (·.1)).Nodup → mergeK acc kvs = acc ++ kvs := by
    intro kvs
    induction kvs with
    | nil => intro acc _; simp [mergeK]
    | cons kv r ih =>
      intro acc hn
      unfold mergeK
      rw [List.foldl_cons]
      have hnot : (acc.any fun x => decide (x.1 = kv.1)) = false := by
        rw [List.any_eq_false]
        intro x hx
        rw [List.map_append, List.nodup_append] at hn
        have := hn.2.2 x.1 (List.mem_map_of_mem hx) kv.1 (by simp)
        simpa using this
      have e : putK acc kv.1 kv.2 = acc ++ [kv] := by
        unfold putK
        rw [hnot]
        rfl
      rw [e]
      have := ih (acc ++ [kv]) (by rw [List.append_assoc]; exact hn)
      unfold mergeK at this
      rw [this, List.append_assoc]
      rfl
  have := this kvs [] (by simpa using h)
  simpa using this
/-- a new object, and all as it was -/
theorem LsA.new {b p : Addr} {H : Hp} {n : Int} {xs : List V} {G : Hp} (hB : Bag H b n) (np : H p = none) (h : G p = some (.lst xs)) : LsA b G p xs := ⟨hB.ne np, h⟩
section
variable {X : Cx} {CX : CXT} {k : Nat} {f C : Addr} {sp : Sp} {E : L2.St → XK} {x : Str} {e : Expr} {es : List Expr} {t : TA} {p pos : Pos}
/-- C(..) in a try: what is raised may be told by the slots -/
def tMakeRS (C : Addr) (sp : Sp) (E : L2.St → XK) (t : TA) : TE := fun σ H Q => t σ H fun vs H1 => ∀ x dx, H1 x = Option.none → H1 dx = Option.none → dx ≠ x →
  sp (V.ref x :: vs) (upd (upd H1 dx (.own x)) x (.ins C dx [])) (fun v H2 => v = .non ∧ Q (.ref x) H2) (E σ)
theorem run_makeRS {pins : List (Addr × Obj)} {σ : L2.St} {H : Hp} {s : Shared} {Q : VK} {us : List Value} {vs : List V} {E : XK} (M : Mk X.K C f) (F : FnR X.prog X.w X.K X.mg X.base CX k f sp) (hr : Room (k + 1) X.A) (hx : PassesAt CX X σ E) (I : Inv X pins σ H s) (r : Vals vs us)
    (h : ∀ x dx, H x = Option.none → H dx = Option.none → dx ≠ x → sp (V.ref x :: vs) (upd (upd H dx (.own x)) x (.ins C dx [])) (fun v H2 => v = .non ∧ Q (.ref x) H2) E) :
    wpAny (model X.prog X.w) X.A (call (.ref C) us) (EP X pins σ Q) X.xe s := by
  have hq := h (s.heap.objs.size + 1) s.heap.objs.size (I.hok.fresh (Nat.le_succ _)) (I.hok.fresh (Nat.le_refl _)) (Nat.ne_of_lt (Nat.lt_succ_self _))
  have I2 := Inv.made (C := C) I
  have r2 : Vals (V.ref (s.heap.objs.size + 1) :: vs) (Value.ref (s.heap.objs.size + 1) :: us) := .cons rfl r
  refine wpAny_call (make_map (f := f) I.kIn M.makes M.init (beq_iff_eq.mp M.fn) (codeAny_mono (F _ X.stack _ _ (Value.ref (s.heap.objs.size + 1) :: us) _ _ E (hr.make C us []) (I2.env0.make C us []) r2 hq) fun r s' hq' => ?_))
  cases r with
  | error e => exact hx pins _ _ e s' I2 hq'
  | ok fl =>
    cases fl with
    | ret u =>
      obtain ⟨v, H', I3, rv, ev, q3⟩ := I2.after hq'
      subst ev
      exact ⟨rv, ⟨V.ref (s.heap.objs.size + 1), H', I3, rfl, q3⟩⟩
    | next => exact False.elim hq'
    | brk => exact False.elim hq'
    | cont => exact False.elim hq'
theorem pe_makeRS (M : Mk X.K C f) (F : FnR X.prog X.w X.K X.mg X.base CX k f sp) (hr : Room (k + 1) X.A) (hg : Gl X x) (hm : X.mg x = some (.ref C)) (hx : ∀ σ, PassesAt CX X σ (E σ)) (ha : PA X (e :: es) t) (hdb : (x == ("__debug__" : Str)) = false := by decide)
    (he : starEach (e :: es) X.env = (false, eval e X.env) :: starEach es X.env := by rfl) (hpl : (backTo pos (starEach es X.env)).any (·.1) = false := by rfl) : PE X (.Call (.Name x p) (e :: es) [] pos) (tMakeRS C sp E t) := by
  refine ⟨fun pins s σ H Q I h => ?_⟩
  refine wpAny_Call_Name_kw (ld_glob I hg hm ?_ hdb)
  refine PySem.W.callWith_K (h₀ := X.base) I.ok.mod.kin M.kp (thn (ha.run pos pins s σ H _ I h) fun us s1 ⟨vs, H1, I1, r, q⟩ => ⟨I1.kIn, ?_⟩) he hpl
  exact run_makeRS M F hr (hx σ) I1 r q
theorem pe_makeR0S (M : Mk X.K C f) (F : FnR X.prog X.w X.K X.mg X.base CX k f sp) (hr : Room (k + 1) X.A) (hg : Gl X x) (hm : X.mg x = some (.ref C)) (hx : ∀ σ, PassesAt CX X σ (E σ))
    (hdb : (x == ("__debug__" : Str)) = false := by decide) : PE X (.Call (.Name x p) [] [] pos) (tMakeRS C sp E tNil) := by
  refine ⟨fun pins s σ H Q I h => ?_⟩
  refine wpAny_Call_Name_kw (ld_glob I hg hm ?_ hdb)
  exact PySem.W.callWith_K0 I.kIn M.kp (run_makeRS (us := []) M F hr (hx σ) I .nil h)
end
end KX

set_option Elab.async false
set_option maxRecDepth 100000
set_option maxHeartbeats 2000000
namespace K11
open PySem PySem.Spec PyProof.Rows L2 He KX StX
abbrev sBOI : Stmt := inClass (top 6) 0
abbrev sArg : Stmt := top 12
def spX1 (C : Addr) (f : Str) : Sp := fun vs H Q _ => ∃ (a : Addr) (x : V) (H0 : Hp), vs = [.ref a, x] ∧ H = upd H0 a (exo a C none) ∧ H0 a = none ∧
  ∀ d H', H0 d = none → d ≠ a → H' a = some (exo a C (some d)) → H' d = some (exd d [(f, x)]) → (∀ y, y ≠ a → y ≠ d → H' y = H0 y) → Q .non H'
/-- what is raised: all that was there stands, and the exception's own dict -/
def Raised (C : Addr) (H : Hp) (fs : List (Str × V)) (E : XK) : Prop := ∀ d H', Same H H' → H' d = some (.xd fs) → E (.ref C) (some d) H'
theorem Raised.mv {C : Addr} {H J : Hp} {fs : List (Str × V)} {E : XK} (h : Raised C H fs E) (s : Same H J) : Raised C J fs E := fun d H' s2 e => h d H' (s.trans s2) e
theorem raised_at {C : Addr} {H : Hp} {fs : List (Str × V)} {E : XK} (h : Raised C H fs E) {e d : Addr} {H' : Hp} (he : H e = none) (hd : H d = none) (hne : d ≠ e) (h3 : ∀ y, y ≠ e → y ≠ d → H' y = H y) : E (.ref C) (some d) (upd (del H' e) d (.xd fs)) := by
  refine h d _ (fun b o q => ?_) upd_same
  have nb : b ≠ d := ne_of_none q hd
  have ne : b ≠ e := ne_of_none q he
  rw [upd_ne nb, del_ne ne, h3 b ne nb]
  exact q
theorem dp_str {K : PySem.W.Frag} {H : Hp} {v : V} {z : Str} (h : Dp K H v (.str z)) : v = .str z := by cases h; rfl
theorem inS_true {zs : List Str} {d : PyData} (h : inS zs d = true) : ∃ z ∈ zs, d = .str z := by
  unfold inS at h
  obtain ⟨x, hx, e⟩ := List.any_eq_true.mp h
  obtain ⟨z, hz, rfl⟩ := List.mem_map.mp hx
  cases d with
  | str y => exact ⟨z, hz, by rw [show z = y from beq_iff_eq.mp (show (z == y) = true from e)]⟩
  | _ => cases e
theorem strs_shaped {zs : List Str} (h : ∀ z ∈ zs, SeqAt.shaped (.str z) = true) : SeqAt.shaped (.tuple (zs.map PyData.str)) = true := tupSh (k := 0) (by decide) fun d hd => by
  obtain ⟨z, hz, rfl⟩ := List.mem_map.mp hd
  exact ⟨(Bool.and_eq_true_iff.mp (h z hz)).1, Nat.zero_le _⟩
section
variable {P : Program} {w : World} {K : PySem.W.Frag} {mg : Str → Option Value} {base : Heap}
theorem scBOI : FnScope ["self", "op"] ["self", "op"] (defScope sBOI) := ⟨rfl, rfl, rfl, by decide +kernel, rfl, by decide +kernel, by decide +kernel⟩
theorem ok_boi {f : Addr} {fd : FuncData} (F : FunD K "__init__" "BadOperation.__init__" (defArgs sBOI) (defBody sBOI) (defScope sBOI) [] [] f fd) (B : ErBO K) : FnOk P w K mg base CX0 1 f fd ["self", "op"] (spX1 (ga K "BadOperation") "op") := by
  refine F.ok scBOI (fun vs H Q E h => ?_) (fun cdv A outer s H vs Q E hr h => ?_)
  · obtain ⟨a, x, H0, rfl, _⟩ := h
    rfl
  · obtain ⟨a, x, H0, rfl, rfl, ha, k⟩ := h
    refine ⟨_, PSs.nox (pss_one (ps_st (pv 0) (pv 1))), ?_⟩
    refine ⟨_, rfl, _, rfl, a, _, _, _, rfl, B.T, bsV, B.no _ List.mem_cons_self, .inl ⟨upd_same, fun d hd hda => ?_⟩⟩
    exact k d _ ((upd_ne hda).symm.trans hd) hda upd_same ((upd_ne hda).trans upd_same) (fun x n1 n2 => (upd_ne n1).trans ((upd_ne n2).trans (upd_ne n1)))
theorem yes {b : Bool} {A B : Prop} (h : b = true) (a : A) : if b = true then A else B := by rw [if_pos h]; exact a
theorem no {b : Bool} {A B : Prop} (h : b = false) (a : B) : if b = true then A else B := by rw [if_neg (by rw [h]; decide)]; exact a
/-- arguments_of -/
def spArg (K : PySem.W.Frag) : Sp := fun vs H Q E => ∃ v d, vs = [v] ∧ Dp K H v d ∧ SeqAt.shaped d = true ∧ (∀ o ∈ args, d = .str o.1 → ∀ a, (∀ G, SqT K G a (o.2.map V.str)) → Q (.ref a) H) ∧ (inS ops d = false → Raised (ga K "BadOperation") H [("op", v)] E)
theorem ops_args : ∀ z ∈ ops, ∃ o ∈ args, o.1 = z := by decide +kernel
theorem ops_shaped : SeqAt.shaped (.tuple (ops.map PyData.str)) = true := by decide +kernel
theorem scArg : FnScope ["op"] ["op"] (defScope sArg) := ⟨rfl, rfl, rfl, by decide +kernel, rfl, by decide +kernel, by decide +kernel⟩
theorem ok_arg {f : Addr} {fd fdE : FuncData} (F : FnP K "arguments_of" sArg f fd) (BO : ErBO K) (gBO : mg "BadOperation" = some (.ref (ga K "BadOperation")))
    (FE : FunD K "__init__" "BadOperation.__init__" (defArgs sBOI) (defBody sBOI) (defScope sBOI) [] [] (ma K (ga K "BadOperation") "__init__") fdE)
    (hO : ∀ H, SqT K H (ga K "OPERATIONS") (ops.map V.str)) (gOPS : mg "OPERATIONS" = some (.ref (ga K "OPERATIONS"))) (hA : ∀ o ∈ args, ∃ a, KDct K w (ga K "ARGUMENTS") o.1 (.ref a) ∧ ∀ G, SqT K G a (o.2.map V.str)) (gARG : mg "ARGUMENTS" = some (.ref (ga K "ARGUMENTS"))) :
    FnOk P w K mg base (L2N.CX P w) 3 f fd ["op"] (spArg K) := by
  have GE : FnOk P w K mg base CX0 1 (ma K (ga K "BadOperation") "__init__") fdE ["self", "op"] (spX1 (ga K "BadOperation") "op") := ok_boi FE BO
  have bE : Binds K fdE ["self", "op"] [] := FE.bindsN fun _ _ _ _ _ _ us hl => match us, hl with | [_, _], _ => rfl
  refine F.ok scArg (fun vs H Q E h => ?_) (fun cdv A outer s H vs Q E hr h => ?_)
  · obtain ⟨v, d, rfl, _⟩ := h
    rfl
  · obtain ⟨v, d, rfl, hd, hs, k1, k2⟩ := h
    have nd := scArg.nd
    have hu65 : (A.deeper (envOfC "arguments_of" (defScope sArg) s.heap.objs.size f cdv)).units + 65 < cLine := by have := hr.un; omega
    refine ⟨_, (by exact (pss_cons (ps_if (pt_cmpR (op_notInDT hu65) (pv 0) (pe_glob (v := .ref (ga K "OPERATIONS")) rfl gOPS rfl) rfl)
(pss_one (L2N.ps_raise rfl (L2N.takes_of rfl rfl rfl rfl) (by exact (pmk_x BO.T BO.ty bsV BO.iC BO.fn GE hr bE pass0 rfl gBO (pa_cons (pv 0) pa_nil)))))
pss_nil)
(pss_one (ps_ret (pe_ix ix_kdict (pe_glob (v := .ref (ga K "ARGUMENTS")) rfl gARG rfl) (pv 0) (fun _ _ => rfl)))))), ?_⟩
    refine ⟨_, rfl, d, _, hd, .tup (hO H) (strs_dp ops), hs, ops_shaped, _, rfl, ?_⟩
    rw [if_pos rfl]
    show if (!inS ops d) = true then _ else _
    cases hi : inS ops d with
    | false => exact yes rfl ⟨_, rfl, (by show 1 ≤ 1000; decide), fun e he => ⟨e, _, H, rfl, rfl, he, fun d' H' hd' hde h1 h2 h3 => ⟨rfl, d', _, h1, h2, hd', raised_at (k2 hi) he hd' hde h3⟩⟩⟩
    | true =>
      obtain ⟨z, hz, rfl⟩ := inS_true hi
      obtain rfl := dp_str hd
      obtain ⟨o, ho, rfl⟩ : ∃ o ∈ args, o.1 = z := ops_args z hz
      obtain ⟨a, hu, ha⟩ := hA o ho
      exact no rfl ⟨_, rfl, _, o.1, .ref a, rfl, rfl, hu, k1 o ho rfl a ha⟩
end
end K11

set_option Elab.async false
set_option maxRecDepth 100000
set_option maxHeartbeats 2000000
/-! d == e of two dicts with the same keys whose values are whole numbers, whatever the answer. -/
namespace KX
open PySem PySem.Spec PyProof.Rows L2
theorem val_int {ls : List (Key × V)} {vb : List (Key × Value)} (rb : KV ls vb) {k : Key} {j : Int} (e : valV ls k = some (.int j)) : ∃ t, valueAt vb k = some (.int j t) := by
  have rr : RelO (some (V.int j)) (valueAt vb k) := by rw [← e]; exact rb.val k
  obtain ⟨y, hy, ry⟩ := rr.some_of
  obtain ⟨t, rfl⟩ := ry
  exact ⟨t, hy⟩
theorem hits_ints {A : Around} {s : Shared} {ls : List (Key × V)} {vb : List (Key × Value)} (rb : KV ls vb) {ks : List (Key × V)} {va : List (Key × Value)} (ra : KV ks va) :
    (∀ p ∈ ks, ∃ i j, p.2 = .int i ∧ valV ls p.1 = some (.int j)) → PySem.W.KeqHits A s vb va (ks.all fun p => decide (valV ls p.1 = some p.2)) := by
  unfold KV at ra
  induction ra with
  | nil => exact fun _ => .nil
  | @cons p q ps qs hd tl ih =>
    intro all
    obtain ⟨hk, hv⟩ := hd
    obtain ⟨i, j, e1, e2⟩ := all p List.mem_cons_self
    obtain ⟨key, v⟩ := q
    have hk : p.1 = key := hk
    obtain ⟨tj, hy⟩ := val_int rb e2
    rw [hk] at hy
    rw [e1] at hv
    obtain ⟨ti, rfl⟩ := hv
    rw [List.all_cons]
    have ed : decide (valV ls p.1 = some p.2) = (i == j) := by
      rw [e1, e2]
      by_cases c : i = j
      · rw [c, decide_eq_true rfl, beq_self_eq_true]
      · rw [decide_eq_false (fun q => c (by injection q with q; injection q with q; exact q.symm)), beq_eq_false_iff_ne.mpr c]
    rw [ed]
    exact .hit hy (SeqAt.EqAt.int_int i ti j tj) (ih fun r hr => all r (List.mem_cons_of_mem _ hr))
variable {X : Cx}
def rEqDI : R2 := fun x y H Q => ∃ a b ks ls, x = .ref a ∧ y = .ref b ∧ H a = some (.dK ks) ∧ H b = some (.dK ls) ∧ ks.length = ls.length ∧ (∀ p ∈ ks, ∃ i j, p.2 = .int i ∧ valV ls p.1 = some (.int j)) ∧ Q (.bl (ks.all fun p => decide (valV ls p.1 = some p.2))) H
theorem op_eq_dictI (hu : X.A.units < cLine) : OpR X (compareOp .Eq) rEqDI := by
  intro pins s σ H x y v u Q I rx ry h
  obtain ⟨a, b, ks, ls, rfl, rfl, ea, eb, len, all, q⟩ := h
  cases (show v = Value.ref a from rx)
  cases (show u = Value.ref b from ry)
  obtain ⟨_, na, va, ra, da⟩ := (show ObjOk X.prog X.w H s.heap a (.dK ks) from I.hok a _ ea)
  obtain ⟨_, nb, vb, rb, db⟩ := (show ObjOk X.prog X.w H s.heap b (.dK ls) from I.hok b _ eb)
  have same : va.length = vb.length := by rw [← ra.length, ← rb.length]; exact len
  refine PySem.W.keq_eq (knd := mixKind X.prog X.w) na nb da db hu (fun _ => hits_ints rb ra all) ?_
  rw [same, beq_self_eq_true, Bool.true_and]
  exact ⟨.bl _, H, I, rfl, q⟩
end KX

set_option Elab.async false
set_option maxRecDepth 100000
set_option maxHeartbeats 2000000
/-! d == e, d != e of two dicts whose values are data (lists of texts): whatever the answer. -/
namespace KX
open PySem PySem.Spec PyProof.Rows L2
abbrev KD : Type := List (Key × PyData)
def valD (ld : KD) (k : Key) : Option PyData := (ld.find? fun p => decide (p.1 = k)).map (·.2)
def deqD (kd ld : KD) : Bool := kd.length == ld.length && kd.all fun p => match valD ld p.1 with
  | some e => p.2.eqv e
  | none => false
abbrev PairD (K : PySem.W.Frag) (H : Hp) : List (Key × V) → KD → Prop := Paired fun p q => p.1 = q.1 ∧ Dp K H p.2 q.2 ∧ SeqAt.shaped q.2 = true
/-- a dict with data on the heap -/
def DDat (K : PySem.W.Frag) (H : Hp) (a : Addr) (kd : KD) : Prop := ∃ ks, H a = some (.dK ks) ∧ PairD K H ks kd
variable {K : PySem.W.Frag} {X : Cx}
theorem pairD_val {H : Hp} {ls : List (Key × V)} {ld : KD} (h : PairD K H ls ld) (k : Key) : (valV ls k = none ∧ valD ld k = none) ∨ ∃ v d, valV ls k = some v ∧ valD ld k = some d ∧ Dp K H v d ∧ SeqAt.shaped d = true := by
  induction h with
  | nil => exact .inl ⟨rfl, rfl⟩
  | @cons p q ps qs hd tl ih =>
    obtain ⟨e1, e2, e3⟩ := hd
    by_cases c : p.1 = k
    · refine .inr ⟨p.2, q.2, valV_pos c, ?_, e2, e3⟩
      unfold valD
      rw [List.find?_cons, decide_eq_true (e1 ▸ c)]
      rfl
    · rw [valV_neg c]
      have : valD (q :: qs) k = valD qs k := by
        unfold valD
        rw [List.find?_cons, decide_eq_false (e1 ▸ c)]
      rw [this]
      exact ih
theorem hits_data {pins : List (Addr × Obj)} {σ : L2.St} {H : Hp} {s : Shared} (I : Inv X pins σ H s) {A : Around} (hu : A.in1.units + 64 < cLine) {ls : List (Key × V)} {ld : KD} {vb : List (Key × Value)} (rb : KV ls vb) (pl : PairD X.K H ls ld)
    {ks : List (Key × V)} {kd : KD} (pk : PairD X.K H ks kd) : ∀ {va : List (Key × Value)}, KV ks va → PySem.W.KeqHits A.in1 s vb va (kd.all fun p => match valD ld p.1 with
      | some e => p.2.eqv e
      | none => false) := by
  induction pk with
  | nil =>
    intro va ra
    cases ra
    exact .nil
  | @cons p q ps qs hd tl ih =>
    intro va ra
    cases ra with
    | @cons _ w _ ws hw tw =>
      obtain ⟨hk, hv⟩ := hw
      obtain ⟨e1, e2, e3⟩ := hd
      obtain ⟨key, v⟩ := w
      have hk : p.1 = key := hk
      subst hk
      rw [List.all_cons, ← e1]
      have ro := rb.val p.1
      rcases pairD_val pl p.1 with ⟨n1, n2⟩ | ⟨u, d, n1, n2, n3, n4⟩
      · rw [n1] at ro
        rw [n2]
        have : valueAt vb p.1 = none := by
          cases e : valueAt vb p.1 with
          | none => rfl
          | some y => rw [e] at ro; cases ro
        exact .miss this
      · rw [n1] at ro
        obtain ⟨y, hy, ry⟩ := ro.some_of
        rw [n2]
        obtain ⟨as, r1⟩ := Dp.reads I _ _ _ e2 hv
        obtain ⟨bs, r2⟩ := Dp.reads I _ _ _ n3 ry
        exact .hit hy (PySem.W.keq_at r1 r2 e3 n4 hu) (ih tw)
def rEqDD (K : PySem.W.Frag) (neg : Bool) : R2 := fun x y H Q => ∃ a b kd ld, x = .ref a ∧ y = .ref b ∧ DDat K H a kd ∧ DDat K H b ld ∧ Q (.bl (if neg then !deqD kd ld else deqD kd ld)) H
theorem op_eq_dictD (hu : X.A.units + 65 < cLine) : OpR X (compareOp .Eq) (rEqDD X.K false) := by
  intro pins s σ H x y v u Q I rx ry h
  obtain ⟨a, b, kd, ld, rfl, rfl, ⟨ks, ea, pk⟩, ⟨ls, eb, pl⟩, q⟩ := h
  cases (show v = Value.ref a from rx)
  cases (show u = Value.ref b from ry)
  obtain ⟨_, na, va, ra, da⟩ := (show ObjOk X.prog X.w H s.heap a (.dK ks) from I.hok a _ ea)
  obtain ⟨_, nb, vb, rb, db⟩ := (show ObjOk X.prog X.w H s.heap b (.dK ls) from I.hok b _ eb)
  have l1 : va.length = kd.length := by rw [← ra.length]; exact Paired.length pk
  have l2 : vb.length = ld.length := by rw [← rb.length]; exact Paired.length pl
  refine PySem.W.keq_eq (knd := mixKind X.prog X.w) na nb da db (by omega) (fun _ => hits_data I (by show X.A.units + 1 + 64 < cLine; omega) rb pl pk ra) ?_
  rw [l1, l2]
  exact ⟨.bl _, H, I, rfl, q⟩
theorem op_ne_dictD (hu : X.A.units + 65 < cLine) : OpR X (compareOp .NotEq) (rEqDD X.K true) := by
  intro pins s σ H x y v u Q I rx ry h
  obtain ⟨a, b, kd, ld, rfl, rfl, ⟨ks, ea, pk⟩, ⟨ls, eb, pl⟩, q⟩ := h
  cases (show v = Value.ref a from rx)
  cases (show u = Value.ref b from ry)
  obtain ⟨_, na, va, ra, da⟩ := (show ObjOk X.prog X.w H s.heap a (.dK ks) from I.hok a _ ea)
  obtain ⟨_, nb, vb, rb, db⟩ := (show ObjOk X.prog X.w H s.heap b (.dK ls) from I.hok b _ eb)
  have l1 : va.length = kd.length := by rw [← ra.length]; exact Paired.length pk
  have l2 : vb.length = ld.length := by rw [← rb.length]; exact Paired.length pl
  refine PySem.W.keq_ne (knd := mixKind X.prog X.w) na nb da db (by omega) (fun _ => hits_data I (by show X.A.units + 1 + 64 < cLine; omega) rb pl pk ra) ?_
  rw [l1, l2]
  exact ⟨.bl _, H, I, rfl, q⟩
end KX

set_option Elab.async false
set_option maxRecDepth 100000
set_option maxHeartbeats 1000000
/-! xs.remove(z), xs.count(z) of a list of texts. -/
namespace KX
open PySem PySem.Spec PyProof.Rows L2
def eqz (z : Str) : Value → Bool
  | .str y _ => y == z
  | _ => false
theorem vals_mem {zs : List Str} : ∀ {us : List Value}, Vals (zs.map V.str) us → ∀ y ∈ us, ∃ x t, y = .str x t := by
  induction zs with
  | nil => intro us h; cases h; exact fun y hy => nomatch hy
  | cons z zs ih =>
    intro us h
    cases h with
    | cons hd tl =>
      intro y hy
      rcases List.mem_cons.mp hy with rfl | hy
      · obtain ⟨t, e⟩ := hd
        exact ⟨_, t, e⟩
      · exact ih tl y hy
theorem eqz_gives {z : Str} {t : Tok} {zs : List Str} {us : List Value} (h : Vals (zs.map V.str) us) : ∀ y ∈ us, MeetsSeq.EqGives y (.str z t) (eqz z y) := by
  intro y hy
  obtain ⟨x, u, rfl⟩ := vals_mem h y hy
  exact PyProof.Rows.eqGives_str _ _ _ _
theorem vals_eqz {z : Str} {zs : List Str} {us : List Value} (h : Vals (zs.map V.str) us) (j : Nat) (hj : j < us.length) (hz : j < zs.length) : eqz z us[j] = (zs[j] == z) := by
  have e : (zs.map V.str)[j]? = some (.str zs[j]) := by rw [List.getElem?_map, List.getElem?_eq_getElem hz]; rfl
  obtain ⟨u, hu, ru⟩ := Vals.get h e
  obtain ⟨t, rfl⟩ := ru
  obtain ⟨_, e2⟩ := List.getElem?_eq_some_iff.mp hu
  rw [e2]
  rfl
theorem eqz_count {z : Str} {zs : List Str} : ∀ {us : List Value}, Vals (zs.map V.str) us → List.countP (eqz z) us = zs.count z := by
  induction zs with
  | nil => intro us h; cases h; rfl
  | cons y zs ih =>
    intro us h
    cases h with
    | cons hd tl =>
      obtain ⟨t, rfl⟩ := hd
      rw [List.countP_cons, List.count_cons, ih tl]
      rfl
theorem er_map (zs : List Str) : ∀ j, (zs.map V.str).eraseIdx j = (zs.eraseIdx j).map V.str := by
  induction zs with
  | nil => intro j; rfl
  | cons z zs ih =>
    intro j
    cases j with
    | zero => rfl
    | succ j => show V.str z :: _ = V.str z :: _; rw [ih j]
def rRemS : V → List V → Hp → VK → Prop := fun x xs H Q => ∃ (l : Addr) (zs : List Str) (z : Str), x = .ref l ∧ xs = [.str z] ∧ H l = some (.lst (zs.map V.str)) ∧ z ∈ zs ∧ Q .non (upd H l (.lst ((zs.erase z).map V.str)))
def rCntS (K : PySem.W.Frag) : V → List V → Hp → VK → Prop := fun x xs H Q => ∃ (p : Addr) (zs : List Str) (z : Str), x = .ref p ∧ xs = [.str z] ∧ SqL K H p (zs.map V.str) ∧ Q (.int (zs.count z : Nat)) H
theorem erase_at (zs : List Str) (z : Str) (h : z ∈ zs) : ∃ j, ∃ hj : j < zs.length, zs[j] = z ∧ (∀ m (hm : m < zs.length), m < j → zs[m] ≠ z) ∧ zs.erase z = zs.eraseIdx j := by
  induction zs with
  | nil => cases h
  | cons y ys ih =>
    by_cases c : y = z
    · refine ⟨0, by simp, by simpa using c, fun m _ hm => by omega, ?_⟩
      subst c
      simp
    · have h' : z ∈ ys := by
        rcases List.mem_cons.mp h with e | e
        · exact absurd e.symm c
        · exact e
      obtain ⟨j, hj, e1, e2, e3⟩ := ih h'
      refine ⟨j + 1, by simp; omega, by simpa using e1, fun m hm hmj => ?_, ?_⟩
      · cases m with
        | zero => simpa using c
        | succ m =>
          have := e2 m (by simp at hm; omega) (by omega)
          simpa using this
      · rw [List.erase_cons_tail (by simpa using c), e3]
        rfl
variable {X : Cx}
theorem mt_removeS : MtM X "list.remove" rRemS := by
  intro pins s σ H x xs v us Q I rx rxs h
  obtain ⟨l, zs, z, rfl, rfl, hH, hz, q⟩ := h
  cases rx
  obtain ⟨u, rfl, t, rfl⟩ := Vals.one rxs
  obtain ⟨zl, its, n, r, hl, e⟩ := Inv.lstM I hH
  obtain ⟨j, hj, e1, e2, e3⟩ := erase_at zs z hz
  rw [List.length_map] at zl hl
  refine call_meets F.slot_list_remove ⟨_, e, rfl⟩ F.entry_list_remove (F.args_list_remove_2 (Value.ref l) (Value.str z t))
    (MeetsSeq.list_remove l its.toArray n (Value.str z t) (eqz z) (fun y hy => eqz_gives r y (by simpa using hy)) j (by simpa using hl ▸ hj) ?_ ?_ (by simp; omega)) ⟨e, ?_⟩
  · have := vals_eqz (z := z) r j (hl ▸ hj) hj
    simp [this, e1]
  · intro m hm hmj
    have hm' : m < its.length := by simpa using hm
    have := e2 m (by omega) hmj
    have q2 := vals_eqz (z := z) r m hm' (by omega)
    simp [q2, this]
  · have rr := Vals.eraseIdx j r
    have em : (zs.map V.str).eraseIdx j = (zs.erase z).map V.str := by rw [e3]; exact er_map zs j
    rw [em] at rr
    refine ⟨V.non, _, Inv.lset I hH e (by rw [List.eraseIdxIfInBounds_toArray]) rr ?_, rfl, q⟩
    rw [List.length_map]
    exact Nat.le_trans (List.length_erase_le ..) zl
theorem mt_countS : MtR X "list.count" (rCntS X.K) := by
  intro pins s σ H x xs v us Q I rx rxs h
  obtain ⟨p, zs, z, rfl, rfl, hs, q⟩ := h
  cases rx
  obtain ⟨u, rfl, t, rfl⟩ := Vals.one rxs
  obtain ⟨its, rv, ⟨⟨cls, dd, data, sl⟩, n, ho, hc, hdn, hd⟩, hlen⟩ := Inv.list I hs
  cases hc
  cases hd
  refine call_meets F.slot_list_count ⟨_, ho, rfl⟩ F.entry_list_count (F.args_list_count_2 (Value.ref p) (Value.str z t)) (SeqAt.list_countAt p its.toArray n dd sl (Value.str z t) (eqz z)) ⟨ho, fun y hy => MeetsSeq.EqGives.at (eqz_gives rv y (by simpa using hy)) X.A.in1 s, ?_⟩
  have ec := eqz_count (z := z) rv
  refine ⟨V.int (zs.count z : Nat), _, Inv.tok I (s.toks + 1), ⟨s.toks, ?_⟩, q⟩
  simp only [ec]
end KX

set_option Elab.async false
set_option maxRecDepth 100000
set_option maxHeartbeats 1000000
/-! Plain boards as lists of lists of names: what the operations make of them; and as they stand on the heap. -/
namespace K11
open PySem PySem.Spec PyProof.Rows L2 He KX
abbrev LL : Type := List (Str × List Str)
def allL (L : LL) : List Str := L.flatMap (·.2)
def keysL (L : LL) : List Str := L.map (·.1)
/-- a list of a board, empty if it isn't there -/
def rowsL (L : LL) (k : Str) : List Str := match L.find? fun e => decide (e.1 = k) with
  | some e => e.2
  | none => []
def homeL (L : LL) (x : Str) : Str := match L.find? fun e => decide (x ∈ e.2) with
  | some e => e.1
  | none => ""
structure WF (L : LL) : Prop where
  kn : (keysL L).Nodup
  rn : (allL L).Nodup
def takeL (x : Str) (L : LL) : LL := L.map fun e => (e.1, e.2.erase x)
def openL (k : Str) (L : LL) : LL := if k ∈ keysL L then L else L ++ [(k, [])]
def atL (k : Str) (r : List Str) (L : LL) : LL := L.map fun e => if e.1 = k then (e.1, r) else e
def sw (x y z : Str) : Str := if z = x then y else if z = y then x else z
def swapL (x y : Str) (L : LL) : LL := L.map fun e => (e.1, e.2.map (sw x y))
def insR (i : Nat) (x : Str) (r : List Str) : List Str := r.take i ++ [x] ++ r.drop i
/-- row x comes into a list at an index told by the number of the rows there -/
def intoL (k x : Str) (f : Nat → Nat) (L : LL) : LL := atL k (insR (f (rowsL L k).length) x (rowsL L k)) (openL k L)
/-- the index at which a row comes into a list -/
def idxL (op : Str) (count : Nat) (at_ k : Option Nat) : Nat :=
  if op = "put" ∨ op = "move" then k.getD 1 - 1
  else if op = "top" then 0
  else if op = "up" then at_.getD 0 - 1
  else if op = "down" then min (at_.getD 0 + 1) count
  else count
def atO (L : LL) (x : Str) : Option Nat := if x ∈ allL L then some ((rowsL L (homeL L x)).idxOf x) else none
def apL (op x : Str) (y to : Option Str) (k : Option Nat) (L : LL) : LL :=
  if op = "swap" then swapL x (y.getD "") L
  else if op = "take" then takeL x L
  else intoL (to.getD (homeL L x)) x (fun n => idxL op n (atO L x) k) (takeL x L)
theorem mem_all {L : LL} {x : Str} : x ∈ allL L ↔ ∃ e ∈ L, x ∈ e.2 := List.mem_flatMap
/-- rows of a board are in one list only -/
theorem wf_one {L : LL} (w : (allL L).Nodup) : ∀ {e e' : Str × List Str} {x : Str}, e ∈ L → e' ∈ L → x ∈ e.2 → x ∈ e'.2 → e = e' := by
  induction L with
  | nil => intro e e' x h; cases h
  | cons a L ih =>
    have w' : (a.2 ++ allL L).Nodup := w
    obtain ⟨w1, w2, w3⟩ := List.nodup_append.mp w'
    intro e e' x h h' hx hx'
    rcases List.mem_cons.mp h with rfl | g <;> rcases List.mem_cons.mp h' with rfl | g'
    · rfl
    · exact absurd rfl (w3 x hx x (mem_all.mpr ⟨_, g', hx'⟩))
    · exact absurd rfl (w3 x hx' x (mem_all.mpr ⟨_, g, hx⟩))
    · exact ih w2 g g' hx hx'
theorem wf_row {L : LL} (w : WF L) {e : Str × List Str} (h : e ∈ L) : e.2.Nodup := by
  have := w.rn
  induction L with
  | nil => cases h
  | cons a L ih =>
    have w' : (a.2 ++ allL L).Nodup := this
    obtain ⟨w1, w2, w3⟩ := List.nodup_append.mp w'
    rcases List.mem_cons.mp h with rfl | h
    · exact w1
    · exact ih ⟨(List.nodup_cons.mp (show (a.1 :: keysL L).Nodup from w.kn)).2, w2⟩ h w2
theorem wf_key {L : LL} (w : (keysL L).Nodup) : ∀ {e e' : Str × List Str}, e ∈ L → e' ∈ L → e.1 = e'.1 → e = e' := by
  induction L with
  | nil => intro e e' h; cases h
  | cons a L ih =>
    obtain ⟨w1, w2⟩ := List.nodup_cons.mp (show (a.1 :: keysL L).Nodup from w)
    intro e e' h h' q
    rcases List.mem_cons.mp h with rfl | g <;> rcases List.mem_cons.mp h' with rfl | g'
    · rfl
    · exact absurd (q ▸ List.mem_map.mpr ⟨_, g', rfl⟩) w1
    · exact absurd (q ▸ List.mem_map.mpr ⟨_, g, rfl⟩) w1
    · exact ih w2 g g' q
theorem home_of {L : LL} (w : WF L) {e : Str × List Str} (h : e ∈ L) {x : Str} (hx : x ∈ e.2) : homeL L x = e.1 := by
  unfold homeL
  cases q : L.find? fun e => decide (x ∈ e.2) with
  | none => exact absurd hx (by simpa using List.find?_eq_none.mp q e h)
  | some e' =>
    have h1 : x ∈ e'.2 := of_decide_eq_true (List.find?_some (p := fun e : Str × List Str => decide (x ∈ e.2)) q)
    rw [wf_one w.rn h (List.mem_of_find?_eq_some q) hx h1]
theorem rows_of {L : LL} (w : (keysL L).Nodup) {e : Str × List Str} (h : e ∈ L) : rowsL L e.1 = e.2 := by
  unfold rowsL
  cases q : L.find? fun e' => decide (e'.1 = e.1) with
  | none => exact absurd (decide_eq_true rfl) (List.find?_eq_none.mp q e h)
  | some e' =>
    have h1 : e'.1 = e.1 := of_decide_eq_true (List.find?_some (p := fun e' : Str × List Str => decide (e'.1 = e.1)) q)
    rw [wf_key w (List.mem_of_find?_eq_some q) h h1]
theorem rows_no {L : LL} {k : Str} (h : k ∉ keysL L) : rowsL L k = [] := by
  unfold rowsL
  rw [List.find?_eq_none.mpr fun e he => by
    rw [decide_eq_true_eq]
    rintro rfl
    exact h (List.mem_map.mpr ⟨e, he, rfl⟩)]
/-- a board with the places where its lists stand -/
abbrev TT : Type := List (Str × List Str × Addr)
def lT (T : TT) : LL := T.map fun t => (t.1, t.2.1)
def kvT (T : TT) : List (Key × V) := T.map fun t => (Sum.inr t.1, V.ref t.2.2)
structure DT (H : Hp) (p : Addr) (T : TT) : Prop where
  at_ : H p = some (.dK (kvT T))
  all : ∀ t ∈ T, H t.2.2 = some (.lst (t.2.1.map V.str))
  nd : (T.map (·.2.2)).Nodup
theorem DT.mv {H G : Hp} {p : Addr} {T : TT} (h : DT H p T) (s : Same H G) : DT G p T := ⟨s _ _ h.at_, fun t ht => s _ _ (h.all t ht), h.nd⟩
def DL (H : Hp) (p : Addr) (L : LL) : Prop := ∃ T, lT T = L ∧ DT H p T
theorem DL.mv {H G : Hp} {p : Addr} {L : LL} (h : DL H p L) (s : Same H G) : DL G p L := by obtain ⟨T, e, d⟩ := h; exact ⟨T, e, d.mv s⟩
def setT (a : Addr) (r : List Str) (T : TT) : TT := T.map fun u => if u.2.2 = a then (u.1, r, u.2.2) else u
theorem kv_set {a : Addr} {r : List Str} {T : TT} : kvT (setT a r T) = kvT T := by
  unfold kvT setT
  rw [List.map_map]
  refine List.map_congr_left fun u _ => ?_
  show (Sum.inr (ite (u.2.2 = a) _ _ : Str × List Str × Addr).1, V.ref (ite (u.2.2 = a) _ _ : Str × List Str × Addr).2.2) = _
  by_cases c : u.2.2 = a
  · rw [if_pos c]
  · rw [if_neg c]
theorem addr_inj {T : TT} (nd : (T.map (·.2.2)).Nodup) : ∀ {t u : Str × List Str × Addr}, t ∈ T → u ∈ T → t.2.2 = u.2.2 → t = u := by
  induction T with
  | nil => intro t u h; cases h
  | cons a T ih =>
    obtain ⟨w1, w2⟩ := List.nodup_cons.mp (show (a.2.2 :: T.map (·.2.2)).Nodup from nd)
    intro e e' h h' q
    rcases List.mem_cons.mp h with rfl | g <;> rcases List.mem_cons.mp h' with rfl | g'
    · rfl
    · exact absurd (q ▸ List.mem_map.mpr ⟨_, g', rfl⟩) w1
    · exact absurd (q ▸ List.mem_map.mpr ⟨_, g, rfl⟩) w1
    · exact ih w2 g g' q
theorem DT.put {H : Hp} {p : Addr} {T : TT} (h : DT H p T) {t : Str × List Str × Addr} (ht : t ∈ T) (r : List Str) : DT (upd H t.2.2 (.lst (r.map V.str))) p (setT t.2.2 r T) := by
  refine ⟨?_, fun u hu => ?_, ?_⟩
  · rw [kv_set, upd_ne]
    · exact h.at_
    · intro e
      have := h.all t ht
      rw [← e, h.at_] at this
      cases this
  · obtain ⟨v, hv, rfl⟩ := List.mem_map.mp hu
    by_cases c : v.2.2 = t.2.2
    · rw [if_pos c]
      show upd H _ _ v.2.2 = _
      rw [c, upd_same]
    · rw [if_neg c, upd_ne c]
      exact h.all v hv
  · have : (setT t.2.2 r T).map (·.2.2) = T.map (·.2.2) := by
      unfold setT
      rw [List.map_map]
      refine List.map_congr_left fun u _ => ?_
      show (ite (u.2.2 = t.2.2) _ _ : Str × List Str × Addr).2.2 = _
      by_cases c : u.2.2 = t.2.2
      · rw [if_pos c]
      · rw [if_neg c]
    rw [this]
    exact h.nd
theorem l_set {T : TT} (nd : (T.map (·.2.2)).Nodup) (kn : (keysL (lT T)).Nodup) {t : Str × List Str × Addr} (ht : t ∈ T) (r : List Str) : lT (setT t.2.2 r T) = atL t.1 r (lT T) := by
  unfold lT setT atL
  rw [List.map_map, List.map_map]
  refine List.map_congr_left fun u hu => ?_
  show ((ite (u.2.2 = t.2.2) _ _ : Str × List Str × Addr).1, (ite (u.2.2 = t.2.2) _ _ : Str × List Str × Addr).2.1) = if u.1 = t.1 then (u.1, r) else (u.1, u.2.1)
  by_cases c : u.2.2 = t.2.2
  · rw [if_pos c, if_pos (by rw [addr_inj nd hu ht c])]
  · rw [if_neg c, if_neg]
    intro e
    refine c ?_
    -- keys are unlike
    have : ∀ {T : TT}, (keysL (lT T)).Nodup → ∀ {t u : Str × List Str × Addr}, t ∈ T → u ∈ T → t.1 = u.1 → t = u := by
      intro T
      induction T with
      | nil => intro _ t u h; cases h
      | cons a T ih =>
        intro nd
        obtain ⟨w1, w2⟩ := List.nodup_cons.mp (show (a.1 :: keysL (lT T)).Nodup from nd)
        intro e e' h h' q
        have hk : ∀ v ∈ T, v.1 ∈ keysL (lT T) := fun v hv => List.mem_map.mpr ⟨_, List.mem_map.mpr ⟨v, hv, rfl⟩, rfl⟩
        rcases List.mem_cons.mp h with rfl | g <;> rcases List.mem_cons.mp h' with rfl | g'
        · rfl
        · exact absurd (q ▸ hk _ g') w1
        · exact absurd (q ▸ hk _ g) w1
        · exact ih w2 g g' q
    rw [this kn hu ht e]
theorem kv_val {T : TT} (kn : (keysL (lT T)).Nodup) {t : Str × List Str × Addr} (ht : t ∈ T) : valV (kvT T) (Sum.inr t.1 : Key) = some (V.ref t.2.2) := by
  induction T with
  | nil => cases ht
  | cons a T ih =>
    obtain ⟨w1, w2⟩ := List.nodup_cons.mp (show (a.1 :: keysL (lT T)).Nodup from kn)
    rcases List.mem_cons.mp ht with rfl | h
    · exact valV_pos rfl
    · refine (valV_neg fun e => w1 ?_).trans (ih w2 h)
      have e : a.1 = t.1 := by injection e
      rw [e]
      exact List.mem_map.mpr ⟨_, List.mem_map.mpr ⟨t, h, rfl⟩, rfl⟩
theorem kv_none {T : TT} {k : Str} (h : k ∉ keysL (lT T)) : valV (kvT T) (Sum.inr k : Key) = none := by
  induction T with
  | nil => rfl
  | cons a T ih =>
    have w : k ∉ a.1 :: keysL (lT T) := h
    obtain ⟨w1, w2⟩ := not_or.mp fun q => w (List.mem_cons.mpr q)
    refine (valV_neg fun e => w1 ?_).trans (ih w2)
    have e : a.1 = k := by injection e
    exact e.symm
/-- the homes of the rows -/
def hmL (L : LL) : List (Key × V) := L.flatMap fun e => e.2.map fun r => (Sum.inr r, V.str e.1)
theorem hm_keys (L : LL) : (hmL L).map (·.1) = (allL L).map fun r => (Sum.inr r : Key) := by
  unfold hmL allL
  induction L with
  | nil => rfl
  | cons e L ih =>
    rw [List.flatMap_cons, List.flatMap_cons, List.map_append, List.map_append, ih, List.map_map]
    rfl
theorem hm_none {L : LL} {x : Str} (h : x ∉ allL L) : valV (hmL L) (Sum.inr x : Key) = none := by
  cases q : valV (hmL L) (Sum.inr x : Key) with
  | none => rfl
  | some v =>
    have := valV_in q
    rw [hm_keys] at this
    obtain ⟨r, hr, e⟩ := List.mem_map.mp this
    have e : r = x := by injection e
    exact absurd (e ▸ hr) h
theorem nd_val : ∀ {kvs : List (Key × V)}, (kvs.map (·.1)).Nodup → ∀ {k : Key} {v : V}, (k, v) ∈ kvs → valV kvs k = some v
  | [], _, _, _, h => nomatch h
  | a :: r, nd, k, v, h => by
    obtain ⟨w1, w2⟩ := List.nodup_cons.mp nd
    rcases List.mem_cons.mp h with rfl | h
    · exact valV_pos rfl
    · exact (valV_neg (p := a) fun e => w1 (by show a.1 ∈ _; rw [show a.1 = k from e]; exact List.mem_map.mpr ⟨_, h, rfl⟩)).trans (nd_val w2 h)
theorem hm_val {L : LL} (w : WF L) {e : Str × List Str} (h : e ∈ L) {x : Str} (hx : x ∈ e.2) : valV (hmL L) (Sum.inr x : Key) = some (V.str e.1) := by
  refine nd_val ?_ (List.mem_flatMap.mpr ⟨e, h, List.mem_map.mpr ⟨x, hx, rfl⟩⟩)
  rw [hm_keys]
  exact List.Pairwise.map _ (fun a b ne q => ne (by injection q)) w.rn
theorem hm_len (L : LL) : (hmL L).length = (allL L).length := by
  have := congrArg List.length (hm_keys L)
  rwa [List.length_map, List.length_map] at this
end K11

set_option Elab.async false
set_option maxRecDepth 100000
set_option maxHeartbeats 4000000
/-! {k: v for a in xs .. for b in ys ..}: a dict comprehension with two clauses. -/
namespace KX
open PySem PySem.Spec PyProof.Rows L2
abbrev Dc2E (kx vx t0 i0 : Expr) (f0 : List Expr) (t1 i1 : Expr) (f1 : List Expr) (scope : Scope) (pos : Pos) : Expr := .DictComp kx vx [⟨t0, i0, f0, 0⟩, ⟨t1, i1, f1, 0⟩] scope pos
/-- the tests of a clause -/
abbrev TestsOf (fs : List Expr) (env : Env) : Sem Bool := forIn fs true fun c r => if r = true then do let ok ← isTrue c env (eval c env); pure (ForInStep.yield ok) else pure (ForInStep.yield r)
theorem turn_first (kx vx t0 i0 t1 i1 : Expr) (f0 f1 : List Expr) (scope : Scope) (pos : Pos) (it acc : Value) (env : Env) : compTurn (Dc2E kx vx t0 i0 f0 t1 i1 f1 scope pos) 0 it acc env = (do
    standAt i0.pos
    match ← pyNext it with
    | none => pure (.done .next)
    | some v =>
      letOwnedTupleGo t0 it v
      assign t0 env v
      let mut ok := true
      for c in f0 do
        if ok then ok ← isTrue c env (eval c env)
      if ok then
        let x ← eval i1 env
        standAt i1.pos
        let x ← foldedSetIterable i1 env x
        let _ ← runOwn (.compStart (Dc2E kx vx t0 i0 f0 t1 i1 f1 scope pos) 1 (← holding [x] (pyIter x)) acc env) env
      again (.compLoop (Dc2E kx vx t0 i0 f0 t1 i1 f1 scope pos) 0 it acc env)) := by rfl
theorem turn_second (kx vx t0 i0 t1 i1 : Expr) (f0 f1 : List Expr) (scope : Scope) (pos : Pos) (it : Value) (D : Addr) (env : Env) : compTurn (Dc2E kx vx t0 i0 f0 t1 i1 f1 scope pos) 1 it (.ref D) env = (do
    standAt i1.pos
    match ← pyNext it with
    | none => pure (.done .next)
    | some v =>
      letOwnedTupleGo t1 it v
      assign t1 env v
      let mut ok := true
      for c in f1 do
        if ok then ok ← isTrue c env (eval c env)
      if ok then
        (do
          let kv ← eval kx env
          let vv ← holding [kv] (eval vx env)
          standAt { kx.pos with endLine := vx.pos.endLine, endCol := vx.pos.endCol }
          holding [kv, vv] (dictSet D kv vv))
      again (.compLoop (Dc2E kx vx t0 i0 f0 t1 i1 f1 scope pos) 1 it (.ref D) env)) := by rfl
section
variable {prog : Program} {w : World} {A : Around} {R : Result → Shared → Prop} {s : Shared} {kx vx t0 i0 t1 i1 : Expr} {f0 f1 : List Expr} {scope : Scope} {pos : Pos} {it acc : Value} {D : Addr} {env : Env}
abbrev NtR (prog : Program) (w : World) (A : Around) (env : Env) (R : Result → Shared → Prop) : Value → Shared → Prop := notedBy (model prog w) A env fun e s' => R (.error e) s'
theorem loop_first (folded : ∀ x, foldedSetIterable i1 env x = pure x) (J : Nat → Shared → Prop)
    (turn : ∀ n s, J n s → wpAny (model prog w) A (pyNext it) (fun r sa => match r with
      | none => R (.ok .next) sa
      | some v => wpAny (model prog w) A (letOwnedTupleGo t0 it v) (fun _ sb => wpAny (model prog w) A (assign t0 env v) (fun _ sc => wpAny (model prog w) A (TestsOf f0 env) (fun ok sd =>
          if ok = true then wpAny (model prog w) A (eval i1 env) (fun x se => wpAny (model prog w) A (pyIter x) (fun j sf => codeAny (model prog w) A (.compStart (Dc2E kx vx t0 i0 f0 t1 i1 f1 scope pos) 1 j acc env) (fun r s' => match r with
            | .ok _ => ∃ m, m < n ∧ J m s'
            | .error _ => False) sf) (NtR prog w A env R) se) (NtR prog w A env R) sd
          else ∃ m, m < n ∧ J m sd) (NtR prog w A env R) sc) (NtR prog w A env R) sb) (NtR prog w A env R) sa) (NtR prog w A env R) s) (n : Nat) (h : J n s) :
    codeAny (model prog w) A (.compLoop (Dc2E kx vx t0 i0 f0 t1 i1 f1 scope pos) 0 it acc env) R s := by
  refine codeAny_loop rfl J ?_ n h
  intro n s hJ
  show wpAny _ A ((compTurn (Dc2E kx vx t0 i0 f0 t1 i1 f1 scope pos) 0 it acc env).onRaise fun x => do noteFrame x env; theTreesLotGoes x) _ _ s
  apply wpAny_noted
  rw [turn_first]
  refine wpAny_bind (wpAny_standAt (wpAny_bind (wpAny_mono (turn n s hJ) ?_ fun _ _ z => z)))
  intro r sa ha
  cases r with
  | none => exact wpAny_pure ha
  | some v =>
    refine wpAny_bind (wpAny_mono ha ?_ fun _ _ z => z)
    intro _ sb hb
    refine wpAny_bind (wpAny_mono hb ?_ fun _ _ z => z)
    intro _ sc hc
    refine wpAny_bind (wpAny_mono hc ?_ fun _ _ z => z)
    intro ok sd hd
    cases ok with
    | false => exact wpAny_pure ⟨rfl, hd⟩
    | true =>
      refine wpAny_bind (wpAny_mono hd ?_ fun _ _ z => z)
      intro x se he
      refine wpAny_bind (wpAny_standAt (wpAny_bind (wpAny_of_eq (folded x) (wpAny_bind (wpAny_holding (wpAny_mono he ?_ fun _ _ z => z))))))
      intro j sf hf
      refine wpAny_bind (wpAny_runOwn ?_)
      rw [Around.mark_none]
      refine codeAny_mono hf ?_
      intro r s' hr
      match r, hr with
      | .ok _, hr => first
          | exact wpAny_pure ⟨rfl, hr⟩
          | exact wpAny_bind (wpAny_pure (wpAny_pure ⟨rfl, hr⟩))
      | .error _, hr => exact hr.elim
theorem loop_second (J : Nat → Shared → Prop)
    (turn : ∀ n s, J n s → wpAny (model prog w) A (pyNext it) (fun r sa => match r with
      | none => R (.ok .next) sa
      | some v => wpAny (model prog w) A (letOwnedTupleGo t1 it v) (fun _ sb => wpAny (model prog w) A (assign t1 env v) (fun _ sc => wpAny (model prog w) A (TestsOf f1 env) (fun ok sd =>
          if ok = true then wpAny (model prog w) A (eval kx env) (fun kv se => wpAny (model prog w) A (eval vx env) (fun vv sf => wpAny (model prog w) A (dictSet D kv vv) (fun _ sg => ∃ m, m < n ∧ J m sg) (NtR prog w A env R) sf) (NtR prog w A env R) se) (NtR prog w A env R) sd
          else ∃ m, m < n ∧ J m sd) (NtR prog w A env R) sc) (NtR prog w A env R) sb) (NtR prog w A env R) sa) (NtR prog w A env R) s) (n : Nat) (h : J n s) :
    codeAny (model prog w) A (.compLoop (Dc2E kx vx t0 i0 f0 t1 i1 f1 scope pos) 1 it (.ref D) env) R s := by
  refine codeAny_loop rfl J ?_ n h
  intro n s hJ
  show wpAny _ A ((compTurn (Dc2E kx vx t0 i0 f0 t1 i1 f1 scope pos) 1 it (.ref D) env).onRaise fun x => do noteFrame x env; theTreesLotGoes x) _ _ s
  apply wpAny_noted
  rw [turn_second]
  refine wpAny_bind (wpAny_standAt (wpAny_bind (wpAny_mono (turn n s hJ) ?_ fun _ _ z => z)))
  intro r sa ha
  cases r with
  | none => exact wpAny_pure ha
  | some v =>
    refine wpAny_bind (wpAny_mono ha ?_ fun _ _ z => z)
    intro _ sb hb
    refine wpAny_bind (wpAny_mono hb ?_ fun _ _ z => z)
    intro _ sc hc
    refine wpAny_bind (wpAny_mono hc ?_ fun _ _ z => z)
    intro ok sd hd
    cases ok with
    | false => exact wpAny_pure ⟨rfl, hd⟩
    | true =>
      refine wpAny_bind (wpAny_bind (wpAny_mono hd ?_ fun _ _ z => z))
      intro kv se he
      refine wpAny_bind (wpAny_holding (wpAny_mono he ?_ fun _ _ z => z))
      intro vv sf hf
      refine wpAny_bind (wpAny_standAt (wpAny_holding (wpAny_mono hf ?_ fun _ _ z => z)))
      intro _ sg hg
      exact wpAny_pure ⟨rfl, hg⟩
theorem start_second (h0 : codeAny (model prog w) A (.compLoop (Dc2E kx vx t0 i0 f0 t1 i1 f1 scope pos) 1 it acc env) R s)
    (h : wpAny (model prog w) A (pyIter it) (fun j s' => codeAny (model prog w) A (.compLoop (Dc2E kx vx t0 i0 f0 t1 i1 f1 scope pos) 1 j acc env) R s') (NtR prog w A env R) s) :
    codeAny (model prog w) A (.compStart (Dc2E kx vx t0 i0 f0 t1 i1 f1 scope pos) 1 it acc env) R s := by
  apply codeAny_of_tree
  show wpAny _ _ ((compStart (Dc2E kx vx t0 i0 f0 t1 i1 f1 scope pos) 1 it acc env).onRaise fun x => do noteFrame x env; standAt theWindowsPlace) _ _ s
  apply wpAny_notedAt
  unfold compStart
  show wpAny _ _ (ask >>= _) _ _ s
  refine wpAny_bind (wpAny_askSetting (wpAny_ite ?_))
  split
  · first
      | exact wpAny_bind (wpAny_pure (wpAny_pure ⟨rfl, h0⟩))
      | exact wpAny_pure ⟨rfl, h0⟩
  · first
      | exact wpAny_bind (wpAny_rule (wpAny_bind (wpAny_standAt (wpAny_bind (wpAny_mono h (fun j s' z => wpAny_pure ⟨rfl, z⟩) fun _ _ z => z)))))
      | (refine wpAny_bind (wpAny_rule ?_); show wpAny _ _ (standAt i1.pos >>= _) _ _ s; exact wpAny_bind (wpAny_standAt (wpAny_bind (wpAny_mono h (fun j s' z => wpAny_pure ⟨rfl, z⟩) fun _ _ z => z))))
end
end KX

set_option Elab.async false
set_option maxRecDepth 100000
set_option maxHeartbeats 8000000
/-! The dict comprehension with two clauses as a rule, and its two walks. -/
namespace KX
open PySem PySem.Spec PyProof.Rows L2
/-- what the second clause's walk asks -/
def InnD (J : It) (g : TG) (tt : TT) (tk tv : TE) (vs : List Nat) (σ : L2.St) (D : Addr) (Nx : Hp → Prop) (H0 : Hp) : Prop := ∃ W : Nat → Nat → Hp → Prop, (∃ m, W 0 m H0) ∧ ∀ j m H, W j m H →
  (J.stop j H ∧ Nx H) ∨ (J.go j H ∧ ∃ Ny : Hp → Prop, (∀ H', Ny H' → ∃ m', m' < m ∧ W (j + 1) m' H') ∧ ∀ x H', J.yld j H x H' → g x (wipe σ vs) H' fun τ Ha => wipe τ vs = wipe σ vs ∧ tt τ Ha fun b Hb =>
    if b = true then tk τ Hb fun y Hc => tv τ Hc fun z Hd => ∃ (kvs : List (Key × V)) (k : Key), y = kV k ∧ Hd D = some (.dK kvs) ∧ kvs.length < sizeLine ∧ Ny (upd Hd D (.dK (putK kvs k z))) else Ny Hb)
def tDc2 (wi : TI) (g : TG) (tt : TT) (wj : TI) (g' : TG) (tt' : TT) (tk tv : TE) (vs vs' : List Nat) : TE := fun σ H Q => wi σ H fun J H1 => ∀ D, H1 D = none → ∃ W : Nat → Nat → Hp → Prop, (∃ m, W 0 m (upd H1 D (.dK []))) ∧ ∀ i m H, W i m H →
  (J.stop i H ∧ Q (.ref D) H) ∨ (J.go i H ∧ ∃ Nx : Hp → Prop, (∀ H', Nx H' → ∃ m', m' < m ∧ W (i + 1) m' H') ∧ ∀ x H', J.yld i H x H' → g x (wipe σ vs) H' fun τ Ha => wipe τ vs = wipe σ vs ∧ tt τ Ha fun b Hb =>
    if b = true then wj τ Hb fun J' Hc => InnD J' g' tt' tk tv vs' τ D Nx Hc else Nx Hb)
section
variable {X : Cx}
abbrev BlkP (X : Cx) (scope : Scope) (P : Cx → Prop) : Prop := ∀ (s : Shared) (H : Hp) (C : Addr) (cl : List (Str × Addr)) (fp : List Addr), P (X.blk s H scope (compEnvC scope cl C X.env) fp)
theorem dc2_run {pins : List (Addr × Obj)} {s : Shared} {σ : L2.St} {H : Hp} {Q : VK} {kx vx t0 i0 t1 i1 : Expr} {f0 f1 : List Expr} {scope : Scope} {own : List (Str × Nat)} {vs' : List Nat} {pos pos' : Pos} {wi wj : TI} {g g' : TG} {tt tt' : TT} {tk tv : TE} {use : Option (Value → Sem Unit)} {Qf : Value → Shared → Prop}
    (calm : X.calm = true) (nodup : X.N.Nodup) (I : Inv X pins σ H s) (p0 : PI X t0 i0 wi) (blk : BlkOk X.N X.env.scope scope own) (sub : ∀ i ∈ vs', i ∈ own.map (·.2))
    (q0 : BlkP X scope fun B => PG B t0 g) (r0 : BlkP X scope fun B => PTs B f0 tt) (p1 : BlkP X scope fun B => PI B t1 i1 wj) (q1 : BlkP X scope fun B => PG B t1 g') (r1 : BlkP X scope fun B => PTs B f1 tt')
    (ek : BlkP X scope fun B => PE B kx tk) (ev : BlkP X scope fun B => PE B vx tv) (fo0 : ∀ x, foldedSetIterable i0 X.env x = pure x) (fo1 : ∀ env x, foldedSetIterable i1 env x = pure x)
    (h : tDc2 wi g tt wj g' tt' tk tv (own.map (·.2)) vs' σ H Q)
    (fin : ∀ D C s' m H', Inv X pins σ H' s' → Q (.ref D) H' → s'.heap.Ns C m → FpOk X pins H' C → compPost (model X.prog X.w) X.A X.xe use Qf (.ref D) C (.ok .next) s') :
    wpAny (model X.prog X.w) X.A (comprehension (Dc2E kx vx t0 i0 f0 t1 i1 f1 scope pos) scope X.env pos' newDict false (eval i0 X.env) use) Qf X.xe s := by
  have freeCells : ∀ y ∈ scope.names, y.2 = .free → ∃ c, X.env.cells.lookup y.1 = some c := fun y hy e => (blk.free y hy e).elim (fun q => I.ok.has _ (.inl q)) fun q => I.ok.has _ (.inr q)
  refine wpAny_comprehension_free (use := use) rfl fo0 (closure_ok freeCells) blk.kind (fun y hy e => by rw [blk.uniq y hy, e]) ?_
  refine thn (p0.run pins s σ H _ I h) ?_
  intro xv s1 hx
  refine thn hx ?_
  rintro itv s2 ⟨it, fp, tn, J, Ha, rfl, Ia, T, sta, fpa, q⟩
  refine wpAny_newObj_type (newEnv_comp ?_)
  generalize eD : s2.heap.objs.size = D
  have freshD : Ha D = none := Ia.hok.fresh (Nat.le_of_eq eD)
  obtain ⟨W, ⟨m0, v0⟩, turn⟩ := q D freshD
  generalize e3 : ({ s2 with heap := s2.heap.push { cls := .type "dict", data := .dict #[] } } : Shared) = s3
  have heap3 : s3.heap = s2.heap.push { cls := .type "dict", data := .dict #[] } := by rw [← e3]
  have Ib : Inv X pins σ (upd Ha D (.dK [])) s3 := by
    rw [← e3]
    refine Ia.laid (t' := s2.toks) (fun b u e => Heap.get?_push_of_some _ e) (Nat.le_of_eq eD) ?_
    rw [← eD]
    exact dk_empty s2.heap Ia.big
  have fpb : ∀ b ∈ fp, FpOk X pins (upd Ha D (.dK [])) b ∧ b < s3.heap.objs.size := by
    intro b hb
    obtain ⟨u, e, _⟩ := T.obj _ _ sta b hb
    have below : b < s2.heap.objs.size := Heap.lt_size e
    refine ⟨⟨?_, (fpa b hb).2⟩, ?_⟩
    · rw [upd_ne (by rw [← eD]; exact Nat.ne_of_lt below)]
      exact (fpa b hb).1
    · rw [heap3, Heap.size_push]
      exact Nat.lt_succ_of_lt below
  have stb : tn 0 s3.heap := T.keep _ _ _ sta fun b _ u e => by rw [heap3]; exact Heap.get?_push_of_some _ e
  have Ic := block_start Ib blk nodup fpb
  generalize eH : upd Ha D (.dK []) = Hb at Ib Ic v0 fpb
  let cl := cellsFrom (s3.heap.objs.size + 1) scope.names (cloFrom X.env.cells scope.names [])
  have a0 := q0 s3 Hb s3.heap.objs.size cl fp
  have b0 := r0 s3 Hb s3.heap.objs.size cl fp
  have c1 := p1 s3 Hb s3.heap.objs.size cl fp
  have a1 := q1 s3 Hb s3.heap.objs.size cl fp
  have b1 := r1 s3 Hb s3.heap.objs.size cl fp
  have kk := ek s3 Hb s3.heap.objs.size cl fp
  have vv := ev s3 Hb s3.heap.objs.size cl fp
  show codeAny _ _ (.compStart (Dc2E kx vx t0 i0 f0 t1 i1 f1 scope pos) 0 (.ref it) (.ref D) (compEnvC scope cl s3.heap.objs.size X.env)) (compPost (model X.prog X.w) X.A X.xe use Qf (.ref D) s3.heap.objs.size) { s3 with heap := pushCells (s3.heap.push { cls := .type "dict", data := .dict #[] }) scope.names }
  have Ic : Inv (X.blk s3 Hb scope (compEnvC scope cl s3.heap.objs.size X.env) fp) [] (wipe σ (own.map (·.2))) Hb { s3 with heap := pushCells (s3.heap.push { cls := .type "dict", data := .dict #[] }) scope.names } := Ic
  generalize ece : compEnvC scope cl s3.heap.objs.size X.env = ce at Ic a0 b0 c1 a1 b1 kk vv ⊢
  have place : ce.locals = s3.heap.objs.size := by subst ece; rfl
  have offH : ∀ b ∈ fp, Hb b = none := fun b hb => (fpb b hb).1.1
  generalize e4 : ({ s3 with heap := pushCells (s3.heap.push { cls := .type "dict", data := .dict #[] }) scope.names } : Shared) = s4 at Ic ⊢
  have stc : tn 0 s4.heap := T.keep _ _ _ stb fun b _ u e => by rw [← e4]; exact pushCells_keeps _ _ _ _ (Heap.get?_push_of_some _ e)
  -- what stands in the block of the iterators' own objects
  have own0 : ∀ {τ : L2.St} {G : Hp} {z : Shared}, Inv (X.blk s3 Hb scope ce fp) [] τ G z → (∀ b ∈ fp, G b = none) → ∀ b ∈ fp, FpOk (X.blk s3 Hb scope ce fp) [] G b := fun {τ G z} J0 off b hb =>
    ⟨off b hb, (J0.ok.exf b hb).1, J0.ok.exfs b hb, .inl hb, fun x c e => (J0.ok.exf b hb).2 x c e, fun p hp => absurd (show p ∈ ([] : List (Addr × Obj)) ++ [] from hp) (by simp)⟩
  -- a turn's state
  let Turn0 : Nat → Shared → Prop := fun n z => ∃ i G, Inv (X.blk s3 Hb scope ce fp) [] (wipe σ (own.map (·.2))) G z ∧ tn i z.heap ∧ (∀ b ∈ fp, G b = none) ∧ W i n G
  have loop : codeAny (model X.prog X.w) X.A (.compLoop (Dc2E kx vx t0 i0 f0 t1 i1 f1 scope pos) 0 (.ref it) (.ref D) ce) (compPost (model X.prog X.w) X.A X.xe use Qf (.ref D) s3.heap.objs.size) s4 := by
    refine loop_first (fo1 ce) Turn0 ?_ m0 ⟨0, Hb, Ic, stc, offH, v0⟩
    rintro n z5 ⟨i, G5, I5, st5, off5, w5⟩
    rcases turn i n G5 w5 with ⟨stop, done⟩ | ⟨go, Nx, less, step⟩
    · refine thnF (T.done (X.blk s3 Hb scope ce fp) rfl rfl rfl calm i [] z5 _ G5 (fun _ _ => False) I5 (own0 I5 off5) st5 stop) ?_
      rintro r z6 ⟨rfl, I6⟩
      have back : Inv X pins σ G5 z6 := Ib.call' (ch := fp) I6.os I6.base I6.hok I6.bare fun b hb => by
        obtain ⟨_, x1, x2, x3, x4, x5⟩ := (fpb b hb).1
        exact ⟨x3, x1, x4, x5⟩
      have noC : G5 s3.heap.objs.size = none := by
        have q : G5 ce.locals = none := I6.free
        rw [place] at q
        exact q
      obtain ⟨m, ns, _⟩ := I6.loc
      have ns : z6.heap.Ns ce.locals m := ns
      rw [place] at ns
      exact fin D s3.heap.objs.size z6 m G5 back done ns (Ib.fpOk (Nat.le_refl _) noC)
    · refine thnF (T.item (X.blk s3 Hb scope ce fp) rfl rfl rfl calm i [] z5 _ G5 (fun _ _ => False) I5 (own0 I5 off5) st5 go) ?_
      rintro r z6 ⟨u, rfl, h6⟩
      refine thnF h6 ?_
      rintro _ z7 ⟨x, G7, I7, rx, yx, st7, off7⟩
      have pin7 := I7.pinned (own0 I7 off7) (T.obj _ _ st7)
      refine thnF (a0.run _ z7 _ G7 x u _ pin7 rx (step x G7 yx)) ?_
      rintro _ z8 ⟨τ, G8, I8, wp8, h8⟩
      refine thnF (b0.run _ z8 τ G8 _ I8 h8) ?_
      rintro b z9 ⟨G9, I9, h9⟩
      -- from any slots that know what was known, the first walk goes on
      have next : ∀ {τ' : L2.St} {z : Shared} {G : Hp}, Inv (X.blk s3 Hb scope ce fp) ([] ++ pinsAt fp z7.heap) τ' G z → (wipe σ (own.map (·.2))).length = τ'.length → (∀ (l : Nat) v, (wipe σ (own.map (·.2)))[l]? = some (some v) → τ'[l]? = some (some v)) → Nx G → ∃ m, m < n ∧ Turn0 m z := by
        intro τ' z G J0 len know nx
        obtain ⟨m', lt, w'⟩ := less G nx
        have stay : ∀ b ∈ fp, ∀ o, z7.heap.get? b = some o → z.heap.get? b = some o ∧ G b = none := fun b hb o e => by
          obtain ⟨y1, y2, _⟩ := J0.pin (b, o) (List.mem_append_right _ (List.mem_append_right _ (mem_pinsAt hb e)))
          exact ⟨y1, y2⟩
        refine ⟨m', lt, i + 1, G, (J0.unpinned (pins := [])).weak len know, T.keep _ _ _ st7 fun b hb o e => (stay b hb o e).1, fun b hb => ?_, w'⟩
        obtain ⟨o, e, _⟩ := T.obj _ _ st7 b hb
        exact (stay b hb o e).2
      have len8 : (wipe σ (own.map (·.2))).length = τ.length := by rw [← wp8, wipe_length]
      have know8 : ∀ (l : Nat) v, (wipe σ (own.map (·.2)))[l]? = some (some v) → τ[l]? = some (some v) := fun l v e => (wipe_some (wp8.symm ▸ e)).1
      have know9 : ∀ (l : Nat) v, (wipe σ (own.map (·.2)))[l]? = some (some v) → (wipe τ vs')[l]? = some (some v) := fun l v e => by
        obtain ⟨y1, y2⟩ := wipe_some (wp8.symm ▸ e)
        rw [wipe_out fun q => y2 (sub l q)]
        exact y1
      cases b with
      | false =>
        simp only [Bool.false_eq_true, if_false] at h9 ⊢
        exact next I9 len8 know8 h9
      | true =>
        simp only [if_true] at h9 ⊢
        refine thnF (c1.run _ z9 τ G9 _ I9 h9) ?_
        intro xv2 zA hA
        refine thnF hA ?_
        rintro itv2 zB ⟨it2, fp2, tn2, J2, GB, rfl, IB, T2, stB, fpB, V2, ⟨m2, v2⟩, turn2⟩
        have own1 : ∀ {G : Hp}, (∀ b ∈ fp2, G b = none) → ∀ b ∈ fp2, FpOk (X.blk s3 Hb scope ce fp) ([] ++ pinsAt fp z7.heap) G b := fun off b hb => ⟨off b hb, (fpB b hb).2⟩
        let Turn1 : Nat → Shared → Prop := fun k z => ∃ j G, Inv (X.blk s3 Hb scope ce fp) ([] ++ pinsAt fp z7.heap) (wipe τ vs') G z ∧ tn2 j z.heap ∧ (∀ b ∈ fp2, G b = none) ∧ V2 j k G
        have inner : codeAny (model X.prog X.w) X.A (.compLoop (Dc2E kx vx t0 i0 f0 t1 i1 f1 scope pos) 1 (.ref it2) (.ref D) ce) (fun r z => match r with
            | .ok _ => ∃ m, m < n ∧ Turn0 m z
            | .error _ => False) zB := by
          refine loop_second Turn1 ?_ m2 ⟨0, GB, IB.weak (wipe_length _ _) (fun l v e => (wipe_some e).1), stB, fun b hb => (fpB b hb).1, v2⟩
          rintro k zC ⟨j, GC, IC, stC, offC, vC⟩
          rcases turn2 j k GC vC with ⟨stop2, nx⟩ | ⟨go2, Ny, less2, step2⟩
          · refine thnF (T2.done (X.blk s3 Hb scope ce fp) rfl rfl rfl calm j _ zC (wipe τ vs') GC (fun _ _ => False) IC (own1 offC) stC stop2) ?_
            rintro r zD ⟨rfl, ID⟩
            exact next ID (len8.trans (wipe_length τ vs').symm) know9 nx
          · refine thnF (T2.item (X.blk s3 Hb scope ce fp) rfl rfl rfl calm j _ zC (wipe τ vs') GC (fun _ _ => False) IC (own1 offC) stC go2) ?_
            rintro r zD ⟨u2, rfl, hD⟩
            refine thnF hD ?_
            rintro _ zE ⟨x2, GE, IE, rx2, yx2, stE, offE⟩
            have pinE := IE.pinned (own1 offE) (T2.obj _ _ stE)
            refine thnF (a1.run _ zE (wipe τ vs') GE x2 u2 _ pinE rx2 (step2 x2 GE yx2)) ?_
            rintro _ zF ⟨ρ, GF, IF, wpF, hF⟩
            refine thnF (b1.run _ zF ρ GF _ IF hF) ?_
            rintro b2 zG ⟨GG, IG, hG⟩
            have next2 : ∀ {z : Shared} {G : Hp}, Inv (X.blk s3 Hb scope ce fp) (([] ++ pinsAt fp z7.heap) ++ pinsAt fp2 zE.heap) ρ G z → Ny G → ∃ m, m < k ∧ Turn1 m z := by
              intro z G J0 ny
              obtain ⟨m', lt, v'⟩ := less2 G ny
              have stay : ∀ b ∈ fp2, ∀ o, zE.heap.get? b = some o → z.heap.get? b = some o ∧ G b = none := fun b hb o e => by
                obtain ⟨y1, y2, _⟩ := J0.pin (b, o) (List.mem_append_right _ (List.mem_append_right _ (mem_pinsAt hb e)))
                exact ⟨y1, y2⟩
              refine ⟨m', lt, j + 1, G, J0.unpinned.weak (by rw [← wpF, wipe_length]) (fun l v e => (wipe_some (wpF.symm ▸ e)).1), T2.keep _ _ _ stE fun b hb o e => (stay b hb o e).1, fun b hb => ?_, v'⟩
              obtain ⟨o, e, _⟩ := T2.obj _ _ stE b hb
              exact (stay b hb o e).2
            cases b2 with
            | false =>
              simp only [Bool.false_eq_true, if_false] at hG ⊢
              exact next2 IG hG
            | true =>
              simp only [if_true] at hG ⊢
              refine thnF (kk.run _ zG ρ GG _ IG hG) ?_
              rintro kv zH ⟨yk, GH, IH, rk, hH⟩
              refine thnF (vv.run _ zH ρ GH _ IH hH) ?_
              rintro vw zI ⟨yv, GI, II, rv, kvs, key, rfl, atD, room, ny⟩
              exact d_dictSet (X := X.blk s3 Hb scope ce fp) II atD room rk rv fun zJ IJ => next2 IJ ny
        exact start_second inner (T2.self X.A 0 _ _ _ stB inner)
  exact codeAny_compStart_dict loop (T.self X.A 0 _ _ _ stc loop)
theorem pe_dc2 {kx vx t0 i0 t1 i1 : Expr} {f0 f1 : List Expr} {scope : Scope} {own : List (Str × Nat)} {vs' : List Nat} {pos : Pos} {wi wj : TI} {g g' : TG} {tt tt' : TT} {tk tv : TE} (calm : X.calm = true) (nodup : X.N.Nodup) (p0 : PI X t0 i0 wi) (blk : BlkOk X.N X.env.scope scope own) (sub : ∀ i ∈ vs', i ∈ own.map (·.2))
    (q0 : BlkP X scope fun B => PG B t0 g) (r0 : BlkP X scope fun B => PTs B f0 tt) (p1 : BlkP X scope fun B => PI B t1 i1 wj) (q1 : BlkP X scope fun B => PG B t1 g') (r1 : BlkP X scope fun B => PTs B f1 tt')
    (ek : BlkP X scope fun B => PE B kx tk) (ev : BlkP X scope fun B => PE B vx tv) (fo0 : ∀ x, foldedSetIterable i0 X.env x = pure x := by intro _; rfl) (fo1 : ∀ env x, foldedSetIterable i1 env x = pure x := by intro _ _; rfl) :
    PE X (Dc2E kx vx t0 i0 f0 t1 i1 f1 scope pos) (tDc2 wi g tt wj g' tt' tk tv (own.map (·.2)) vs') := by
  constructor
  intro pins s σ H Q I h
  rw [arm_eval_DictComp]
  refine dc2_run calm nodup I p0 blk sub q0 r0 p1 q1 r1 ek ev fo0 fo1 h ?_
  intro D C s' m H' I' q ns f
  refine ⟨m, ns, fun _ sb => ?_⟩
  obtain ⟨x0, x1, x2, x3, x4, x5⟩ := f
  exact ⟨.ref D, H', I'.turned (t' := s'.toks) (fun b o hb e => (sb.2 b hb).trans e) x0 x1 x3 x4 x5, rfl, q⟩
end
end KX
namespace KX
open PySem PySem.Spec PyProof.Rows L2
theorem ps_setDc2 {X : Cx} {j : Nat} {nm : Str} {pn : Pos} {kx vx t0 i0 t1 i1 : Expr} {f0 f1 : List Expr} {scope : Scope} {own : List (Str × Nat)} {vs' : List Nat} {pos ps0 : Pos} {wi wj : TI} {g g' : TG} {tt tt' : TT} {tk tv : TE} (calm : X.calm = true) (nodup : X.N.Nodup) (hy : X.N[j]? = some nm) (hyl : X.env.scope.names.lookup nm = some .local)
    (hw : swapsWith (Dc2E kx vx t0 i0 f0 t1 i1 f1 scope pos) (some (.Name nm pn)) ps0.line X.env = pure true) (p0 : PI X t0 i0 wi) (blk : BlkOk X.N X.env.scope scope own) (sub : ∀ i ∈ vs', i ∈ own.map (·.2))
    (q0 : BlkP X scope fun B => PG B t0 g) (r0 : BlkP X scope fun B => PTs B f0 tt) (p1 : BlkP X scope fun B => PI B t1 i1 wj) (q1 : BlkP X scope fun B => PG B t1 g') (r1 : BlkP X scope fun B => PTs B f1 tt')
    (ek : BlkP X scope fun B => PE B kx tk) (ev : BlkP X scope fun B => PE B vx tv) (fo0 : ∀ x, foldedSetIterable i0 X.env x = pure x := by intro _; rfl) (fo1 : ∀ env x, foldedSetIterable i1 env x = pure x := by intro _ _; rfl) :
    PS X (.Assign [.Name nm pn] (Dc2E kx vx t0 i0 f0 t1 i1 f1 scope pos) ps0) (tAsg (tDc2 wi g tt wj g' tt' tk tv (own.map (·.2)) vs') (gName j)) := by
  constructor
  intro pins s σ H D I h
  rw [exec_Assign_Name_used _ _ _ _ hw]
  refine wpAny_bind (wpAny_standAt (wpAny_bind ?_))
  show wpAny _ X.A (do let _ ← comprehension (Dc2E kx vx t0 i0 f0 t1 i1 f1 scope pos) scope X.env (firstIterPos [⟨t0, i0, f0, 0⟩, ⟨t1, i1, f1, 0⟩] pos) newDict false (eval i0 X.env) (some (assign (.Name nm pn) X.env))) _ _ s
  have h0 : tDc2 wi g tt wj g' tt' tk tv (own.map (·.2)) vs' σ H (fun x H1 => gName j x σ H1 D.nx) := h
  refine wpAny_bind (thn (dc2_run (Qf := fun _ s' => SP X pins D .next s') calm nodup I p0 blk sub q0 r0 p1 q1 r1 ek ev fo0 fo1 h0 ?_) fun _ s' hq => wpAny_pure (wpAny_pure hq))
  intro D0 C s' m H' I1 q ns f
  show wpAny _ _ (assign (.Name nm pn) X.env (.ref D0)) _ _ _
  refine wpAny_assign_Name (store_ok2 (v := V.ref D0) I1 nodup hy (.inl hyl) rfl (fun s2 I2 ⟨a, sb, ha⟩ => ?_) (.inr hyl))
  obtain ⟨x0, x1, x2, x3, x4, x5⟩ := f
  have apart : C ≠ a := ha.elim (fun z => by rw [z]; exact x1) fun z e => x4 nm a z e.symm
  exact ⟨m, ns.sameBut sb apart, fun h3 sb3 => ⟨_, H', I2.turned (t' := s2.toks) (fun b o hb e => (sb3.2 b hb).trans e) x0 x1 x3 x4 x5, q⟩⟩
end KX

set_option Elab.async false
set_option maxRecDepth 100000
set_option maxHeartbeats 2000000
/-! The walks of {e: f for a in xs for b in ys}. -/
namespace KX
open PySem PySem.Spec PyProof.Rows L2
variable {J : It} {n : Nat} {G : Hp → Prop} {Y : Nat → Hp → V → Hp → Prop} {g g1 : TG} {tt tt1 : TT} {tk tv : TE} {wi1 : TI} {vs vs1 : List Nat} {σ : L2.St} {D : Addr} {Qd : Hp → Prop} {H1 : Hp}
theorem ind_it {Nx : Hp → Prop} (w : Walk J n G Y) (Pv : Nat → Hp → Prop) (h0 : Pv 0 H1) (hG : ∀ i H, i ≤ n → Pv i H → G H)
    (hs : ∀ i x H H', i < n → Pv i H → Y i H x H' → g1 x (wipe σ vs1) H' fun σ3 H5 => wipe σ3 vs1 = wipe σ vs1 ∧ tt1 σ3 H5 fun b H6 =>
      if b = true then tk σ3 H6 fun y H7 => tv σ3 H7 fun z H8 => ∃ (kvs : List (Key × V)) (k : Key), y = kV k ∧ H8 D = some (.dK kvs) ∧ kvs.length < sizeLine ∧ Pv (i + 1) (upd H8 D (.dK (putK kvs k z))) else Pv (i + 1) H6) (hd : ∀ H, Pv n H → Nx H) : InnD J g1 tt1 tk tv vs1 σ D Nx H1 := by
  refine ⟨fun i m H => i + m = n ∧ Pv i H, ⟨n, Nat.zero_add n, h0⟩, fun i m H h => ?_⟩
  obtain ⟨hm, p⟩ := h
  have q := hG i H (by omega) p
  rcases Nat.lt_or_ge i n with hi | hi
  · exact .inr ⟨w.goes i H hi q, Pv (i + 1), fun H' p' => ⟨m - 1, by omega, by omega, p'⟩, fun x H' y => hs i x H H' hi p (w.yields i H x H' hi q y)⟩
  · obtain rfl : i = n := by omega
    exact .inl ⟨w.stops H q, hd H p⟩
theorem dc2_it (w : Walk J n G Y) (Pv : Nat → Hp → Prop) (h0 : Pv 0 (upd H1 D (.dK []))) (hG : ∀ i H, i ≤ n → Pv i H → G H)
    (hs : ∀ i x H H', i < n → Pv i H → Y i H x H' → g x (wipe σ vs) H' fun σ2 H2 => wipe σ2 vs = wipe σ vs ∧ tt σ2 H2 fun b H3 =>
      if b = true then wi1 σ2 H3 fun J1 H4 => InnD J1 g1 tt1 tk tv vs1 σ2 D (Pv (i + 1)) H4 else Pv (i + 1) H3) (hd : ∀ H, Pv n H → Qd H) :
    ∃ W : Nat → Nat → Hp → Prop, (∃ m, W 0 m (upd H1 D (.dK []))) ∧ ∀ i m H, W i m H →
      (J.stop i H ∧ Qd H) ∨ (J.go i H ∧ ∃ Nx : Hp → Prop, (∀ H', Nx H' → ∃ m', m' < m ∧ W (i + 1) m' H') ∧ ∀ x H', J.yld i H x H' → g x (wipe σ vs) H' fun σ2 H2 => wipe σ2 vs = wipe σ vs ∧ tt σ2 H2 fun b H3 =>
        if b = true then wi1 σ2 H3 fun J1 H4 => InnD J1 g1 tt1 tk tv vs1 σ2 D Nx H4 else Nx H3) := by
  refine ⟨fun i m H => i + m = n ∧ Pv i H, ⟨n, Nat.zero_add n, h0⟩, fun i m H h => ?_⟩
  obtain ⟨hm, p⟩ := h
  have q := hG i H (by omega) p
  rcases Nat.lt_or_ge i n with hi | hi
  · exact .inr ⟨w.goes i H hi q, Pv (i + 1), fun H' p' => ⟨m - 1, by omega, by omega, p'⟩, fun x H' y => hs i x H H' hi p (w.yields i H x H' hi q y)⟩
  · obtain rfl : i = n := by omega
    exact .inl ⟨w.stops H q, hd H p⟩
end KX

set_option Elab.async false
set_option maxRecDepth 100000
set_option maxHeartbeats 1000000
namespace K11
open PySem PySem.Spec PyProof.Rows L2 He KX StX
abbrev sLp : Stmt := top 16
abbrev sIdx : Stmt := top 18
abbrev sExc : Stmt := top 19
abbrev sTak : Stmt := top 17
section
variable {P : Program} {w : World} {K : PySem.W.Frag} {mg : Str → Option Value} {base : Heap}
def oV : Option Str → V
  | some z => .str z
  | none => .non
def oI : Option Nat → V
  | some n => .int n
  | none => .non
/-- _index -/
def spIdx : Sp := fun vs H Q _ => ∃ (op : Str) (n : Nat) (a k : Option Nat), vs = [.str op, .int n, oI a, oI k] ∧ (op = "put" ∨ op = "move" → ∃ j, k = some j ∧ 1 ≤ j) ∧ (op = "up" ∨ op = "down" → ∃ j, a = some j) ∧ ∀ G, Same H G → Q (.int (idxL op n a k : Nat)) G
theorem scIdx : FnScope ["op", "count", "at", "k"] ["op", "count", "at", "k"] (defScope sIdx) := ⟨rfl, rfl, rfl, by decide +kernel, rfl, by decide +kernel, by decide +kernel⟩
theorem ok_idx {f : Addr} {fd : FuncData} (F : FnP K "_index" sIdx f fd) (n_max : mg "max" = none) (n_min : mg "min" = none) : FnOk P w K mg base CX0 1 f fd ["op", "count", "at", "k"] spIdx := by
  refine F.ok scIdx (fun vs H Q E h => ?_) (fun cdv A outer s H vs Q E hr h => ?_)
  · obtain ⟨op, n, a, k, rfl, _⟩ := h
    rfl
  · obtain ⟨op, n, a, k, rfl, hk, ha, q⟩ := h
    have nd := scIdx.nd
    refine ⟨_, PSs.nox (pss_cons (ps_if (pt_cmpR op_in_seq (pv 0) (pe_tup (pa_cons pe_str (pa_cons pe_str pa_nil))) rfl)
(pss_one (ps_ret (pe_op op_sub (pv 3) pe_int)))
pss_nil)
(pss_cons (ps_if (pt_cmpR op_eq (pv 0) pe_str (nomark _))
(pss_one (ps_ret pe_int))
pss_nil)
(pss_cons (ps_if (pt_cmpR op_eq (pv 0) pe_str (nomark _))
(pss_one (ps_ret (pe_callB (call_max2 rfl) (by rfl) n_max (by decide +kernel) (pa_cons (pe_op op_sub (pv 2) pe_int) (pa_cons pe_int pa_nil)))))
pss_nil)
(pss_cons (ps_if (pt_cmpR op_eq (pv 0) pe_str (nomark _))
(pss_one (ps_ret (pe_callB (call_min2 rfl) (by rfl) n_min (by decide +kernel) (pa_cons (pe_op op_add (pv 2) pe_int) (pa_cons (pv 1) pa_nil)))))
pss_nil)
(pss_one (ps_ret (pv 1))))))), ?_⟩
    refine ⟨_, rfl, (by show 2 ≤ sizeLine; decide), fun T nT => ?_⟩
    have hT : SqT K (upd H T (.tup [.str "put", .str "move"])) T ((["put", "move"] : List Str).map V.str) := SqT.of (xs := (["put", "move"] : List Str).map V.str) upd_same
    have q := q _ (same_put (o := .tup [.str "put", .str "move"]) nT)
    generalize upd H T (.tup [.str "put", .str "move"]) = G at hT q ⊢
    unfold idxL at q
    refine ⟨T, _, rfl, .inr hT, rfl, rfl, _, rfl, ?_⟩
    show if inV (V.str op) ((["put", "move"] : List Str).map V.str) = true then _ else _
    rw [inV_str]
    by_cases c : op = "put" ∨ op = "move"
    · obtain ⟨j, rfl, hj⟩ := hk c
      rw [if_pos c] at q
      refine yes (decide_eq_true (by simpa using c)) ⟨_, rfl, _, _, rfl, rfl, ?_⟩
      have e : ((j : Int) - 1) = ((some j).getD 1 - 1 : Nat) := by show _ = ((j - 1 : Nat) : Int); omega
      rw [← e] at q
      exact q
    · rw [if_neg c] at q
      refine no (decide_eq_false (by simpa using c)) ⟨_, rfl, rfl, _, rfl, ?_⟩
      rw [str_dec]
      by_cases c1 : op = "top"
      · rw [if_pos c1] at q
        exact yes (decide_eq_true c1) q
      · rw [if_neg c1] at q
        refine no (decide_eq_false c1) ⟨_, rfl, rfl, _, rfl, ?_⟩
        rw [str_dec]
        by_cases c2 : op = "up"
        · obtain ⟨j, rfl⟩ := ha (.inl c2)
          rw [if_pos c2] at q
          refine yes (decide_eq_true c2) ⟨_, rfl, _, _, rfl, rfl, _, _, rfl, ?_⟩
          have e : (if (0 : Int) > (j : Int) - 1 then (0 : Int) else (j : Int) - 1) = ((some j).getD 0 - 1 : Nat) := by
            show _ = ((j - 1 : Nat) : Int)
            split <;> omega
          rw [e]
          exact q
        · rw [if_neg c2] at q
          refine no (decide_eq_false c2) ⟨_, rfl, rfl, _, rfl, ?_⟩
          rw [str_dec]
          by_cases c3 : op = "down"
          · obtain ⟨j, rfl⟩ := ha (.inr c3)
            rw [if_pos c3] at q
            refine yes (decide_eq_true c3) ⟨_, rfl, _, _, rfl, rfl, _, rfl, _, _, rfl, ?_⟩
            have e : (if (n : Int) < (j : Int) + 1 then (n : Int) else (j : Int) + 1) = (min ((some j).getD 0 + 1) n : Nat) := by
              show _ = ((min (j + 1) n : Nat) : Int)
              split <;> omega
            rw [e]
            exact q
          · rw [if_neg c3] at q
            exact no (decide_eq_false c3) ⟨_, rfl, q⟩
/-- _exchange -/
def spExc (K : PySem.W.Frag) : Sp := fun vs H Q _ => ∃ (a b : Addr) (r1 r2 : List Str) (x y : Str), vs = [.ref a, .ref b, .str x, .str y] ∧ H a = some (.lst (r1.map V.str)) ∧ H b = some (.lst (r2.map V.str)) ∧ x ∈ r1 ∧ y ∈ r2 ∧ ∀ r3 : List Str, upd H a (.lst ((r1.set (r1.idxOf x) y).map V.str)) b = some (.lst (r3.map V.str)) →
  Q .non (upd (upd H a (.lst ((r1.set (r1.idxOf x) y).map V.str))) b (.lst ((r3.set (r2.idxOf y) x).map V.str)))
theorem idx_at {r : List Str} {x : Str} (h : x ∈ r) : (r.map V.str)[r.idxOf x]? = some (V.str x) ∧ ∀ (m : Nat) (z : V), m < r.idxOf x → (r.map V.str)[m]? = some z → eqV z (.str x) = false := by
  have hl := List.idxOf_lt_length_iff.mpr h
  refine ⟨?_, fun m z hm hz => ?_⟩
  · rw [List.getElem?_map, List.getElem?_eq_getElem hl, List.getElem_idxOf]
    rfl
  · rw [List.getElem?_map, List.getElem?_eq_getElem (by omega)] at hz
    obtain rfl := Option.some.inj hz
    refine decide_eq_false fun e => ?_
    have n := List.not_of_lt_findIdx (p := fun y => y == x) (xs := r) (i := m) hm
    exact absurd (show (r[m]'(by omega) == x) = true by rw [e]; exact beq_self_eq_true x) (by rw [n]; exact nofun)
theorem scExc : FnScope ["rows", "others", "x", "y", "at", "place"] ["rows", "others", "x", "y"] (defScope sExc) := ⟨rfl, rfl, rfl, by decide +kernel, rfl, by decide +kernel, by decide +kernel⟩
theorem ok_exc {f : Addr} {fd : FuncData} (F : FnP K "_exchange" sExc f fd) : FnOk P w K mg base CX0 1 f fd ["rows", "others", "x", "y"] (spExc K) := by
  refine F.ok scExc (fun vs H Q E h => ?_) (fun cdv A outer s H vs Q E hr h => ?_)
  · obtain ⟨a, b, r1, r2, x, y, rfl, _⟩ := h
    rfl
  · obtain ⟨a, b, r1, r2, x, y, rfl, ha, hb, hx, hy, q⟩ := h
    have nd := scExc.nd
    refine ⟨_, PSs.nox (pss_cons (ps_par (i := 4) (j := 5) (by rfl) nd rfl rfl (by decide) rfl rfl (pa_cons (pe_bm PySem.F.plainAttrs_list PySem.F.slot_list_index PySem.F.type_list_index mt_index (pv 0) (pa_cons (pv 2) pa_nil)) (pa_cons (pe_bm PySem.F.plainAttrs_list PySem.F.slot_list_index PySem.F.type_list_index mt_index (pv 1) (pa_cons (pv 3) pa_nil)) pa_nil)) (by rfl))
(pss_cons (ps_asg (pv 3) (pg_sub (pv 0) (pv 4) set_list))
(pss_one (ps_asg (pv 2) (pg_sub (pv 1) (pv 5) set_list))))), ?_⟩
    have lx := List.idxOf_lt_length_iff.mpr hx
    have ly := List.idxOf_lt_length_iff.mpr hy
    refine ⟨_, rfl, .inl ⟨rfl, _, SqL.of ha⟩, _, rfl, a, _, _, _, _, rfl, rfl, SqL.of ha, rfl, flat_strs r1, (idx_at hx).1, decide_eq_true rfl, (idx_at hx).2, _, rfl, .inl ⟨rfl, _, SqL.of hb⟩, _, rfl, b, _, _, _, _, rfl, rfl, SqL.of hb, rfl, flat_strs r2, (idx_at hy).1, decide_eq_true rfl, (idx_at hy).2, ?_⟩
    refine ⟨_, _, rfl, _, rfl, _, rfl, _, rfl, a, _, _, _, rfl, rfl, ha, ixN_nat (by rw [List.length_map]; exact lx), _, rfl, _, rfl, _, rfl, b, ?_⟩
    have e1 : (r1.map V.str).set (r1.idxOf x) (V.str y) = (r1.set (r1.idxOf x) y).map V.str := by rw [List.map_set]
    have key : ∃ r3 : List Str, upd H a (.lst ((r1.set (r1.idxOf x) y).map V.str)) b = some (.lst (r3.map V.str)) ∧ r3.length = r2.length := by
      by_cases c : b = a
      · subst c
        rw [hb] at ha
        have e2 := congrArg (fun o => match o with | some (HO.lst xs) => xs.length | _ => 0) ha
        dsimp only at e2
        rw [List.length_map, List.length_map] at e2
        exact ⟨_, upd_same, by rw [List.length_set]; exact e2.symm⟩
      · exact ⟨r2, (upd_ne c).trans hb, rfl⟩
    obtain ⟨r3, h3, l3⟩ := key
    have q := q r3 h3
    rw [← e1] at h3 q
    refine ⟨_, _, _, rfl, rfl, h3, ixN_nat (by rw [List.length_map, l3]; exact ly), ?_⟩
    rw [List.map_set] at q
    exact q
theorem frz_back {H G : Hp} {d : Addr} {od : Obj} {kvs : List (Key × V)} (hd : H d = some (.dK kvs)) (s : Same (upd H d (.frz od (.dK kvs))) G) : Same H (upd G d (.dK kvs)) := fun x o e => by
  by_cases hx : x = d
  · subst hx
    rw [hd] at e
    rw [upd_same]
    exact e
  · rw [upd_ne hx]
    exact s _ _ ((upd_ne hx).trans e)
theorem flt_take {α : Type} {p : α → Bool} {l : List α} {i : Nat} {a : α} (h : l[i]? = some a) : (l.take (i + 1)).filter p = (l.take i).filter p ++ (if p a = true then [a] else []) := by
  rw [take_at h, List.filter_append, List.filter_cons]
  rfl
/-- _last_place: the rows of a list but one -/
def lpL (L : LL) (x to : Str) : Nat := ((hmL L).filter fun p => decide (p.2 = V.str to) && !decide (p.1 = (Sum.inr x : Key))).length
def spLp : Sp := fun vs H Q _ => ∃ (h : Addr) (L : LL) (x to : Str), vs = [.ref h, .str x, .str to] ∧ H h = some (.dK (hmL L)) ∧ WF L ∧ (allL L).length ≤ 2000 ∧ ∀ G, Same H G → Q (.int (lpL L x to + 1 : Nat)) G
theorem scLp : FnScope ["homes", "x", "to", "row"] ["homes", "x", "to"] (defScope sLp) := ⟨rfl, rfl, rfl, by decide +kernel, rfl, by decide +kernel, by decide +kernel⟩
theorem ok_lp {f : Addr} {fd : FuncData} (F : FnP K "_last_place" sLp f fd) (n_len : mg "len" = none) : FnOk P w K mg base CX0 1 f fd ["homes", "x", "to"] spLp := by
  refine F.ok scLp (fun vs H Q E h => ?_) (fun cdv A outer s H vs Q E hr h => ?_)
  · obtain ⟨h, L, x, to, rfl, _⟩ := h
    rfl
  · obtain ⟨h, L, x, to, rfl, hh, wf, hl, q⟩ := h
    have nd := scLp.nd
    have hu : (A.deeper (envOfC "_last_place" (defScope sLp) s.heap.objs.size f cdv)).units + 1 < cLine := by have := hr.un; omega
    refine ⟨_, PSs.nox (pss_one (ps_ret (pe_op op_add (pe_callB call_len_seq (by rfl) n_len PySem.boot_len (pa_cons (pe_lock (pe_lc (own := [("row", 3)]) (g := (gName 3))  rfl nd (pi_keys (pv 0)) (blkOk_by (own := [("row", 3)]) (N := ["homes", "x", "to", "row"]) (sc := defScope sLp) (by decide +kernel)) (fun _ _ _ _ _ => (pg_name (i := 3) nd rfl (Or.inl rfl))) (fun _ _ _ _ _ => (pts_one (PW.pt (pw_and (pt_cmpR op_eq (pe_dget hu (pv 0) (pv 3) (fun _ _ => rfl)) (pv 2) (nomark _)) (pw_and1 (pt_cmpR op_ne (pv 3) (pv 1) (nomark _))))))) (fun _ _ _ _ _ => (pv 3)))) pa_nil)) pe_int))), ?_⟩
    refine ⟨h, _, hh, trivial, fun od => ?_⟩
    have fd0 : upd H h (.frz od (.dK (hmL L))) h = some (.frz od (.dK (hmL L))) := upd_same
    have back := fun G => frz_back (G := G) (od := od) hh
    generalize upd H h (.frz od (.dK (hmL L))) = Hf at fd0 back ⊢
    have nk : ((hmL L).map (·.1)).Nodup := by rw [hm_keys]; exact List.Pairwise.map _ (fun a b ne q => ne (by injection q)) wf.rn
    refine ⟨_, rfl, h, od, rfl, .inl ⟨_, fd0, fun D nD => ?_⟩⟩
    refine lc_it (walk_keys (d := h) (o := od) (kvs := hmL L)) (fun i G => G D = some (.lst (((((hmL L).take i).filter fun p => decide (p.2 = V.str to) && !decide (p.1 = (Sum.inr x : Key))).map fun p => kV p.1))) ∧ Same Hf G) ⟨upd_same, same_put nD⟩ (fun i G _ h => h.2 _ _ fd0) ?_ ?_
    · rintro i v G' G2 hi ⟨hD2, sG2⟩ ⟨rfl, key, val, hkv, rfl⟩
      have hin := List.mem_of_getElem? hkv
      have hval := nd_val nk hin
      obtain ⟨e, _, he⟩ := List.mem_flatMap.mp hin
      obtain ⟨rn, _, ekv⟩ := List.mem_map.mp he
      obtain ⟨rfl, rfl⟩ : Sum.inr rn = key ∧ V.str e.1 = val := by injection ekv with e1 e2; exact ⟨e1, e2⟩
      have hget : DGet G2 h (V.str rn) (some (V.str e.1)) := .inl ⟨_, .inr rn, .inr ⟨od, sG2 _ _ fd0⟩, rfl, hval.symm⟩
      refine ⟨rfl, ?_⟩
      have etk : ((hmL L).take (i + 1)).filter (fun p => decide (p.2 = V.str to) && !decide (p.1 = (Sum.inr x : Key))) = ((hmL L).take i).filter (fun p => decide (p.2 = V.str to) && !decide (p.1 = (Sum.inr x : Key))) ++ (if (decide (V.str e.1 = V.str to) && !decide ((Sum.inr rn : Key) = (Sum.inr x : Key))) = true then [((Sum.inr rn : Key), V.str e.1)] else []) := flt_take hkv
      have hle : (((hmL L).take i).filter fun p => decide (p.2 = V.str to) && !decide (p.1 = (Sum.inr x : Key))).length ≤ 2000 := Nat.le_trans (List.length_filter_le ..) (by rw [List.length_take, hm_len]; omega)
      refine ⟨_, rfl, _, rfl, h, _, rfl, hget, _, rfl, rfl, _, rfl, ?_⟩
      have dn : ∀ b : Bool, (decide (V.str e.1 = V.str to) && !decide ((Sum.inr rn : Key) = (Sum.inr x : Key))) = b → (if b = true then (∃ acc, G2 D = some (.lst acc) ∧ acc.length < sizeLine ∧ upd G2 D (.lst (acc ++ [V.str rn])) D = some (.lst (((((hmL L).take (i + 1)).filter fun p => decide (p.2 = V.str to) && !decide (p.1 = (Sum.inr x : Key))).map fun p => kV p.1))) ∧ Same Hf (upd G2 D (.lst (acc ++ [V.str rn])))) else (G2 D = some (.lst (((((hmL L).take (i + 1)).filter fun p => decide (p.2 = V.str to) && !decide (p.1 = (Sum.inr x : Key))).map fun p => kV p.1))) ∧ Same Hf G2)) := by
        intro b hb
        rw [etk, hb]
        cases b with
        | true =>
          rw [if_pos rfl, if_pos rfl]
          refine ⟨_, hD2, by rw [List.length_map, sizeLine_eq]; omega, ?_, fun y o z => (upd_ne (ne_of_none z nD)).trans (sG2 _ _ z)⟩
          rw [upd_same, List.map_append]
          rfl
        | false =>
          rw [if_neg nofun, if_neg nofun, List.append_nil]
          exact ⟨hD2, sG2⟩
      by_cases c1 : V.str e.1 = V.str to
      · refine yes (decide_eq_true c1) ⟨_, rfl, _, rfl, rfl, _, rfl, ?_⟩
        by_cases c2 : V.str rn = V.str x
        · have q3 := dn false (by rw [decide_eq_true (show (Sum.inr rn : Key) = Sum.inr x by injection c2 with c2; rw [c2])]; simp)
          rw [if_neg nofun] at q3
          exact no (show (!decide (V.str rn = V.str x)) = false by rw [decide_eq_true c2]; rfl) q3
        · have q3 := dn true (by rw [decide_eq_true c1, decide_eq_false fun z => c2 (by injection z with z; rw [z])]; rfl)
          rw [if_pos rfl] at q3
          exact yes (show (!decide (V.str rn = V.str x)) = true by rw [decide_eq_false c2]; rfl) ⟨_, rfl, q3⟩
      · have q3 := dn false (by rw [decide_eq_false c1]; rfl)
        rw [if_neg nofun] at q3
        exact no (decide_eq_false c1) (no rfl q3)
    · rintro G ⟨hD, sG⟩
      have sB := back G sG
      refine ⟨sG _ _ fd0, D, _, rfl, .inl (SqL.of ((upd_ne (ne_of_none fd0 nD).symm).trans hD)), _, _, rfl, rfl, ?_⟩
      have q := q _ sB
      rw [List.take_of_length_le (Nat.le_refl _), List.length_map]
      exact q
/-- _taken_out -/
def spTak (K : PySem.W.Frag) : Sp := fun vs H Q _ => ∃ (p h : Addr) (L : LL) (T : TT) (x : Str), vs = [.ref p, .ref h, .str x] ∧ lT T = L ∧ DT H p T ∧ H h = some (.dK (hmL L)) ∧ WF L ∧
  (x ∉ allL L → Q .non H) ∧ ∀ t ∈ T, x ∈ t.2.1 → Q (.int (t.2.1.idxOf x : Nat)) (upd H t.2.2 (.lst ((t.2.1.erase x).map V.str)))
theorem scTak : FnScope ["after", "homes", "x", "rows", "at"] ["after", "homes", "x"] (defScope sTak) := ⟨rfl, rfl, rfl, by decide +kernel, rfl, by decide +kernel, by decide +kernel⟩
theorem ok_tak {f : Addr} {fd : FuncData} (F : FnP K "_taken_out" sTak f fd) : FnOk P w K mg base CX0 1 f fd ["after", "homes", "x"] (spTak K) := by
  refine F.ok scTak (fun vs H Q E h => ?_) (fun cdv A outer s H vs Q E hr h => ?_)
  · obtain ⟨p, h, L, T, x, rfl, _⟩ := h
    rfl
  · obtain ⟨p, h, L, T, x, rfl, rfl, hT, hh, wf, k1, k2⟩ := h
    have nd := scTak.nd
    have hu : (A.deeper (envOfC "_taken_out" (defScope sTak) s.heap.objs.size f cdv)).units + 1 < cLine := by have := hr.un; omega
    refine ⟨_, PSs.nox (pss_cons (ps_if (pt_cmp (pc_dnotin hu (pv 2) (pv 1)))
(pss_one (ps_ret pe_non))
pss_nil)
(pss_cons (ps_set (i := 3) nd rfl (Or.inl rfl) (pe_dget hu (pv 0) (pe_dget hu (pv 1) (pv 2) (fun _ _ => rfl)) (fun _ _ => rfl)))
(pss_cons (ps_set (i := 4) nd rfl (Or.inl rfl) (pe_bm PySem.F.plainAttrs_list PySem.F.slot_list_index PySem.F.type_list_index mt_index (pv 3) (pa_cons (pv 2) pa_nil)))
(pss_cons (ps_expr (pe_bm PySem.F.plainAttrs_list PySem.F.slot_list_remove PySem.F.type_list_remove mt_removeS (pv 3) (pa_cons (pv 2) pa_nil)))
(pss_one (ps_ret (pv 4))))))), ?_⟩
    by_cases c : x ∈ allL (lT T)
    · obtain ⟨e, he, hx⟩ := mem_all.mp c
      obtain ⟨t, ht, rfl⟩ := List.mem_map.mp he
      have hx : x ∈ t.2.1 := hx
      have hv := hm_val wf he hx
      have hl := hT.all t ht
      have hk := kv_val wf.kn ht
      have k2 := k2 t ht hx
      have g1 : DGet H h (V.str x) (some (V.str t.1)) := .inl ⟨_, .inr x, .inl hh, rfl, hv.symm⟩
      have g2 : DGet H p (V.str t.1) (some (V.ref t.2.2)) := .inl ⟨_, .inr t.1, .inl hT.at_, rfl, hk.symm⟩
      refine ⟨_, rfl, _, rfl, h, _, rfl, g1, _, rfl, no rfl ⟨_, rfl, _, rfl, _, rfl, h, _, rfl, g1, p, _, rfl, g2, ?_⟩⟩
      refine ⟨_, rfl, .inl ⟨rfl, _, SqL.of hl⟩, _, rfl, t.2.2, _, _, _, _, rfl, rfl, SqL.of hl, rfl, flat_strs _, (idx_at hx).1, decide_eq_true rfl, (idx_at hx).2, ?_⟩
      refine ⟨_, rfl, .inl ⟨rfl, _, SqL.of hl⟩, _, rfl, t.2.2, _, _, rfl, rfl, hl, hx, _, rfl, k2⟩
    · have hv := hm_none c
      have g1 : DGet H h (V.str x) none := .inl ⟨_, .inr x, .inl hh, rfl, hv.symm⟩
      exact ⟨_, rfl, _, rfl, h, _, rfl, g1, _, rfl, yes rfl (k1 c)⟩
end
end K11

set_option Elab.async false
set_option maxRecDepth 100000
set_option maxHeartbeats 1000000
namespace K11
open PySem PySem.Spec PyProof.Rows L2 He KX StX
abbrev sFit : Stmt := top 15
abbrev sChk : Stmt := top 14
abbrev newL : List Str := ["put", "add"]
/-- what an argument must be -/
def FitV (o : Str × List Str) (L : LL) (name : Str) (v x to : V) : Prop := if name ∈ o.2 then
    (if name = "to" then ∃ z, v = .str z ∧ isNm z = true
     else if name = "k" then ∃ (k : Nat) (xs ts : Str), v = .int k ∧ x = .str xs ∧ to = .str ts ∧ 1 ≤ k ∧ k ≤ lpL L xs ts + 1
     else if o.1 ∈ newL then ∃ z, v = .str z ∧ isNm z = true ∧ z ∉ allL L
     else ∃ z, v = .str z ∧ z ∈ allL L)
  else v = .non
def spFit : Sp := fun vs H Q _ => ∃ (name : Str) (o : Str × List Str) (h : Addr) (L : LL) (v x to : V), vs = [.str name, v, .str o.1, .ref h, x, to] ∧ o ∈ args ∧ H h = some (.dK (hmL L)) ∧ WF L ∧ (allL L).length ≤ 2000 ∧ FitV o L name v x to ∧ ∀ G, Same H G → Q (.bl true) G
section
variable {P : Program} {w : World} {K : PySem.W.Frag} {mg : Str → Option Value} {base : Heap}
theorem scFit : FnScope ["name", "worth", "op", "homes", "x", "to"] ["name", "worth", "op", "homes", "x", "to"] (defScope sFit) := ⟨rfl, rfl, rfl, by decide +kernel, rfl, by decide +kernel, by decide +kernel⟩
theorem ok_fit {f fNm fIn fLp : Addr} {fd fdNm fdIn fdLp : FuncData} (F : FnP K "_fits" sFit f fd)
    (GNm : FnOk P w K mg base CX0 1 fNm fdNm ["thing"] (spName K)) (bNm : Binds K fdNm ["thing"] []) (kNm : PySem.W.keepIn K (.ref fNm) = true) (gNm : mg "is_name" = some (.ref fNm))
    (GIn : FnOk P w K mg base CX0 1 fIn fdIn ["thing"] (spInt K)) (bIn : Binds K fdIn ["thing"] []) (kIn : PySem.W.keepIn K (.ref fIn) = true) (gIn : mg "is_integer" = some (.ref fIn))
    (GLp : FnOk P w K mg base CX0 1 fLp fdLp ["homes", "x", "to"] spLp) (bLp : Binds K fdLp ["homes", "x", "to"] []) (kLp : PySem.W.keepIn K (.ref fLp) = true) (gLp : mg "_last_place" = some (.ref fLp))
    (hA : ∀ o ∈ args, ∃ a, KDct K w (ga K "ARGUMENTS") o.1 (.ref a) ∧ ∀ G, SqT K G a (o.2.map V.str)) (gARG : mg "ARGUMENTS" = some (.ref (ga K "ARGUMENTS")))
    (hN : ∀ H, SqT K H (ga K "NEW") (newL.map V.str)) (gNEW : mg "NEW" = some (.ref (ga K "NEW"))) (n_isinstance : mg "isinstance" = none) (n_str : mg "str" = none) :
    FnOk P w K mg base CX0 2 f fd ["name", "worth", "op", "homes", "x", "to"] spFit := by
  refine F.ok scFit (fun vs H Q E h => ?_) (fun cdv A outer s H vs Q E hr h => ?_)
  · obtain ⟨name, o, h, L, v, x, to, rfl, _⟩ := h
    rfl
  · obtain ⟨name, o, h, L, v, x, to, rfl, ho, hh, wf, hl, fit, q⟩ := h
    have nd := scFit.nd
    have hr1 := hr.mono (j := 1) (by decide)
    have hu : (A.deeper (envOfC "_fits" (defScope sFit) s.heap.objs.size f cdv)).units + 1 < cLine := by have := hr.un; omega
    refine ⟨_, PSs.nox (pss_cons (ps_if (pt_cmpR op_notIn_seq (pv 0) (pe_ix ix_kdict (pe_glob (v := .ref (ga K "ARGUMENTS")) rfl gARG rfl) (pv 2) (fun _ _ => rfl)) rfl)
(pss_one (ps_ret (pe_cmpR op_isN (pv 1) pe_non (nomark _))))
pss_nil)
(pss_cons (ps_if (pt_cmpR op_eq (pv 0) pe_str (nomark _))
(pss_one (ps_ret (pe_call GNm hr1 (by rfl) gNm kNm bNm .nil pass0 (pa_cons (pv 1) pa_nil))))
pss_nil)
(pss_cons (ps_if (pt_cmpR op_eq (pv 0) pe_str (nomark _))
(pss_one (ps_ret (pe_and (pe_call GIn hr1 (by rfl) gIn kIn bIn .nil pass0 (pa_cons (pv 1) pa_nil)) (pe_one (pe_chain op_le op_le pe_int (pv 1) (pe_call GLp hr1 (by rfl) gLp kLp bLp .nil pass0 (pa_cons (pv 3) (pa_cons (pv 4) (pa_cons (pv 5) pa_nil)))))))))
pss_nil)
(pss_cons (ps_if (pt_cmpR op_in_seq (pv 2) (pe_glob (v := .ref (ga K "NEW")) rfl gNEW rfl) rfl)
(pss_one (ps_ret (pe_and (pe_call GNm hr1 (by rfl) gNm kNm bNm .nil pass0 (pa_cons (pv 1) pa_nil)) (pe_one (pe_cmp (pc_dnotin hu (pv 1) (pv 3)))))))
pss_nil)
(pss_one (ps_ret (pe_and (pe_callB call_isi (by rfl) n_isinstance (by decide +kernel) (pa_cons (pv 1) (pa_cons (pe_bltn (v := .ty "str") (by rfl) n_str (by decide +kernel) rfl) pa_nil))) (pe_one (pe_cmp (pc_din hu (pv 1) (pv 3))))))))))), ?_⟩
    obtain ⟨a, hu2, ha⟩ := hA o ho
    unfold FitV at fit
    refine ⟨_, rfl, _, rfl, _, o.1, .ref a, rfl, rfl, hu2, a, _, rfl, .inr (ha H), rfl, flat_strs _, _, rfl, ?_⟩
    show if (!inV (V.str name) (o.2.map V.str)) = true then _ else _
    rw [inV_str]
    by_cases c : name ∈ o.2
    · rw [if_pos c] at fit
      refine no (by rw [decide_eq_true c]; rfl) ⟨_, rfl, rfl, _, rfl, ?_⟩
      by_cases c1 : name = "to"
      · rw [if_pos c1] at fit
        obtain ⟨z, rfl, hz⟩ := fit
        refine yes (decide_eq_true (congrArg V.str c1)) ⟨_, rfl, _, _, rfl, .str z, (fun y e => by injection e with e; subst e; have := (nm_inv hz).2.1; omega), fun G s => ?_⟩
        rw [show nmD (.str z) = isNm z from rfl, hz]
        exact q G s
      · rw [if_neg c1] at fit
        refine no (decide_eq_false fun z => c1 (by injection z)) ⟨_, rfl, rfl, _, rfl, ?_⟩
        by_cases c2 : name = "k"
        · rw [if_pos c2] at fit
          obtain ⟨k, xs, ts, rfl, rfl, rfl, k1, k2⟩ := fit
          refine yes (decide_eq_true (congrArg V.str c2)) ⟨_, rfl, _, _, rfl, .int k, ?_⟩
          refine ⟨_, rfl, yes rfl ⟨_, rfl, _, _, rfl, rfl, _, rfl, yes (decide_eq_true (by omega)) ⟨_, rfl, _, rfl, _, rfl, h, L, xs, ts, rfl, hh, wf, hl, fun G s => ⟨_, _, rfl, rfl, ?_⟩⟩⟩⟩
          have e : decide ((k : Int) ≤ ((lpL L xs ts + 1 : Nat) : Int)) = true := decide_eq_true (by omega)
          have q := q G s
          rw [← e] at q
          exact q
        · rw [if_neg c2] at fit
          refine no (decide_eq_false fun z => c2 (by injection z)) ⟨_, rfl, _, _, rfl, .inr (hN H), rfl, rfl, _, rfl, ?_⟩
          show if inV (V.str o.1) (newL.map V.str) = true then _ else _
          rw [inV_str]
          by_cases c3 : o.1 ∈ newL
          · rw [if_pos c3] at fit
            obtain ⟨z, rfl, hz, hn⟩ := fit
            refine yes (decide_eq_true c3) ⟨_, rfl, _, _, rfl, .str z, (fun y e => by injection e with e; subst e; have := (nm_inv hz).2.1; omega), fun G s => ?_⟩
            rw [show nmD (.str z) = isNm z from rfl, hz]
            have g1 : DGet G h (V.str z) none := .inl ⟨_, .inr z, .inl (s _ _ hh), rfl, (hm_none hn).symm⟩
            exact ⟨_, rfl, yes rfl ⟨_, rfl, _, rfl, h, _, rfl, g1, q G s⟩⟩
          · rw [if_neg c3] at fit
            obtain ⟨z, rfl, hz⟩ := fit
            obtain ⟨e, he, hx⟩ := mem_all.mp hz
            have g1 : DGet H h (V.str z) (some (V.str e.1)) := .inl ⟨_, .inr z, .inl hh, rfl, (hm_val wf he hx).symm⟩
            exact no (decide_eq_false c3) ⟨_, rfl, _, _, _, _, _, rfl, .ty _, dp_ty (.str z), kit_str (.str z), _, rfl, yes rfl ⟨_, rfl, _, rfl, h, _, rfl, g1, q H (Same.refl H)⟩⟩
    · rw [if_neg c] at fit
      subst fit
      exact yes (by rw [decide_eq_false c]; rfl) ⟨_, rfl, rfl, q H (Same.refl H)⟩
/-- check_call: a call that is allowed -/
def spChk : Sp := fun vs H Q _ => ∃ (o : Str × List Str) (h : Addr) (L : LL) (x y to k : V), vs = [.str o.1, .ref h, x, y, to, k] ∧ o ∈ args ∧ H h = some (.dK (hmL L)) ∧ WF L ∧ (allL L).length ≤ 2000 ∧ FitV o L "x" x x to ∧ FitV o L "y" y x to ∧ FitV o L "to" to x to ∧ FitV o L "k" k x to ∧ ∀ G, Same H G → Q .non G
theorem scChk : FnScope ["op", "homes", "x", "y", "to", "k", "name", "worth"] ["op", "homes", "x", "y", "to", "k"] (defScope sChk) := ⟨rfl, rfl, rfl, by decide +kernel, rfl, by decide +kernel, by decide +kernel⟩
theorem ok_chk {f fFi : Addr} {fd fdFi : FuncData} (F : FnP K "check_call" sChk f fd)
    (GFi : FnOk P w K mg base CX0 2 fFi fdFi ["name", "worth", "op", "homes", "x", "to"] spFit) (bFi : Binds K fdFi ["name", "worth", "op", "homes", "x", "to"] []) (kFi : PySem.W.keepIn K (.ref fFi) = true) (gFi : mg "_fits" = some (.ref fFi)) :
    FnOk P w K mg base CX0 3 f fd ["op", "homes", "x", "y", "to", "k"] spChk := by
  refine F.ok scChk (fun vs H Q E h => ?_) (fun cdv A outer s H vs Q E hr h => ?_)
  · obtain ⟨o, h, L, x, y, to, k, rfl, _⟩ := h
    rfl
  · obtain ⟨o, h, L, x, y, to, k, rfl, ho, hh, wf, hl, fx, fy, ft, fk, q⟩ := h
    have nd := scChk.nd
    refine ⟨_, PSs.nox (pss_one (ps_for PassesOwn.never rfl (pi_tup (pe_tup (pa_cons (pe_tup (pa_cons pe_str (pa_cons (pv 2) pa_nil))) (pa_cons (pe_tup (pa_cons pe_str (pa_cons (pv 3) pa_nil))) (pa_cons (pe_tup (pa_cons pe_str (pa_cons (pv 4) pa_nil))) (pa_cons (pe_tup (pa_cons pe_str (pa_cons (pv 5) pa_nil))) pa_nil)))))) (pg_tup rfl (pgs_cons (pg_name (i := 6) nd rfl (Or.inl rfl)) (pgs_cons (pg_name (i := 7) nd rfl (Or.inl rfl)) pgs_nil)))
(pss_one (ps_if (pt_not (pt_val (pe_call GFi hr (by rfl) gFi kFi bFi .nil pass0 (pa_cons (pv 6) (pa_cons (pv 7) (pa_cons (pv 0) (pa_cons (pv 1) (pa_cons (pv 2) (pa_cons (pv 4) pa_nil)))))))))
(pss_one (ps_never))
pss_nil)))), ?_⟩
    have two : 2 ≤ sizeLine := by decide
    refine ⟨_, rfl, two, fun T1 n1 => ?_⟩
    have t1 : SqT K (upd H T1 (.tup [.str "x", x])) T1 [.str "x", x] := SqT.of upd_same
    have s1 := same_put (o := .tup [.str "x", x]) n1
    generalize upd H T1 (.tup [.str "x", x]) = G1 at t1 s1 ⊢
    refine ⟨_, rfl, two, fun T2 n2 => ?_⟩
    have t2 : SqT K (upd G1 T2 (.tup [.str "y", y])) T2 [.str "y", y] := SqT.of upd_same
    have s2 := same_put (o := .tup [.str "y", y]) n2
    generalize upd G1 T2 (.tup [.str "y", y]) = G2 at t2 s2 ⊢
    refine ⟨_, rfl, two, fun T3 n3 => ?_⟩
    have t3 : SqT K (upd G2 T3 (.tup [.str "to", to])) T3 [.str "to", to] := SqT.of upd_same
    have s3 := same_put (o := .tup [.str "to", to]) n3
    generalize upd G2 T3 (.tup [.str "to", to]) = G3 at t3 s3 ⊢
    refine ⟨_, rfl, two, fun T4 n4 => ?_⟩
    have t4 : SqT K (upd G3 T4 (.tup [.str "k", k])) T4 [.str "k", k] := SqT.of upd_same
    have s4 := same_put (o := .tup [.str "k", k]) n4
    generalize upd G3 T4 (.tup [.str "k", k]) = G4 at t4 s4 ⊢
    refine ⟨(by show 4 ≤ sizeLine; decide), fun T nT => ?_⟩
    have t5 : SqT K (upd G4 T (.tup [V.ref T1, V.ref T2, V.ref T3, V.ref T4])) T [V.ref T1, V.ref T2, V.ref T3, V.ref T4] := SqT.of upd_same
    have s5 := same_put (o := .tup [V.ref T1, V.ref T2, V.ref T3, V.ref T4]) nT
    generalize upd G4 T (.tup [V.ref T1, V.ref T2, V.ref T3, V.ref T4]) = G5 at t5 s5 ⊢
    have at5 : ∀ (i : Nat) (v : V), ([V.ref T1, V.ref T2, V.ref T3, V.ref T4] : List V)[i]? = some v → ∃ (T : Addr) (nm : Str) (u : V), v = V.ref T ∧ SqT K G5 T [.str nm, u] ∧ FitV o L nm u x to := by
      intro i v hi
      match i, hi with
      | 0, hi => exact ⟨T1, _, _, (Option.some.inj hi).symm, (((t1.mv s2).mv s3).mv s4).mv s5, fx⟩
      | 1, hi => exact ⟨T2, _, _, (Option.some.inj hi).symm, ((t2.mv s3).mv s4).mv s5, fy⟩
      | 2, hi => exact ⟨T3, _, _, (Option.some.inj hi).symm, (t3.mv s4).mv s5, ft⟩
      | 3, hi => exact ⟨T4, _, _, (Option.some.inj hi).symm, t4.mv s5, fk⟩
      | n + 4, hi => exact nomatch hi
    have s5 : Same H G5 := (((s1.trans s2).trans s3).trans s4).trans s5
    refine ⟨T, rfl, ⟨_, t5⟩, ?_⟩
    refine for_it (walk_tup (K := K) (a := T) (xs := ([V.ref T1, V.ref T2, V.ref T3, V.ref T4] : List V))) (fun i σ G => ∃ y6 y7, σ = [some (.str o.1), some (.ref h), some x, some y, some to, some k, y6, y7] ∧ Same G5 G) ⟨_, _, rfl, Same.refl _⟩ (fun i σ G _ h => by obtain ⟨_, _, _, s⟩ := h; exact t5.mv s) ?_ ?_
    · rintro i v σ G' G hi ⟨y6, y7, rfl, sG⟩ ⟨rfl, hv⟩
      obtain ⟨T', nm, u, rfl, tT, fit⟩ := at5 i v hv
      refine ⟨_, _, rfl, tT.mv sG, rfl, _, _, rfl, _, _, rfl, rfl, ?_⟩
      dsimp only [gName, List.set]
      refine ⟨_, rfl, _, rfl, _, rfl, _, rfl, _, rfl, _, rfl, nm, o, h, L, u, x, to, rfl, ho, sG _ _ (s5 _ _ hh), wf, hl, fit, fun G2 s2 => ?_⟩
      exact ⟨true, rfl, no rfl ⟨_, _, rfl, sG.trans s2⟩⟩
    · rintro σ G ⟨y6, y7, rfl, sG⟩
      exact q G (s5.trans sG)
end
end K11

set_option Elab.async false
set_option maxRecDepth 100000
set_option maxHeartbeats 2000000
/-! [e for a in xs for b in ys]: the two walks. -/
namespace KX
open PySem PySem.Spec PyProof.Rows L2
section
variable {J : It} {n : Nat} {G : Hp → Prop} {Y : Nat → Hp → V → Hp → Prop} {g g1 : TG} {tt tt1 : TT} {te : TE} {wi1 : TI} {vs vs1 : List Nat} {σ : L2.St} {H1 : Hp} {D : Addr} {Qd : Hp → Prop}
/-- what the inner walk asks -/
def Inn (J1 : It) (g1 : TG) (tt1 : TT) (te : TE) (vs1 : List Nat) (σ2 : L2.St) (D : Addr) (Nx : Hp → Prop) (H4 : Hp) : Prop := ∃ W1 : Nat → Nat → Hp → Prop, (∃ m, W1 0 m H4) ∧ ∀ j k H, W1 j k H →
  (J1.stop j H ∧ Nx H) ∨ (J1.go j H ∧ ∃ Nx1 : Hp → Prop, (∀ H', Nx1 H' → ∃ k', k' < k ∧ W1 (j + 1) k' H') ∧ ∀ x H', J1.yld j H x H' → g1 x (wipe σ2 vs1) H' fun σ3 H5 => wipe σ3 vs1 = wipe σ2 vs1 ∧ tt1 σ3 H5 fun b H6 =>
    if b = true then te σ3 H6 fun y H7 => ∃ acc, H7 D = some (.lst acc) ∧ acc.length < sizeLine ∧ Nx1 (upd H7 D (.lst (acc ++ [y]))) else Nx1 H6)
theorem in_it {Nx : Hp → Prop} (w : Walk J n G Y) (Pv : Nat → Hp → Prop) (h0 : Pv 0 H1) (hG : ∀ i H, i ≤ n → Pv i H → G H)
    (hs : ∀ i x H H', i < n → Pv i H → Y i H x H' → g1 x (wipe σ vs1) H' fun σ3 H5 => wipe σ3 vs1 = wipe σ vs1 ∧ tt1 σ3 H5 fun b H6 =>
      if b = true then te σ3 H6 fun y H7 => ∃ acc, H7 D = some (.lst acc) ∧ acc.length < sizeLine ∧ Pv (i + 1) (upd H7 D (.lst (acc ++ [y]))) else Pv (i + 1) H6) (hd : ∀ H, Pv n H → Nx H) : Inn J g1 tt1 te vs1 σ D Nx H1 := by
  refine ⟨fun i m H => i + m = n ∧ Pv i H, ⟨n, Nat.zero_add n, h0⟩, fun i m H h => ?_⟩
  obtain ⟨hm, p⟩ := h
  have q := hG i H (by omega) p
  rcases Nat.lt_or_ge i n with hi | hi
  · exact .inr ⟨w.goes i H hi q, Pv (i + 1), fun H' p' => ⟨m - 1, by omega, by omega, p'⟩, fun x H' y => hs i x H H' hi p (w.yields i H x H' hi q y)⟩
  · obtain rfl : i = n := by omega
    exact .inl ⟨w.stops H q, hd H p⟩
theorem lc2_it (w : Walk J n G Y) (Pv : Nat → Hp → Prop) (h0 : Pv 0 (upd H1 D (.lst []))) (hG : ∀ i H, i ≤ n → Pv i H → G H)
    (hs : ∀ i x H H', i < n → Pv i H → Y i H x H' → g x (wipe σ vs) H' fun σ2 H2 => wipe σ2 vs = wipe σ vs ∧ tt σ2 H2 fun b H3 =>
      if b = true then wi1 σ2 H3 fun J1 H4 => Inn J1 g1 tt1 te vs1 σ2 D (Pv (i + 1)) H4 else Pv (i + 1) H3) (hd : ∀ H, Pv n H → Qd H) :
    ∃ W : Nat → Nat → Hp → Prop, (∃ m, W 0 m (upd H1 D (.lst []))) ∧ ∀ i m H, W i m H →
      (J.stop i H ∧ Qd H) ∨ (J.go i H ∧ ∃ Nx : Hp → Prop, (∀ H', Nx H' → ∃ m', m' < m ∧ W (i + 1) m' H') ∧ ∀ x H', J.yld i H x H' → g x (wipe σ vs) H' fun σ2 H2 => wipe σ2 vs = wipe σ vs ∧ tt σ2 H2 fun b H3 =>
        if b = true then wi1 σ2 H3 fun J1 H4 => Inn J1 g1 tt1 te vs1 σ2 D Nx H4 else Nx H3) := by
  refine ⟨fun i m H => i + m = n ∧ Pv i H, ⟨n, Nat.zero_add n, h0⟩, fun i m H h => ?_⟩
  obtain ⟨hm, p⟩ := h
  have q := hG i H (by omega) p
  rcases Nat.lt_or_ge i n with hi | hi
  · exact .inr ⟨w.goes i H hi q, Pv (i + 1), fun H' p' => ⟨m - 1, by omega, by omega, p'⟩, fun x H' y => hs i x H H' hi p (w.yields i H x H' hi q y)⟩
  · obtain rfl : i = n := by omega
    exact .inl ⟨w.stops H q, hd H p⟩
end
theorem dc_it {J : It} {n : Nat} {Gd : Hp → Prop} {Y : Nat → Hp → V → Hp → Prop} (w : Walk J n Gd Y) {g : TG} {tt : TT} {tk tv : TE} {vs : List Nat} {σ : L2.St} {H1 : Hp} {D : Addr} {Qd : Hp → Prop} (Pv : Nat → Hp → Prop) (h0 : Pv 0 (upd H1 D (.dK []))) (hl : ∀ i H, i ≤ n → Pv i H → Gd H)
    (hs : ∀ (i : Nat) (x : V) (H H' : Hp), i < n → Pv i H → Y i H x H' → g x (wipe σ vs) H' fun σ2 H2 => wipe σ2 vs = wipe σ vs ∧ tt σ2 H2 fun b H3 => if b = true then tk σ2 H3 fun y H4 => tv σ2 H4 fun z H5 => ∃ (kvs : List (Key × V)) (k : Key), y = kV k ∧ H5 D = some (.dK kvs) ∧ kvs.length < sizeLine ∧ Pv (i + 1) (upd H5 D (.dK (putK kvs k z))) else Pv (i + 1) H3)
    (hd : ∀ H, Pv n H → Qd H) :
    ∃ W : Nat → Nat → Hp → Prop, (∃ m, W 0 m (upd H1 D (.dK []))) ∧ ∀ i m H, W i m H →
      (J.stop i H ∧ Qd H) ∨ (J.go i H ∧ ∃ Nx : Hp → Prop, (∀ H', Nx H' → ∃ m', m' < m ∧ W (i + 1) m' H') ∧ ∀ x H', J.yld i H x H' → g x (wipe σ vs) H' fun σ2 H2 => wipe σ2 vs = wipe σ vs ∧ tt σ2 H2 fun b H3 => if b = true then tk σ2 H3 fun y H4 => tv σ2 H4 fun z H5 =>
        ∃ (kvs : List (Key × V)) (k : Key), y = kV k ∧ H5 D = some (.dK kvs) ∧ kvs.length < sizeLine ∧ Nx (upd H5 D (.dK (putK kvs k z))) else Nx H3) := by
  refine ⟨fun i m H => i + m = n ∧ Pv i H, ⟨n, Nat.zero_add _, h0⟩, fun i m H h => ?_⟩
  obtain ⟨hm, hp⟩ := h
  rcases Nat.lt_or_ge i n with hi | hi
  · refine .inr ⟨w.goes i H hi (hl i H (Nat.le_of_lt hi) hp), fun H' => Pv (i + 1) H', fun H' hp' => ⟨m - 1, by omega, by omega, hp'⟩, fun x H' hy => ?_⟩
    exact hs i x H H' hi hp (w.yields i H x H' hi (hl i H (Nat.le_of_lt hi) hp) hy)
  · have e : i = n := by omega
    subst e
    exact .inl ⟨w.stops H (hl i H (Nat.le_refl _) hp), hd H hp⟩
end KX

set_option Elab.async false
set_option maxRecDepth 100000
set_option maxHeartbeats 2000000
/-! name = {k: v for ..} on one line, the name a local. -/
namespace KX
open PySem PySem.Spec PyProof.Rows L2
section
variable {X : Cx}
theorem ps_setDc {j : Nat} {nm : Str} {pn : Pos} {kx vx tg iter : Expr} {ifs : List Expr} {scope : Scope} {own : List (Str × Nat)} {pos ps0 : Pos} {wi : TI} {g : TG} {tt : TT} {tk tv : TE} (hc : X.calm = true) (hN : X.N.Nodup) (hy : X.N[j]? = some nm) (hyl : X.env.scope.names.lookup nm = some .local)
    (hw : swapsWith (.DictComp kx vx [⟨tg, iter, ifs, 0⟩] scope pos) (some (.Name nm pn)) ps0.line X.env = pure true) (hi : PI X tg iter wi) (ok : BlkOk X.N X.env.scope scope own)
    (g1 : ∀ (s : Shared) (H : Hp) (C : Addr) (cl : List (Str × Addr)) (fp : List Addr), PG (X.blk s H scope (compEnvC scope cl C X.env) fp) tg g) (g2 : ∀ (s : Shared) (H : Hp) (C : Addr) (cl : List (Str × Addr)) (fp : List Addr), PTs (X.blk s H scope (compEnvC scope cl C X.env) fp) ifs tt)
    (g3 : ∀ (s : Shared) (H : Hp) (C : Addr) (cl : List (Str × Addr)) (fp : List Addr), PE (X.blk s H scope (compEnvC scope cl C X.env) fp) kx tk) (g4 : ∀ (s : Shared) (H : Hp) (C : Addr) (cl : List (Str × Addr)) (fp : List Addr), PE (X.blk s H scope (compEnvC scope cl C X.env) fp) vx tv)
    (hs : ∀ x, foldedSetIterable iter X.env x = pure x := by intro _; rfl) :
    PS X (.Assign [.Name nm pn] (.DictComp kx vx [⟨tg, iter, ifs, 0⟩] scope pos) ps0) (tAsg (tDc wi g tt tk tv (own.map (·.2))) (gName j)) := by
  refine ⟨fun pins s σ H D I h => ?_⟩
  rw [exec_Assign_Name_used _ _ _ _ hw]
  refine wpAny_bind (wpAny_standAt (wpAny_bind ?_))
  show wpAny _ X.A (do let _ ← comprehension (.DictComp kx vx [⟨tg, iter, ifs, 0⟩] scope pos) scope X.env (firstIterPos [⟨tg, iter, ifs, 0⟩] pos) newDict false (eval iter X.env) (some (assign (.Name nm pn) X.env))) _ _ s
  have h0 : tDc wi g tt tk tv (own.map (·.2)) σ H (fun x H1 => gName j x σ H1 D.nx) := h
  refine wpAny_bind (thn (dc_core (Qf := fun _ s' => SP X pins D .next s') hc hN I hi ok g1 g2 g3 g4 hs h0 fun D0 C s' m H' I1 q hn f => ?_) fun _ s' hq => wpAny_pure (wpAny_pure hq))
  show wpAny _ _ (assign (.Name nm pn) X.env (.ref D0)) _ _ _
  refine wpAny_assign_Name (store_ok2 (v := V.ref D0) I1 hN hy (.inl hyl) rfl (fun s2 I2 ⟨a, sb, ha⟩ => ?_) (.inr hyl))
  obtain ⟨f0, f1, f2, f3, f4, f5⟩ := f
  have hCa : C ≠ a := ha.elim (fun z => by rw [z]; exact f1) fun z e => f4 nm a z e.symm
  exact ⟨m, hn.sameBut sb hCa, fun h3 sb3 => ⟨_, H', I2.turned (t' := s2.toks) (fun b o hb e => (sb3.2 b hb).trans e) f0 f1 f3 f4 f5, q⟩⟩
theorem swd_true {kx vx : Expr} {gs : List Comprehension} {scope : Scope} {pos pn : Pos} {nm : Str} {l : Nat} {env : Env} (hk : env.scope.kind = .function) (hy : env.scope.names.lookup nm = some .local) (hl : (pn.line == pos.line) = true)
    (ha : (scope.names.any fun (n, k) => n == nm && (k == .local || k == .cell)) = false) : swapsWith (.DictComp kx vx gs scope pos) (some (.Name nm pn)) l env = pure true := by
  have k1 : env.kindOf nm = some .local := hy
  have k2 : env.blockKind = .function := by unfold Env.blockKind; rw [hk]; rfl
  unfold swapsWith
  simp only [k2, k1, ha, Expr.pos, hl]
  rfl
end
end KX

set_option Elab.async false
set_option maxRecDepth 100000
set_option maxHeartbeats 2000000
namespace K11
open PySem PySem.Spec PyProof.Rows L2 He KX StX
abbrev sApp : Stmt := top 13
section
variable {P : Program} {w : World} {K : PySem.W.Frag} {mg : Str → Option Value} {base : Heap}
theorem scApp : FnScope ["lists", "op", "x", "y", "to", "k", "rows", "homes", "after", "at", "lst", "row"] ["lists", "op", "x", "y", "to", "k"] (defScope sApp) := ⟨rfl, rfl, rfl, by decide +kernel, rfl, by decide +kernel, by decide +kernel⟩
theorem passLN {X : Cx} : Passes (L2N.CX X.prog X.w) X (fun _ _ _ => False) := fun _ _ _ _ _ _ _ h => by
  obtain ⟨_, _, _, _, _, _, _, _, _, _, _, _, z⟩ := h
  exact z.elim
theorem hm_app (A B : LL) : hmL (A ++ B) = hmL A ++ hmL B := List.flatMap_append ..
theorem all_app (A B : LL) : allL (A ++ B) = allL A ++ allL B := List.flatMap_append ..
theorem lT_app (A B : TT) : lT (A ++ B) = lT A ++ lT B := List.map_append ..
theorem take_t {T : TT} {i : Nat} {t : Str × List Str × Addr} (h : T[i]? = some t) : T = T.take i ++ [t] ++ T.drop (i + 1) := by
  rw [← take_at h, List.take_append_drop]
theorem hm_pre {T : TT} {i j : Nat} {t : Str × List Str × Addr} {r : Str} (nd : (allL (lT T)).Nodup) (h : T[i]? = some t) (hr : t.2.1[j]? = some r) : valV (hmL (lT (T.take i)) ++ (t.2.1.take j).map fun r => ((Sum.inr r : Key), V.str t.1)) (Sum.inr r : Key) = none ∧ (hmL (lT (T.take i)) ++ (t.2.1.take j).map fun r => ((Sum.inr r : Key), V.str t.1)).length ≤ (allL (lT T)).length := by
  have e : allL (lT T) = (allL (lT (T.take i)) ++ t.2.1.take j) ++ ([r] ++ (t.2.1.drop (j + 1) ++ allL (lT (T.drop (i + 1))))) := by
    have e1 : allL (lT T) = allL (lT (T.take i)) ++ (t.2.1 ++ allL (lT (T.drop (i + 1)))) := by
      have : allL (lT [t]) = t.2.1 := by show t.2.1 ++ [] = _; rw [List.append_nil]
      conv => lhs; rw [take_t h]
      rw [lT_app, lT_app, all_app, all_app, this, List.append_assoc]
    have e2 : t.2.1 = t.2.1.take j ++ [r] ++ t.2.1.drop (j + 1) := by rw [← take_at hr, List.take_append_drop]
    rw [e1]
    conv => lhs; rw [e2]
    simp only [List.append_assoc]
  rw [e] at nd
  obtain ⟨_, _, n3⟩ := List.nodup_append.mp nd
  have nr : r ∉ allL (lT (T.take i)) ++ t.2.1.take j := fun q => n3 r q r (List.mem_append_left _ (List.mem_singleton.mpr rfl)) rfl
  constructor
  · cases q : valV (hmL (lT (T.take i)) ++ (t.2.1.take j).map fun r => ((Sum.inr r : Key), V.str t.1)) (Sum.inr r : Key) with
    | none => rfl
    | some v =>
      have := valV_in q
      rw [List.map_append, hm_keys, List.map_map] at this
      refine absurd ?_ nr
      rcases List.mem_append.mp this with z | z
      · obtain ⟨u, hu, e⟩ := List.mem_map.mp z
        have e : u = r := by injection e
        exact List.mem_append_left _ (e ▸ hu)
      · obtain ⟨u, hu, e⟩ := List.mem_map.mp z
        have e : u = r := by injection (show (Sum.inr u : Key) = Sum.inr r from e)
        exact List.mem_append_right _ (e ▸ hu)
  · rw [e, List.length_append, List.length_map, hm_len, List.length_append, List.length_append]
    omega
theorem keys_at (k : Str) (r : List Str) (L : LL) : keysL (atL k r L) = keysL L := by
  unfold keysL atL
  rw [List.map_map]
  refine List.map_congr_left fun e _ => ?_
  show (if e.1 = k then (e.1, r) else e).1 = e.1
  split <;> rfl
theorem take_no {L : LL} {x : Str} (h : ∀ e ∈ L, x ∉ e.2) : takeL x L = L := by
  unfold takeL
  conv => rhs; rw [← List.map_id L]
  refine List.map_congr_left fun e he => ?_
  rw [List.erase_of_not_mem (h e he)]
  rfl
theorem take_at' {L : LL} (wf : WF L) {a : Str × List Str} {x : Str} (ha : a ∈ L) (hx : x ∈ a.2) : atL a.1 (a.2.erase x) L = takeL x L := by
  unfold atL takeL
  refine List.map_congr_left fun e he => ?_
  by_cases c : e.1 = a.1
  · obtain rfl := wf_key wf.kn he ha c
    rw [if_pos rfl]
  · rw [if_neg c, List.erase_of_not_mem fun q => c (by rw [wf_one wf.rn he ha q hx])]
theorem keys_take (x : Str) (L : LL) : keysL (takeL x L) = keysL L := by
  unfold keysL takeL
  rw [List.map_map]
  rfl
theorem row_le {L : LL} {e : Str × List Str} (h : e ∈ L) : e.2.length ≤ (allL L).length := by
  induction L with
  | nil => cases h
  | cons a L ih =>
    show _ ≤ (a.2 ++ allL L).length
    rw [List.length_append]
    rcases List.mem_cons.mp h with rfl | h
    · omega
    · have := ih h
      omega
theorem rows_le (L : LL) (k : Str) : (rowsL L k).length ≤ (allL L).length := by
  unfold rowsL
  cases q : L.find? fun e => decide (e.1 = k) with
  | none => exact Nat.zero_le _
  | some e => exact row_le (List.mem_of_find?_eq_some q)
theorem all_take (x : Str) (L : LL) : (allL (takeL x L)).length ≤ (allL L).length := by
  induction L with
  | nil => exact Nat.le_refl _
  | cons a L ih =>
    show (a.2.erase x ++ allL (takeL x L)).length ≤ (a.2 ++ allL L).length
    rw [List.length_append, List.length_append]
    have := List.length_erase_le (a := x) (l := a.2)
    omega
theorem idx_lt {op : Str} {n : Nat} {a k : Option Nat} (hn : n ≤ 3000) (ha : ∀ j, a = some j → j ≤ 3000) (hk : op = "put" ∨ op = "move" → ∀ j, k = some j → j ≤ 3000) : idxL op n a k ≤ 3000 := by
  have h1 : a.getD 0 ≤ 3000 := by
    cases a with
    | none => exact Nat.zero_le _
    | some j => exact ha j rfl
  unfold idxL
  split
  · rename_i c
    cases k with
    | none => exact Nat.zero_le _
    | some j => have := hk c j rfl; show j - 1 ≤ _; omega
  · split
    · omega
    · split
      · omega
      · split
        · omega
        · exact hn
theorem keys_open {k : Str} {L : LL} (h : (keysL L).Nodup) : (keysL (openL k L)).Nodup := by
  unfold openL
  split
  · exact h
  · rename_i c
    unfold keysL at h c ⊢
    rw [List.map_append]
    refine List.nodup_append.mpr ⟨h, by simp, fun a ha b hb e => ?_⟩
    rw [List.mem_singleton.mp hb] at e
    exact c (by rw [show k = a from e.symm]; exact ha)
theorem set_sw {r : List Str} (nd : r.Nodup) {x y : Str} (hx : x ∈ r) (hy : y ∉ r) : r.set (r.idxOf x) y = r.map (sw x y) := by
  have lx := List.idxOf_lt_length_iff.mpr hx
  refine List.ext_getElem (by simp) fun i h1 h2 => ?_
  rw [List.getElem_set, List.getElem_map]
  have hi : i < r.length := by simpa using h2
  by_cases c : r.idxOf x = i
  · subst c
    rw [if_pos rfl, List.getElem_idxOf]
    unfold sw
    rw [if_pos rfl]
  · have n1 : r[i] ≠ x := fun e => c (by rw [← e]; exact (nd.idxOf_getElem i hi))
    have n2 : r[i] ≠ y := fun e => hy (e ▸ List.getElem_mem hi)
    rw [if_neg c]
    unfold sw
    rw [if_neg n1, if_neg n2]
theorem sw_comm (x y z : Str) : sw x y z = sw y x z := by
  unfold sw
  by_cases c1 : z = x <;> by_cases c2 : z = y
  · rw [if_pos c1, if_pos c2, ← c1, ← c2]
  · rw [if_pos c1, if_neg c2, if_pos c1]
  · rw [if_neg c1, if_pos c2, if_pos c2]
  · rw [if_neg c1, if_neg c2, if_neg c2, if_neg c1]
theorem set_sw2 {r : List Str} (nd : r.Nodup) {x y : Str} (hx : x ∈ r) (hy : y ∈ r) : (r.set (r.idxOf x) y).set (r.idxOf y) x = r.map (sw x y) := by
  refine List.ext_getElem (by simp) fun i h1 h2 => ?_
  have hi : i < r.length := by simpa using h2
  rw [List.getElem_set, List.getElem_set, List.getElem_map]
  unfold sw
  by_cases c : r.idxOf y = i
  · subst c
    rw [if_pos rfl, List.getElem_idxOf]
    by_cases c2 : y = x
    · rw [if_pos c2, c2]
    · rw [if_neg c2, if_pos rfl]
  · rw [if_neg c]
    have n1 : r[i] ≠ y := fun e => c (by rw [← e]; exact (nd.idxOf_getElem i hi))
    by_cases c2 : r.idxOf x = i
    · subst c2
      rw [if_pos rfl, List.getElem_idxOf, if_pos rfl]
    · have n2 : r[i] ≠ x := fun e => c2 (by rw [← e]; exact (nd.idxOf_getElem i hi))
      rw [if_neg c2, if_neg n2, if_neg n1]
theorem map_sw_no {r : List Str} {x y : Str} (hx : x ∉ r) (hy : y ∉ r) : r.map (sw x y) = r := by
  conv => rhs; rw [← List.map_id r]
  refine List.map_congr_left fun z hz => ?_
  have n1 : z ≠ x := fun e => hx (e ▸ hz)
  have n2 : z ≠ y := fun e => hy (e ▸ hz)
  unfold sw
  rw [if_neg n1, if_neg n2]
  rfl
theorem swap_eq {L : LL} (wf : WF L) {a b : Str × List Str} {x y : Str} (ha : a ∈ L) (hb : b ∈ L) (hx : x ∈ a.2) (hy : y ∈ b.2) (r3 : List Str) (h3 : r3 = if b.1 = a.1 then a.2.set (a.2.idxOf x) y else b.2) :
    atL b.1 (r3.set (b.2.idxOf y) x) (atL a.1 (a.2.set (a.2.idxOf x) y) L) = swapL x y L := by
  unfold atL swapL
  rw [List.map_map]
  refine List.map_congr_left fun e he => ?_
  show (if (if e.1 = a.1 then (e.1, a.2.set (a.2.idxOf x) y) else e).1 = b.1 then ((if e.1 = a.1 then (e.1, a.2.set (a.2.idxOf x) y) else e).1, _) else (if e.1 = a.1 then (e.1, a.2.set (a.2.idxOf x) y) else e)) = _
  have f1 : (if e.1 = a.1 then (e.1, a.2.set (a.2.idxOf x) y) else e).1 = e.1 := by split <;> rfl
  rw [f1]
  by_cases c : e.1 = b.1
  · obtain rfl := wf_key wf.kn he hb c
    rw [if_pos rfl]
    by_cases c2 : e.1 = a.1
    · obtain rfl := wf_key wf.kn he ha c2
      rw [if_pos rfl] at h3
      rw [h3, set_sw2 (wf_row wf he) hx hy]
    · rw [if_neg c2] at h3
      have nx : x ∉ e.2 := fun q => c2 (by rw [wf_one wf.rn he ha q hx])
      rw [h3, set_sw (wf_row wf he) hy nx]
      congr 1
      exact List.map_congr_left fun z _ => sw_comm y x z
  · rw [if_neg c]
    have ny : y ∉ e.2 := fun q => c (by rw [wf_one wf.rn he hb q hy])
    by_cases c2 : e.1 = a.1
    · obtain rfl := wf_key wf.kn he ha c2
      rw [if_pos rfl, set_sw (wf_row wf he) hx ny]
    · have nx : x ∉ e.2 := fun q => c2 (by rw [wf_one wf.rn he ha q hx])
      rw [if_neg c2, map_sw_no nx ny]
theorem arg_shaped : ∀ o ∈ args, SeqAt.shaped (.str o.1) = true ∧ inS ops (.str o.1) = true := by decide +kernel
theorem arg_x : ∀ o ∈ args, ("x" : Str) ∈ o.2 := by decide +kernel
theorem arg_y : ∀ o ∈ args, o.1 = "swap" → ("y" : Str) ∈ o.2 := by decide +kernel
theorem arg_k : ∀ o ∈ args, (o.1 = "put" ∨ o.1 = "move") → ("k" : Str) ∈ o.2 := by decide +kernel
theorem arg_to : ∀ o ∈ args, o.1 ∈ newL → ("to" : Str) ∈ o.2 := by decide +kernel
def rLof (K : PySem.W.Frag) : List V → Hp → VK → Prop := fun xs H Q => ∃ p ys, xs = [V.ref p] ∧ (SqL K H p ys ∨ SqT K H p ys) ∧ ∀ l, H l = none → Q (V.ref l) (upd H l (.lst ys))
/-- a board that is made anew, with all its lists -/
def DLF (H G : Hp) (p : Addr) (L : LL) : Prop := ∃ T, lT T = L ∧ DT G p T ∧ ∀ t ∈ T, H t.2.2 = none
theorem DLF.dl {H G : Hp} {p : Addr} {L : LL} (h : DLF H G p L) : DL G p L := by obtain ⟨T, e, d, _⟩ := h; exact ⟨T, e, d⟩
theorem fr_set {H : Hp} {a : Addr} {r : List Str} {T : TT} (h : ∀ t ∈ T, H t.2.2 = none) : ∀ t ∈ setT a r T, H t.2.2 = none := fun t ht => by
  obtain ⟨u, hu, rfl⟩ := List.mem_map.mp ht
  have e : (if u.2.2 = a then (u.1, r, u.2.2) else u).2.2 = u.2.2 := by split <;> rfl
  rw [e]
  exact h u hu
/-- apply: an allowed call -/
def spApp : Sp := fun vs H Q _ => ∃ (p : Addr) (o : Str × List Str) (L : LL) (x : Str) (y to : Option Str) (k : Option Nat), vs = [.ref p, .str o.1, .str x, oV y, oV to, oI k] ∧ o ∈ args ∧ DL H p L ∧ WF L ∧ (allL L).length ≤ 2000 ∧ L.length ≤ 2000 ∧
  FitV o L "x" (.str x) (.str x) (oV to) ∧ FitV o L "y" (oV y) (.str x) (oV to) ∧ FitV o L "to" (oV to) (.str x) (oV to) ∧ FitV o L "k" (oI k) (.str x) (oV to) ∧
  ∀ q G, H q = none → Same H G → DLF H G q (apL o.1 x y to k L) → Q (.ref q) G
theorem ok_app {f fA fC fE fT fI : Addr} {fd fdA fdC fdE fdT fdI : FuncData} (F : FunD K "apply" "apply" (defArgs sApp) (defBody sApp) (defScope sApp) [] [("x", .non), ("y", .non), ("to", .non), ("k", .non)] f fd)
    (GA : FnOk P w K mg base (L2N.CX P w) 3 fA fdA ["op"] (spArg K)) (bA : Binds K fdA ["op"] []) (kA : PySem.W.keepIn K (.ref fA) = true) (gA : mg "arguments_of" = some (.ref fA))
    (GC : FnOk P w K mg base CX0 3 fC fdC ["op", "homes", "x", "y", "to", "k"] spChk) (bC : Binds K fdC ["op", "homes", "x", "y", "to", "k"] []) (kC : PySem.W.keepIn K (.ref fC) = true) (gC : mg "check_call" = some (.ref fC))
    (GE : FnOk P w K mg base CX0 1 fE fdE ["rows", "others", "x", "y"] (spExc K)) (bE : Binds K fdE ["rows", "others", "x", "y"] []) (kE : PySem.W.keepIn K (.ref fE) = true) (gE : mg "_exchange" = some (.ref fE))
    (GT : FnOk P w K mg base CX0 1 fT fdT ["after", "homes", "x"] (spTak K)) (bT : Binds K fdT ["after", "homes", "x"] []) (kT : PySem.W.keepIn K (.ref fT) = true) (gT : mg "_taken_out" = some (.ref fT))
    (GI : FnOk P w K mg base CX0 1 fI fdI ["op", "count", "at", "k"] spIdx) (bI : Binds K fdI ["op", "count", "at", "k"] []) (kI : PySem.W.keepIn K (.ref fI) = true) (gI : mg "_index" = some (.ref fI)) (n_len : mg "len" = none) (n_list : mg "list" = none) :
    FnOk P w K mg base CX0 4 f fd ["lists", "op", "x", "y", "to", "k"] spApp := by
  refine F.ok scApp (fun vs H Q E h => ?_) (fun cdv A outer s H vs Q E hr h => ?_)
  · obtain ⟨p, o, L, x, y, to, k, rfl, _⟩ := h
    rfl
  · obtain ⟨p, o, L, x, y, to, k, rfl, ho, ⟨T0, rfl, hT⟩, wf, hl, hl2, fx, fy, ft, fk, q2⟩ := h
    have nd := scApp.nd
    have hr3 := hr.mono (j := 3) (by decide)
    have hr1 := hr.mono (j := 1) (by decide)
    have hu : (A.deeper (envOfC "apply" (defScope sApp) s.heap.objs.size f cdv)).units + 1 < cLine := by have := hr.un; omega
    refine ⟨_, PSs.nox (pss_cons (ps_expr (pe_call GA hr3 (by rfl) gA kA bA .nil passLN (pa_cons (pv 1) pa_nil)))
(pss_cons (ps_lock (ps_setDc2 (j := 7) (own := [("lst", 10), ("rows", 6), ("row", 11)]) (vs' := [11]) (g := (gTup K 2 (gCons (gName 10) (gCons (gName 6) gNil)))) (g' := (gName 11)) (tt := tYes) (tt' := tYes) rfl nd rfl rfl (swd_true rfl rfl rfl (by decide +kernel)) (pi_items (pv 0)) (blkOk_by (own := [("lst", 10), ("rows", 6), ("row", 11)]) (N := ["lists", "op", "x", "y", "to", "k", "rows", "homes", "after", "at", "lst", "row"]) (sc := defScope sApp) (by decide +kernel)) (by decide) (fun _ _ _ _ _ => (pg_tup rfl (pgs_cons (pg_name (i := 10) nd rfl (Or.inl rfl) (.inr rfl)) (pgs_cons (pg_name (i := 6) nd rfl (Or.inl rfl) (.inr rfl)) pgs_nil)))) (fun _ _ _ _ _ => pts_nil) (fun _ _ _ _ _ => show PI _ _ _ (iList K (tVar 6)) from pi_list (pv 6)) (fun _ _ _ _ _ => pg_name (i := 11) nd rfl (Or.inl rfl)) (fun _ _ _ _ _ => pts_nil) (fun _ _ _ _ _ => pv 11) (fun _ _ _ _ _ => pv 10)))
(pss_cons (ps_expr (pe_call GC hr3 (by rfl) gC kC bC .nil pass0 (pa_cons (pv 1) (pa_cons (pv 7) (pa_cons (pv 2) (pa_cons (pv 3) (pa_cons (pv 4) (pa_cons (pv 5) pa_nil))))))))
(pss_cons (ps_lock (ps_setDc (j := 8) (own := [("lst", 10), ("rows", 6)]) (g := (gTup K 2 (gCons (gName 10) (gCons (gName 6) gNil)))) (tt := tYes) rfl nd rfl rfl (swd_true rfl rfl rfl (by decide +kernel)) (pi_items (pv 0)) (blkOk_by (own := [("lst", 10), ("rows", 6)]) (N := ["lists", "op", "x", "y", "to", "k", "rows", "homes", "after", "at", "lst", "row"]) (sc := defScope sApp) (by decide +kernel)) (fun _ _ _ _ _ => (pg_tup rfl (pgs_cons (pg_name (i := 10) nd rfl (Or.inl rfl) (.inr rfl)) (pgs_cons (pg_name (i := 6) nd rfl (Or.inl rfl) (.inr rfl)) pgs_nil)))) (fun _ _ _ _ _ => pts_nil) (fun _ _ _ _ _ => (pv 10)) (fun _ _ _ _ _ => (pe_callTy (show CallR _ _ (rLof K) from call_list_of) (by rfl) n_list (by decide +kernel) (pa_cons (pv 6) pa_nil)))))
(pss_cons (ps_if (pt_cmpR op_eq (pv 1) pe_str (nomark _))
(pss_cons (ps_expr (pe_call GE hr1 (by rfl) gE kE bE .nil pass0 (pa_cons (pe_dget hu (pv 8) (pe_dget hu (pv 7) (pv 2) (fun _ _ => rfl)) (fun _ _ => rfl)) (pa_cons (pe_dget hu (pv 8) (pe_dget hu (pv 7) (pv 3) (fun _ _ => rfl)) (fun _ _ => rfl)) (pa_cons (pv 2) (pa_cons (pv 3) pa_nil))))))
(pss_one (ps_ret (pv 8))))
pss_nil)
(pss_cons (ps_set (i := 9) nd rfl (Or.inl rfl) (pe_call GT hr1 (by rfl) gT kT bT .nil pass0 (pa_cons (pv 8) (pa_cons (pv 7) (pa_cons (pv 2) pa_nil)))))
(pss_cons (ps_if (pt_cmpR op_ne (pv 1) pe_str (nomark _))
(pss_cons (ps_set (i := 6) nd rfl (Or.inl rfl) (pe_dsetd (pv 8) (pe_ifExp (pt_cmpR op_isN (pv 4) pe_non (nomark _)) (pe_dget hu (pv 7) (pv 2) (fun _ _ => rfl)) (pv 4)) (pe_lst pa_nil) ⟨rfl, rfl, rfl, rfl⟩))
(pss_one (ps_expr (pe_bm PySem.F.plainAttrs_list PySem.F.slot_list_insert PySem.F.type_list_insert mt_insert (pv 6) (pa_cons (pe_call GI hr1 (by rfl) gI kI bI .nil pass0 (pa_cons (pv 1) (pa_cons (pe_callB call_len_seq (by rfl) n_len PySem.boot_len (pa_cons (pv 6) pa_nil)) (pa_cons (pv 9) (pa_cons (pv 5) pa_nil))))) (pa_cons (pv 2) pa_nil))))))
pss_nil)
(pss_one (ps_ret (pv 8)))))))))), ?_⟩
    refine ⟨_, rfl, _, _, rfl, .str o.1, (arg_shaped o ho).1, fun o2 ho2 e a ha => ?_, fun hi => by rw [(arg_shaped o ho).2] at hi; cases hi⟩
    dsimp only
    refine seq_by (fun σ G => ∃ h, σ = [some (.ref p), some (.str o.1), some (.str x), some (oV y), some (oV to), some (oI k), none, some (.ref h), none, none, none, none] ∧ Same H G ∧ G h = some (.dK (hmL (lT T0)))) ?_ (fun nxt => ?_)
    · rintro σ G ⟨h, rfl, sG, hh⟩
      refine ⟨_, rfl, _, rfl, _, rfl, _, rfl, _, rfl, _, rfl, o, h, _, .str x, oV y, oV to, oI k, rfl, ho, hh, wf, hl, fx, fy, ft, fk, fun G1 s1 => ?_⟩
      have sG1 := sG.trans s1
      have hh1 := s1 _ _ hh
      have hT1 := hT.mv sG1
      dsimp only
      refine seq_by (fun σ G => ∃ q T1, σ = [some (.ref p), some (.str o.1), some (.str x), some (oV y), some (oV to), some (oI k), none, some (.ref h), some (.ref q), none, none, none] ∧ Same H G ∧ G h = some (.dK (hmL (lT T0))) ∧ DT G q T1 ∧ lT T1 = lT T0 ∧ (∀ t ∈ T1, H t.2.2 = none) ∧ H q = none) ?_ (fun nxt => ?_)
      · rintro σ G ⟨q, T1, rfl, sG, hh, hT1, eT, fr, nq⟩
        have wf1 : WF (lT T1) := by rw [eT]; exact wf
        have hx0 : ("x" : Str) ∈ o.2 := arg_x o ho
        by_cases c : o.1 = "swap"
        · have hnN : o.1 ∉ newL := by rw [c]; decide
          have hy0 : ("y" : Str) ∈ o.2 := arg_y o ho c
          unfold FitV at fx fy
          rw [if_pos hx0, if_neg (by decide), if_neg (by decide), if_neg hnN, ← eT] at fx
          rw [if_pos hy0, if_neg (by decide), if_neg (by decide), if_neg hnN, ← eT] at fy
          obtain ⟨x', ex, hx⟩ := fx
          obtain rfl : x = x' := by injection ex
          obtain ⟨yz, ey, hy⟩ := fy
          obtain rfl : y = some yz := by
            cases y with
            | none => cases ey
            | some y' => injection ey with e; rw [e]
          obtain ⟨e1, he1, hx1⟩ := mem_all.mp hx
          obtain ⟨ta, hta, rfl⟩ := List.mem_map.mp he1
          obtain ⟨e2, he2, hy1⟩ := mem_all.mp hy
          obtain ⟨tb, htb, rfl⟩ := List.mem_map.mp he2
          have hx1 : x ∈ ta.2.1 := hx1
          have hy1 : yz ∈ tb.2.1 := hy1
          have hvx := hm_val wf1 he1 hx1
          have hvy := hm_val wf1 he2 hy1
          rw [← eT] at hh
          have g1 : DGet G h (V.str x) (some (.str ta.1)) := .inl ⟨_, .inr x, .inl hh, rfl, hvx.symm⟩
          have g2 : DGet G q (V.str ta.1) (some (.ref ta.2.2)) := .inl ⟨_, .inr ta.1, .inl hT1.at_, rfl, (kv_val wf1.kn hta).symm⟩
          have g3 : DGet G h (V.str yz) (some (.str tb.1)) := .inl ⟨_, .inr yz, .inl hh, rfl, hvy.symm⟩
          have g4 : DGet G q (V.str tb.1) (some (.ref tb.2.2)) := .inl ⟨_, .inr tb.1, .inl hT1.at_, rfl, (kv_val wf1.kn htb).symm⟩
          refine ⟨_, rfl, rfl, _, rfl, yes (decide_eq_true (congrArg V.str c)) ?_⟩
          refine ⟨_, rfl, _, rfl, _, rfl, h, _, rfl, g1, q, _, rfl, g2, _, rfl, _, rfl, _, rfl, h, _, rfl, g3, q, _, rfl, g4, _, rfl, _, rfl, ta.2.2, tb.2.2, _, _, _, _, rfl, hT1.all _ hta, hT1.all _ htb, hx1, hy1, fun r3 h3 => ⟨_, rfl, ?_⟩⟩
          have hT2 := hT1.put hta (ta.2.1.set (ta.2.1.idxOf x) yz)
          have hm : (if tb.2.2 = ta.2.2 then (tb.1, ta.2.1.set (ta.2.1.idxOf x) yz, tb.2.2) else tb) ∈ setT ta.2.2 (ta.2.1.set (ta.2.1.idxOf x) yz) T1 := List.mem_map.mpr ⟨tb, htb, rfl⟩
          have e22 : (if tb.2.2 = ta.2.2 then (tb.1, ta.2.1.set (ta.2.1.idxOf x) yz, tb.2.2) else tb).2.2 = tb.2.2 := by split <;> rfl
          have e21 : (if tb.2.2 = ta.2.2 then (tb.1, ta.2.1.set (ta.2.1.idxOf x) yz, tb.2.2) else tb).1 = tb.1 := by split <;> rfl
          have e23 : (if tb.2.2 = ta.2.2 then (tb.1, ta.2.1.set (ta.2.1.idxOf x) yz, tb.2.2) else tb).2.1 = if tb.1 = ta.1 then ta.2.1.set (ta.2.1.idxOf x) yz else tb.2.1 := by
            by_cases c2 : tb.2.2 = ta.2.2
            · obtain rfl := addr_inj hT1.nd htb hta c2
              rw [if_pos rfl, if_pos rfl]
            · rw [if_neg c2, if_neg]
              intro e
              have := wf_key wf1.kn he2 he1 e
              have : tb.2.2 = ta.2.2 := by
                have q1 := kv_val wf1.kn hta
                rw [← e, kv_val wf1.kn htb] at q1
                injection q1 with q1
                injection q1
              exact c2 this
          generalize (if tb.2.2 = ta.2.2 then (tb.1, ta.2.1.set (ta.2.1.idxOf x) yz, tb.2.2) else tb) = u at hm e22 e21 e23
          have hu := hT2.all u hm
          rw [e22] at hu
          obtain rfl : u.2.1 = r3 := by
            rw [hu] at h3
            have h3 := Option.some.inj h3
            injection h3 with h3
            exact (List.map_inj_right fun a b e => by injection e).mp h3
          have hT3 := hT2.put hm (u.2.1.set (tb.2.1.idxOf yz) x)
          rw [e22] at hT3
          refine q2 q _ nq (fun a w e => ?_) ⟨_, ?_, hT3, fr_set (fr_set fr)⟩
          · exact (upd_ne (ne_of_none e (fr tb htb))).trans ((upd_ne (ne_of_none e (fr ta hta))).trans (sG _ _ e))
          · have k2 : (keysL (lT (setT ta.2.2 (ta.2.1.set (ta.2.1.idxOf x) yz) T1))).Nodup := by
              rw [l_set hT1.nd wf1.kn hta]
              rw [keys_at]
              exact wf1.kn
            have e4 := l_set hT2.nd k2 hm (u.2.1.set (tb.2.1.idxOf yz) x)
            rw [e22, e21, l_set hT1.nd wf1.kn hta] at e4
            rw [e4]
            have e5 := swap_eq wf1 he1 he2 hx1 hy1 u.2.1 e23
            rw [show apL o.1 x (some yz) to k (lT T0) = swapL x yz (lT T0) by unfold apL; rw [if_pos c]; rfl, ← eT]
            exact e5
        · refine ⟨_, rfl, rfl, _, rfl, no (decide_eq_false fun z => c (by injection z)) ?_⟩
          unfold tNext
          dsimp only
          refine seq_by (fun σ G => ∃ T2, σ = [some (.ref p), some (.str o.1), some (.str x), some (oV y), some (oV to), some (oI k), none, some (.ref h), some (.ref q), some (oI (atO (lT T0) x)), none, none] ∧ Same H G ∧ G h = some (.dK (hmL (lT T0))) ∧ DT G q T2 ∧ lT T2 = takeL x (lT T0) ∧ (∀ t ∈ T2, H t.2.2 = none)) ?_ (fun nxt => ?_)
          · rintro σ G ⟨T2, rfl, sG, hh, hT2, eT2, fr2⟩
            have nT2 : (keysL (lT T2)).Nodup := by rw [eT2, keys_take]; exact wf.kn
            by_cases c2 : o.1 = "take"
            · refine ⟨_, rfl, rfl, _, rfl, no (by show (!decide _) = false; rw [decide_eq_true (congrArg V.str c2)]; rfl) ⟨_, rfl, q2 q G nq sG ⟨T2, ?_, hT2, fr2⟩⟩⟩
              unfold apL
              rw [if_neg c, if_pos c2, eT2]
            · refine ⟨_, rfl, rfl, _, rfl, yes (by show (!decide _) = true; rw [decide_eq_false fun z => c2 (by injection z)]; rfl) ?_⟩
              have hx : o.1 ∉ newL → x ∈ allL (lT T0) := fun n => by
                unfold FitV at fx
                rw [if_pos hx0, if_neg (by decide), if_neg (by decide), if_neg n] at fx
                obtain ⟨x', ex, hx⟩ := fx
                obtain rfl : x = x' := by injection ex
                exact hx
              have tk : ∀ (Qc : V → Hp → Prop), Qc (.str (to.getD (homeL (lT T0) x))) G → tIf (tTest (tOp (fun x y H Q => y = V.non ∧ Q (V.bl (decide (x = V.non))) H) (tVar 4) (tC V.non))) (tDGet (tVar 7) (tVar 2)) (tVar 4) [some (.ref p), some (.str o.1), some (.str x), some (oV y), some (oV to), some (oI k), none, some (.ref h), some (.ref q), some (oI (atO (lT T0) x)), none, none] G Qc := by
                intro Qc hq
                cases to with
                | none =>
                  have hn : o.1 ∉ newL := fun n => by
                    unfold FitV at ft
                    rw [if_pos (arg_to o ho n), if_pos rfl] at ft
                    obtain ⟨z, ez, _⟩ := ft
                    cases ez
                  obtain ⟨e, he, hxe⟩ := mem_all.mp (hx hn)
                  have g1 : DGet G h (V.str x) (some (.str e.1)) := .inl ⟨_, .inr x, .inl hh, rfl, (hm_val wf he hxe).symm⟩
                  rw [show (none : Option Str).getD (homeL (lT T0) x) = e.1 from home_of wf he hxe] at hq
                  exact ⟨_, rfl, rfl, _, rfl, yes rfl ⟨_, rfl, _, rfl, h, _, rfl, g1, hq⟩⟩
                | some z => exact ⟨_, rfl, rfl, _, rfl, no rfl ⟨_, rfl, hq⟩⟩
              refine seq_by (fun σ G => ∃ T3 t3, σ = [some (.ref p), some (.str o.1), some (.str x), some (oV y), some (oV to), some (oI k), some (.ref t3.2.2), some (.ref h), some (.ref q), some (oI (atO (lT T0) x)), none, none] ∧ Same H G ∧ DT G q T3 ∧ lT T3 = openL (to.getD (homeL (lT T0) x)) (takeL x (lT T0)) ∧ (∀ t ∈ T3, H t.2.2 = none) ∧ t3 ∈ T3 ∧ t3.1 = to.getD (homeL (lT T0) x) ∧ t3.2.1 = rowsL (takeL x (lT T0)) (to.getD (homeL (lT T0) x))) ?_ (fun nxt => ?_)
              · rintro σ G ⟨T3, t3, rfl, sG, hT3, eT3, fr3, ht3, ek3, er3⟩
                have hat : ∀ j, atO (lT T0) x = some j → j ≤ 3000 := fun j e => by
                  unfold atO at e
                  split at e
                  · obtain rfl := Option.some.inj e
                    have := List.idxOf_le_length (a := x) (l := rowsL (lT T0) (homeL (lT T0) x))
                    have := rows_le (lT T0) (homeL (lT T0) x)
                    omega
                  · cases e
                have hkk : o.1 = "put" ∨ o.1 = "move" → ∃ j, k = some j ∧ 1 ≤ j ∧ j ≤ 3000 := fun n => by
                  unfold FitV at fk
                  rw [if_pos (arg_k o ho n), if_neg (by decide), if_pos rfl] at fk
                  obtain ⟨j, xs, ts, ek, _, _, k1, k2⟩ := fk
                  have : lpL (lT T0) xs ts ≤ 2000 := Nat.le_trans (List.length_filter_le ..) (by rw [hm_len]; exact hl)
                  cases k with
                  | none => cases ek
                  | some k' =>
                    have : (k' : Int) = (j : Int) := by injection ek
                    exact ⟨k', rfl, by omega, by omega⟩
                have hrl : t3.2.1.length ≤ 2000 := by
                  rw [er3]
                  exact Nat.le_trans (rows_le _ _) (Nat.le_trans (all_take _ _) hl)
                have hlst := hT3.all t3 ht3
                refine ⟨_, rfl, .inl ⟨rfl, _, SqL.of hlst⟩, _, rfl, _, rfl, _, _, rfl, .inl (SqL.of hlst), _, rfl, _, rfl, o.1, _, _, _, rfl, fun n => ?_, fun n => ?_, fun G4 s4 => ?_⟩
                · obtain ⟨j, e, j1, _⟩ := hkk n
                  exact ⟨j, e, j1⟩
                · have hn : o.1 ∉ newL := by rcases n with n | n <;> rw [n] <;> decide
                  refine ⟨(rowsL (lT T0) (homeL (lT T0) x)).idxOf x, ?_⟩
                  unfold atO
                  rw [if_pos (hx hn)]
                · have hi := idx_lt (op := o.1) (n := (t3.2.1.map V.str).length) (a := atO (lT T0) x) (k := k) (by rw [List.length_map]; omega) hat (fun n j e => by obtain ⟨j', e', _, j3⟩ := hkk n; rw [e] at e'; injection e' with e'; omega)
                  have hT4 := hT3.mv s4
                  refine ⟨_, rfl, t3.2.2, _, _, .str x, rfl, rfl, hT4.all t3 ht3, by rw [List.length_map, sizeLine_eq]; omega, Int.natCast_nonneg _, by omega, ?_⟩
                  have e5 : (t3.2.1.map V.str).take (idxL o.1 (t3.2.1.map V.str).length (atO (lT T0) x) k : Int).toNat ++ [V.str x] ++ (t3.2.1.map V.str).drop (idxL o.1 (t3.2.1.map V.str).length (atO (lT T0) x) k : Int).toNat = (insR (idxL o.1 t3.2.1.length (atO (lT T0) x) k) x t3.2.1).map V.str := by
                    unfold insR
                    rw [Int.toNat_natCast, List.length_map, List.map_append, List.map_append, List.map_take, List.map_drop]
                    rfl
                  rw [e5]
                  have hT5 := hT4.put ht3 (insR (idxL o.1 t3.2.1.length (atO (lT T0) x) k) x t3.2.1)
                  refine ⟨_, rfl, q2 q _ nq (fun a w e => (upd_ne (ne_of_none e (fr3 t3 ht3))).trans (s4 _ _ (sG _ _ e))) ⟨_, ?_, hT5, fr_set fr3⟩⟩
                  have nT3 : (keysL (lT T3)).Nodup := by
                    rw [eT3]
                    refine keys_open ?_
                    rw [keys_take]
                    exact wf.kn
                  rw [l_set hT4.nd nT3 ht3, eT3, ek3, er3]
                  unfold apL intoL
                  rw [if_neg c, if_neg c2]
              · refine ⟨_, rfl, q, rfl, .inl ⟨_, .inl hT2.at_⟩, tk _ ⟨(by show 0 ≤ sizeLine; decide), fun l nl => ?_⟩⟩
                have hT20 := hT2
                have sG0 := sG
                generalize e_G3 : upd _ l _ = G3
                have s_l := new_same e_G3 nl
                have f_l := new_at e_G3
                clear e_G3
                have sG := sG.mv s_l
                have hT2 := hT2.mv s_l
                have len2 : T2.length ≤ 2000 := by
                  have e := congrArg List.length eT2
                  unfold takeL lT at e
                  rw [List.length_map, List.length_map, List.length_map] at e
                  have : T0.length ≤ 2000 := by have := hl2; unfold lT at this; rwa [List.length_map] at this
                  omega
                refine ⟨kvT T2, .inr (to.getD (homeL (lT T0) x)), hT2.at_, rfl, by unfold kvT; rw [List.length_map, sizeLine_eq]; omega, fun v hv => ?_, fun hv => ?_⟩
                · -- the list is there
                  have hin := valV_in hv
                  unfold kvT at hin
                  rw [List.map_map] at hin
                  obtain ⟨t3, ht3, e3⟩ := List.mem_map.mp hin
                  have e3 : t3.1 = to.getD (homeL (lT T0) x) := by injection (show (Sum.inr t3.1 : Key) = Sum.inr _ from e3)
                  have e4 := kv_val nT2 ht3
                  rw [e3, hv] at e4
                  obtain rfl := Option.some.inj e4
                  have hm : (t3.1, t3.2.1) ∈ lT T2 := List.mem_map.mpr ⟨t3, ht3, rfl⟩
                  refine nxt _ _ ⟨T2, t3, rfl, sG, hT2, ?_, fr2, ht3, e3, ?_⟩
                  · unfold openL
                    rw [if_pos (by rw [← e3, ← eT2]; exact List.mem_map.mpr ⟨_, hm, rfl⟩), eT2]
                  · rw [← e3, ← eT2]
                    exact (rows_of nT2 hm).symm
                · have nk : to.getD (homeL (lT T0) x) ∉ keysL (lT T2) := fun hk => by
                    obtain ⟨e, he, ee⟩ := List.mem_map.mp hk
                    obtain ⟨t3, ht3, rfl⟩ := List.mem_map.mp he
                    have e4 := kv_val nT2 ht3
                    rw [show t3.1 = to.getD (homeL (lT T0) x) from ee, hv] at e4
                    cases e4
                  have nla : ∀ t ∈ T2, t.2.2 ≠ l := fun t ht e => by rw [← e, hT20.all t ht] at nl; cases nl
                  have nlq : l ≠ q := fun e => by rw [e, hT20.at_] at nl; cases nl
                  have lowl : H l = none := by
                    cases e2 : H l with
                    | none => rfl
                    | some u => rw [sG0 _ _ e2] at nl; cases nl
                  refine nxt _ _ ⟨T2 ++ [(to.getD (homeL (lT T0) x), [], l)], (to.getD (homeL (lT T0) x), [], l), rfl, fun a w e => (upd_ne (ne_of_none e nq)).trans (sG _ _ e), ⟨?_, fun t ht => ?_, ?_⟩, ?_, fun t ht => ?_, List.mem_append_right _ (List.mem_singleton.mpr rfl), rfl, ?_⟩
                  · rw [upd_same, putK_new _ hv]
                    unfold kvT
                    rw [List.map_append]
                    rfl
                  · rcases List.mem_append.mp ht with ht | ht
                    · refine (upd_ne fun e => ?_).trans (hT2.all t ht)
                      have := hT2.all t ht
                      rw [e, hT2.at_] at this
                      cases this
                    · rw [List.mem_singleton.mp ht]
                      exact (upd_ne nlq).trans f_l
                  · rw [List.map_append]
                    refine List.nodup_append.mpr ⟨hT2.nd, by simp, fun a ha b hb => ?_⟩
                    obtain ⟨u, hu, rfl⟩ := List.mem_map.mp ha
                    rw [List.mem_singleton.mp hb]
                    exact nla u hu
                  · rw [lT_app, eT2]
                    unfold openL
                    rw [if_neg (by rw [← eT2]; exact nk)]
                    rfl
                  · rcases List.mem_append.mp ht with ht | ht
                    · exact fr2 t ht
                    · rw [List.mem_singleton.mp ht]
                      exact lowl
                  · rw [← eT2]
                    exact (rows_no nk).symm
          · refine ⟨_, rfl, _, rfl, _, rfl, q, h, _, T1, x, rfl, rfl, hT1, by rw [eT]; exact hh, wf1, fun hn => ?_, fun t ht hx => ?_⟩
            · refine nxt _ _ ⟨T1, ?_, sG, hh, hT1, ?_, fr⟩
              · unfold atO
                rw [eT] at hn
                rw [if_neg hn]
                rfl
              · rw [← eT]
                refine (take_no fun e he => fun hx => hn (mem_all.mpr ⟨e, he, hx⟩)).symm
            · have hm : (t.1, t.2.1) ∈ lT T1 := List.mem_map.mpr ⟨t, ht, rfl⟩
              have hxa : x ∈ allL (lT T0) := by rw [← eT]; exact mem_all.mpr ⟨_, hm, hx⟩
              have eh : homeL (lT T0) x = t.1 := by rw [← eT]; exact home_of wf1 hm hx
              have er : rowsL (lT T0) t.1 = t.2.1 := by rw [← eT]; exact rows_of wf1.kn hm
              refine nxt _ _ ⟨setT t.2.2 (t.2.1.erase x) T1, ?_, fun a w e => (upd_ne (ne_of_none e (fr t ht))).trans (sG _ _ e), (upd_ne fun e => ?_).trans hh, hT1.put ht _, ?_, fun u hu => ?_⟩
              · unfold atO
                rw [if_pos hxa, eh, er]
                rfl
              · have := hT1.all t ht
                rw [← e, hh] at this
                cases this
              · rw [l_set hT1.nd wf1.kn ht, eT]
                rw [eT] at hm
                exact (take_at' wf hm hx)
              · obtain ⟨v, hv, rfl⟩ := List.mem_map.mp hu
                split
                · exact fr v hv
                · exact fr v hv
      · refine ⟨p, _, hT1.at_, trivial, fun od => ?_⟩
        have fd0 : upd G1 p (.frz od (.dK (kvT T0))) p = some (.frz od (.dK (kvT T0))) := upd_same
        have back := fun G => frz_back (G := G) (od := od) hT1.at_
        have lists : ∀ t ∈ T0, upd G1 p (.frz od (.dK (kvT T0))) t.2.2 = some (.lst (t.2.1.map V.str)) := fun t ht => by
          refine (upd_ne fun e => ?_).trans (hT1.all t ht)
          have := hT1.all t ht
          rw [e, hT1.at_] at this
          cases this
        have low : ∀ a, upd G1 p (.frz od (.dK (kvT T0))) a = none → H a = none := fun a e => by
          cases e2 : H a with
          | none => rfl
          | some u =>
            have := sG1 _ _ e2
            by_cases c : a = p
            · rw [c, upd_same] at e
              cases e
            · rw [upd_ne c, this] at e
              cases e
        generalize upd G1 p (.frz od (.dK (kvT T0))) = Hf at fd0 back lists low ⊢
        refine ⟨_, rfl, p, od, kvT T0, rfl, fd0, fun D nD => ?_⟩
        have npD : p ≠ D := ne_of_none fd0 nD
        refine dc_it (walk_items (d := p) (o := od) (kvs := kvT T0)) (fun i G => ∃ T1, G D = some (.dK (kvT T1)) ∧ (∀ t ∈ T1, G t.2.2 = some (.lst (t.2.1.map V.str))) ∧ (T1.map (·.2.2)).Nodup ∧ lT T1 = lT (T0.take i) ∧ (∀ t ∈ T1, Hf t.2.2 = none ∧ t.2.2 ≠ D) ∧ Same Hf G) ⟨[], upd_same, (fun _ z => nomatch z), List.nodup_nil, rfl, (fun _ z => nomatch z), same_put nD⟩ (fun i G _ h => by obtain ⟨_, _, _, _, _, _, q⟩ := h; exact q _ _ fd0) ?_ ?_
        · rintro i v G' G hi ⟨T1, hD, hal, hnd, heq, hfr, sG⟩ ⟨T, u, u2, rfl, nT, rfl, hu', hv'⟩
          obtain ⟨kv, hkv, hu2⟩ := Option.map_eq_some_iff.mp hu'
          obtain ⟨kv2, hkv2, hv2⟩ := Option.map_eq_some_iff.mp hv'
          rw [hkv] at hkv2
          obtain rfl := Option.some.inj hkv2
          obtain ⟨t, ht, rfl⟩ := Option.map_eq_some_iff.mp ((List.getElem?_map ..).symm.trans hkv)
          obtain rfl : V.str t.1 = u := hu2
          obtain rfl : V.ref t.2.2 = u2 := hv2
          have htm := List.mem_of_getElem? ht
          have hD0 := hD
          have sG0 := sG
          generalize e_G2 : upd _ T _ = G2
          have s_T := new_same e_G2 nT
          have f_T := new_at e_G2
          clear e_G2
          have hD := hD.mv s_T
          have sG := sG.mv s_T
          have hal2 : ∀ t ∈ T1, G2 t.2.2 = some (.lst (t.2.1.map V.str)) := fun t ht => s_T _ _ (hal t ht)
          refine ⟨_, _, rfl, SqT.of f_T, rfl, _, _, rfl, _, _, rfl, rfl, rfl, ?_⟩
          dsimp only [tYes]
          rw [if_pos rfl]
          refine ⟨_, rfl, _, rfl, t.2.2, _, rfl, .inl (SqL.of (sG _ _ (lists t htm))), fun l nl => ?_⟩
          have nkey : t.1 ∉ keysL (lT T1) := by
            rw [heq]
            have kn := wf.kn
            rw [take_t ht, lT_app, lT_app] at kn
            unfold keysL at kn ⊢
            rw [List.map_append, List.map_append] at kn
            obtain ⟨n1, _, _⟩ := List.nodup_append.mp kn
            obtain ⟨_, _, n3⟩ := List.nodup_append.mp n1
            exact fun q => n3 _ q t.1 (List.mem_singleton.mpr rfl) rfl
          have len1 : T1.length ≤ 2000 := by
            have e := congrArg List.length heq
            unfold lT at e
            rw [List.length_map, List.length_map, List.length_take] at e
            have : T0.length ≤ 2000 := by have := hl2; unfold lT at this; rwa [List.length_map] at this
            omega
          generalize e_G3 : upd _ l _ = G3
          have s_l := new_same e_G3 nl
          have f_l := new_at e_G3
          clear e_G3
          have hD := hD.mv s_l
          have sG := sG.mv s_l
          have hal3 : ∀ t ∈ T1, G3 t.2.2 = some (.lst (t.2.1.map V.str)) := fun t ht => s_l _ _ (hal2 t ht)
          have nlD : l ≠ D := fun e => by rw [e, s_T _ _ hD0] at nl; cases nl
          have nla : ∀ t ∈ T1, t.2.2 ≠ l := fun t ht e => by rw [← e, hal2 t ht] at nl; cases nl
          have lowl : Hf l = none := by
            cases e2 : Hf l with
            | none => rfl
            | some u => rw [s_T _ _ (sG0 _ _ e2)] at nl; cases nl
          refine ⟨_, .inr t.1, rfl, hD, by unfold kvT; rw [List.length_map, sizeLine_eq]; omega, T1 ++ [(t.1, t.2.1, l)], ?_, ?_, ?_, ?_, ?_, fun y o e => (upd_ne (ne_of_none e nD)).trans (sG _ _ e)⟩
          · rw [upd_same, putK_new _ (kv_none nkey)]
            unfold kvT
            rw [List.map_append]
            rfl
          · intro u hu
            rcases List.mem_append.mp hu with hu | hu
            · exact (upd_ne (hfr u hu).2).trans (hal3 u hu)
            · rw [List.mem_singleton.mp hu]
              exact (upd_ne nlD).trans f_l
          · rw [List.map_append]
            refine List.nodup_append.mpr ⟨hnd, by simp, fun a ha b hb => ?_⟩
            obtain ⟨u, hu, rfl⟩ := List.mem_map.mp ha
            rw [List.mem_singleton.mp hb]
            exact nla u hu
          · rw [lT_app, heq, take_at ht, lT_app]
            rfl
          · intro u hu
            rcases List.mem_append.mp hu with hu | hu
            · exact hfr u hu
            · rw [List.mem_singleton.mp hu]
              exact ⟨lowl, nlD⟩
        · rintro G ⟨T1, hD, hal, hnd, heq, hfr, sG⟩
          rw [List.take_of_length_le (by unfold kvT; rw [List.length_map]; exact Nat.le_refl _)] at heq
          have sB := back G sG
          have nDp : D ≠ p := npD.symm
          exact ⟨sG _ _ fd0, nxt _ _ ⟨D, T1, rfl, sG1.trans sB, sB _ _ hh1, ⟨(upd_ne nDp).trans hD, fun t ht => (upd_ne fun e => by rw [← e, (hfr t ht).1] at fd0; cases fd0).trans (hal t ht), hnd⟩, heq, fun t ht => low _ (hfr t ht).1, low _ nD⟩⟩
    · refine ⟨p, _, hT.at_, trivial, fun od => ?_⟩
      have fd0 : upd H p (.frz od (.dK (kvT T0))) p = some (.frz od (.dK (kvT T0))) := upd_same
      have back := fun G => frz_back (G := G) (od := od) hT.at_
      have lists : ∀ t ∈ T0, upd H p (.frz od (.dK (kvT T0))) t.2.2 = some (.lst (t.2.1.map V.str)) := fun t ht => by
        refine (upd_ne fun e => ?_).trans (hT.all t ht)
        have := hT.all t ht
        rw [e, hT.at_] at this
        cases this
      generalize upd H p (.frz od (.dK (kvT T0))) = Hf at fd0 back lists ⊢
      refine ⟨_, rfl, p, od, kvT T0, rfl, fd0, fun D nD => ?_⟩
      have npD : p ≠ D := ne_of_none fd0 nD
      refine dc2_it (walk_items (d := p) (o := od) (kvs := kvT T0)) (fun i G => G D = some (.dK (hmL (lT (T0.take i)))) ∧ Same Hf G) ⟨upd_same, same_put nD⟩ (fun i G _ h => h.2 _ _ fd0) ?_ ?_
      · rintro i v G' G hi ⟨hD, sG⟩ ⟨T, u, u2, rfl, nT, rfl, hu', hv'⟩
        obtain ⟨kv, hkv, hu2⟩ := Option.map_eq_some_iff.mp hu'
        obtain ⟨kv2, hkv2, hv2⟩ := Option.map_eq_some_iff.mp hv'
        rw [hkv] at hkv2
        obtain rfl := Option.some.inj hkv2
        obtain ⟨t, ht, rfl⟩ := Option.map_eq_some_iff.mp ((List.getElem?_map ..).symm.trans hkv)
        obtain rfl : V.str t.1 = u := hu2
        obtain rfl : V.ref t.2.2 = u2 := hv2
        have htm := List.mem_of_getElem? ht
        generalize e_G2 : upd _ T _ = G2
        have s_T := new_same e_G2 nT
        have f_T := new_at e_G2
        clear e_G2
        have hD := hD.mv s_T
        have sG := sG.mv s_T
        refine ⟨_, _, rfl, SqT.of f_T, rfl, _, _, rfl, _, _, rfl, rfl, rfl, ?_⟩
        dsimp only [tYes]
        rw [if_pos rfl]
        have hl2 : SqL K G2 t.2.2 (t.2.1.map V.str) := SqL.of (sG _ _ (lists t htm))
        refine ⟨_, rfl, _, rfl, ⟨_, hl2⟩, ?_⟩
        have eT : hmL (lT (T0.take (i + 1))) = hmL (lT (T0.take i)) ++ t.2.1.map fun r => ((Sum.inr r : Key), V.str t.1) := by
          rw [take_at ht, lT_app, hm_app]
          show _ ++ (t.2.1.map _ ++ []) = _
          rw [List.append_nil]
        refine ind_it (walk_list (K := K) (a := t.2.2) (xs := t.2.1.map V.str)) (fun j G => G D = some (.dK (hmL (lT (T0.take i)) ++ (t.2.1.take j).map fun r => ((Sum.inr r : Key), V.str t.1))) ∧ Same Hf G) ⟨by rw [List.take_zero, List.map_nil, List.append_nil]; exact hD, sG⟩ (fun j G _ h => SqL.of (h.2 _ _ (lists t htm))) ?_ ?_
        · rintro j v G3 G4 hj ⟨hD3, sG3⟩ ⟨rfl, hv⟩
          obtain ⟨r, hr, rfl⟩ := Option.map_eq_some_iff.mp ((List.getElem?_map ..).symm.trans hv)
          obtain ⟨p1, p2⟩ := hm_pre wf.rn ht hr
          refine ⟨rfl, ?_⟩
          dsimp only [tYes]
          rw [if_pos rfl]
          refine ⟨_, rfl, _, rfl, _, .inr r, rfl, hD3, by rw [sizeLine_eq]; omega, ?_, fun y o e => (upd_ne (ne_of_none e nD)).trans (sG3 _ _ e)⟩
          rw [upd_same, putK_new _ p1, take_at hr, List.map_append, List.append_assoc]
          rfl
        · rintro G3 ⟨hD3, sG3⟩
          rw [List.length_map, List.take_length, ← eT] at hD3
          exact ⟨hD3, sG3⟩
      · rintro G ⟨hD, sG⟩
        rw [List.take_of_length_le (by unfold kvT; rw [List.length_map]; exact Nat.le_refl _)] at hD
        exact ⟨sG _ _ fd0, nxt _ _ ⟨D, rfl, back G sG, (upd_ne npD.symm).trans hD⟩⟩
end
end K11

set_option Elab.async false
set_option maxRecDepth 100000
set_option maxHeartbeats 2000000
namespace K11
open PySem PySem.Spec PyProof.Rows L2 He KX StX
abbrev sLAll : Stmt := top 27
abbrev sLHom : Stmt := top 29
def spAll : Sp := fun vs H Q _ => ∃ (p : Addr) (L : LL), vs = [.ref p] ∧ DL H p L ∧ WF L ∧ L.length < 64 ∧ (allL L).length ≤ 2000 ∧ ∀ (F : Addr) (rs : List Str) (G : Hp), H F = none → Same H G → G F = some (.lst (rs.map V.str)) → rs.Nodup → (∀ x, x ∈ rs ↔ x ∈ allL L) → Q (.ref F) G
def spHom : Sp := fun vs H Q _ => ∃ (p : Addr) (L : LL) (x : Str), vs = [.ref p, .str x] ∧ DL H p L ∧ WF L ∧ L.length < 64 ∧ x ∈ allL L ∧ (∀ k ∈ keysL L, isNm k = true) ∧ ∀ G, Same H G → Q (.str (homeL L x)) G
def fullL (L : LL) : LL := L.filter fun e => !e.2.isEmpty
def spFul : Sp := fun vs H Q _ => ∃ (p : Addr) (L : LL), vs = [.ref p] ∧ DL H p L ∧ WF L ∧ L.length < 64 ∧ (∀ z ∈ allL L, isNm z = true) ∧ ∀ F G, H F = none → Same H G → DL G F (fullL L) → Q (.ref F) G
theorem flat_rows {L : LL} (kn : (keysL L).Nodup) : (keysL L).flatMap (rowsL L) = allL L := by
  unfold keysL allL
  rw [List.flatMap_map]
  have : ∀ M : LL, (∀ e ∈ M, e ∈ L) → M.flatMap (fun e => rowsL L e.1) = M.flatMap (·.2) := by
    intro M
    induction M with
    | nil => intro _; rfl
    | cons a M ih =>
      intro h
      rw [List.flatMap_cons, List.flatMap_cons, ih fun e he => h e (List.mem_cons_of_mem _ he), rows_of kn (h a List.mem_cons_self)]
  exact this L fun _ h => h
theorem nm_strOk {z : Str} (h : isNm z = true) : PyData.strOk z = true := by
  unfold PyData.strOk
  rw [← Array.all_toList, List.all_eq_true]
  intro c hc
  have := (nm_inv h).2.2 c hc
  unfold isLet at this
  simp at this
  exact decide_eq_true (by omega)
theorem nmsSh {zs : List Str} (h : ∀ z ∈ zs, isNm z = true) : SeqAt.shaped (.list (zs.map PyData.str)) = true := by
  have e1 : ∀ zs : List Str, (∀ z ∈ zs, isNm z = true) → PyData.canLayAll0 (zs.map PyData.str) = true ∧ PyData.depthAll (zs.map PyData.str) = 0 := by
    intro zs
    induction zs with
    | nil => intro _; exact ⟨rfl, rfl⟩
    | cons z r ih =>
      intro h
      obtain ⟨h1, h2⟩ := ih fun y hy => h y (List.mem_cons_of_mem _ hy)
      refine ⟨?_, ?_⟩
      · show (PyData.strOk z && PyData.canLayAll0 (r.map PyData.str)) = true
        rw [nm_strOk (h z List.mem_cons_self), h1]
        rfl
      · show max 0 (PyData.depthAll (r.map PyData.str)) = 0
        rw [h2]
        rfl
  obtain ⟨h1, h2⟩ := e1 zs h
  unfold SeqAt.shaped
  refine Bool.and_eq_true_iff.mpr ⟨h1, decide_eq_true ?_⟩
  show PyData.depthAll (zs.map PyData.str) + 1 ≤ 64
  omega
theorem pr_imp {α β : Type} {R S : α → β → Prop} (f : ∀ a b, R a b → S a b) : ∀ {xs : List α} {ys : List β}, Paired R xs ys → Paired S xs ys
  | _, _, .nil => .nil
  | _, _, .cons h t => .cons (f _ _ h) (pr_imp f t)
theorem pr_app {α β : Type} {R : α → β → Prop} : ∀ {xs : List α} {ys : List β}, Paired R xs ys → ∀ {us : List α} {vs : List β}, Paired R us vs → Paired R (xs ++ us) (ys ++ vs)
  | _, _, .nil, _, _, h => h
  | _, _, .cons a t, _, _, h => .cons a (pr_app t h)
theorem full_T (T : TT) : lT (T.filter fun t => !t.2.1.isEmpty) = fullL (lT T) := by
  unfold lT fullL
  rw [List.filter_map]
  rfl
theorem inr_nd {l : List Str} (h : l.Nodup) : (l.map fun k => (Sum.inr k : Key)).Nodup := List.Pairwise.map _ (fun a b ne q => ne (by injection q)) h
theorem mergeK_app : ∀ (more kvs : List (Key × V)), ((kvs ++ more).map (·.1)).Nodup → mergeK kvs more = kvs ++ more
  | [], kvs, _ => (List.append_nil kvs).symm
  | q :: r, kvs, h => by
    have hn : valV kvs q.1 = none := by
      cases e : valV kvs q.1 with
      | none => rfl
      | some v =>
        have hin := valV_in e
        rw [List.map_append] at h
        exact absurd rfl ((List.nodup_append.mp h).2.2 _ hin _ List.mem_cons_self)
    have e : kvs ++ q :: r = (kvs ++ [(q.1, q.2)]) ++ r := by rw [List.append_assoc]; rfl
    show mergeK (putK kvs q.1 q.2) r = _
    rw [putK_new _ hn, mergeK_app r _ (by rw [← e]; exact h), e]
theorem mergeK_nil {kvs : List (Key × V)} (h : (kvs.map (·.1)).Nodup) : mergeK [] kvs = kvs := mergeK_app kvs [] h
theorem one_of {l : List Str} {a : Str} (nd : l.Nodup) (h : ∀ z ∈ l, z = a) (ha : a ∈ l) : l = [a] := by
  match l, nd, h, ha with
  | [z], _, h, _ => rw [h z List.mem_cons_self]
  | z :: z' :: r, nd, h, _ =>
    exfalso
    have e1 := h z List.mem_cons_self
    have e2 := h z' (List.mem_cons_of_mem _ List.mem_cons_self)
    exact (List.nodup_cons.mp nd).1 (by rw [e1, ← e2]; exact List.mem_cons_self)
section
variable {P : Program} {w : World} {K : PySem.W.Frag} {mg : Str → Option Value} {base : Heap}
theorem scLAll : FnScope ["lists", "found", "key"] ["lists"] (defScope sLAll) := ⟨rfl, rfl, rfl, by decide +kernel, rfl, by decide +kernel, by decide +kernel⟩
theorem ok_lall {f : Addr} {fd : FuncData} (F : FnP K "_law_all" sLAll f fd) (n_sorted : mg "sorted" = none) (n_list : mg "list" = none) : FnOk P w K mg base CX0 1 f fd ["lists"] spAll := by
  refine F.ok scLAll (fun vs H Q E h => ?_) (fun cdv A outer s H vs Q E hr h => ?_)
  · obtain ⟨p, L, rfl, _⟩ := h
    rfl
  · obtain ⟨p, L, rfl, ⟨T, rfl, hT⟩, wf, hl, hl2, q⟩ := h
    have nd := scLAll.nd
    have hu : (A.deeper (envOfC "_law_all" (defScope sLAll) s.heap.objs.size f cdv)).units + 1 < cLine := by have := hr.un; omega
    refine ⟨_, PSs.nox (pss_cons (ps_set (i := 1) nd rfl (Or.inl rfl) (pe_lst pa_nil))
(pss_cons (ps_for PassesOwn.never rfl (pi_list (pe_callB cr_sortedS (by rfl) n_sorted (by decide +kernel) (pa_cons (pe_callTy (call_listD rfl) (by rfl) n_list (by decide +kernel) (pa_cons (pv 0) pa_nil)) pa_nil))) (pg_name (i := 2) nd rfl (Or.inl rfl))
(pss_one (ps_set (i := 1) nd rfl (Or.inl rfl) (pe_op op_cat (pv 1) (pe_dget hu (pv 0) (pv 2) (fun _ _ => rfl))))))
(pss_one (ps_ret (pv 1))))), ?_⟩
    refine ⟨(by show 0 ≤ sizeLine; decide), fun F0 nF0 => ?_⟩
    have nF := nF0
    generalize e_G1 : upd _ F0 _ = G1
    have s_F0 := new_same e_G1 nF0
    have f_F0 := new_at e_G1
    clear e_G1
    have hT := hT.mv s_F0
    have hk : (kvT T).map (fun kv => kV kv.1) = (keysL (lT T)).map V.str := by
      unfold kvT keysL lT
      rw [List.map_map, List.map_map, List.map_map]
      rfl
    refine ⟨_, rfl, p, _, rfl, .inl hT.at_, fun l nl => ?_⟩
    rw [hk]
    generalize e_G2 : upd _ l _ = G2
    have s_l := new_same e_G2 nl
    have f_l := new_at e_G2
    clear e_G2
    have hT := hT.mv s_l
    have s_F0 := s_F0.mv s_l
    have f_F0 := f_F0.mv s_l
    refine ⟨l, keysL (lT T), rfl, SqL.of f_l, by unfold keysL; rw [List.length_map]; exact hl, fun ys a perm _ na => ?_⟩
    generalize e_G3 : upd _ a _ = G3
    have s_a := new_same e_G3 na
    have f_a := new_at e_G3
    clear e_G3
    have hT := hT.mv s_a
    have s_F0 := s_F0.mv s_a
    have f_F0 := f_F0.mv s_a
    refine ⟨a, rfl, ⟨_, SqL.of f_a⟩, ?_⟩
    have fl : (keysL (lT T)).flatMap (rowsL (lT T)) = allL (lT T) := flat_rows wf.kn
    have fl2 : (ys.flatMap (rowsL (lT T))).Perm (allL (lT T)) := fl ▸ List.Perm.flatMap_right _ perm
    refine for_it (walk_list (K := K) (a := a) (xs := ys.map V.str)) (fun i σ G => ∃ Fa y2, σ = [some (.ref p), some (.ref Fa), y2] ∧ H Fa = none ∧ Same H G ∧ Same G3 G ∧ G Fa = some (.lst (((ys.take i).flatMap (rowsL (lT T))).map V.str))) ⟨F0, _, rfl, nF, s_F0, Same.refl _, f_F0⟩ (fun i σ G _ h => by obtain ⟨_, _, _, _, _, s, _⟩ := h; exact SqL.of (s _ _ f_a)) ?_ ?_
    · rintro i v σ G' G hi ⟨Fa, y2, rfl, nFa, sG, sG3, hFa⟩ ⟨rfl, hv⟩
      obtain ⟨k, hk, rfl⟩ := Option.map_eq_some_iff.mp ((List.getElem?_map ..).symm.trans hv)
      have hkm : k ∈ keysL (lT T) := perm.mem_iff.mp (List.mem_of_getElem? hk)
      obtain ⟨e, he, rfl⟩ := List.mem_map.mp hkm
      obtain ⟨t, ht, rfl⟩ := List.mem_map.mp he
      have hT2 := hT.mv sG3
      have g1 : DGet G p (V.str t.1) (some (.ref t.2.2)) := .inl ⟨_, .inr t.1, .inl hT2.at_, rfl, (kv_val wf.kn ht).symm⟩
      have er : rowsL (lT T) t.1 = t.2.1 := rows_of wf.kn he
      have len : ((ys.take (i + 1)).flatMap (rowsL (lT T))).length ≤ 2000 := by
        refine Nat.le_trans ?_ (fl2.length_eq ▸ hl2)
        conv => rhs; rw [← List.take_append_drop (i + 1) ys, List.flatMap_append, List.length_append]
        omega
      have et : (ys.take (i + 1)).flatMap (rowsL (lT T)) = (ys.take i).flatMap (rowsL (lT T)) ++ t.2.1 := by
        rw [take_at hk, List.flatMap_append, List.flatMap_cons, List.flatMap_nil, List.append_nil]
        exact congrArg _ er
      refine ⟨_, rfl, _, rfl, _, rfl, p, _, rfl, g1, Fa, t.2.2, _, _, rfl, rfl, hFa, hT2.all t ht, ?_, fun b nb => ?_⟩
      · rw [List.length_map, List.length_map, ← List.length_append, ← et, sizeLine_eq]
        omega
      · have nH : H b = none := by
          cases e2 : H b with
          | none => rfl
          | some u => rw [sG _ _ e2] at nb; cases nb
        refine ⟨b, _, rfl, nH, fun y o e => (upd_ne (ne_of_none e nH)).trans (sG _ _ e), fun y o e => (upd_ne (ne_of_none (sG3 _ _ e) nb)).trans (sG3 _ _ e), ?_⟩
        rw [upd_same, et, List.map_append]
    · rintro σ G ⟨Fa, y2, rfl, nFa, sG, sG3, hFa⟩
      rw [List.length_map, List.take_length] at hFa
      exact ⟨_, rfl, q Fa _ G nFa sG hFa (fl2.nodup_iff.mpr wf.rn) fun x => fl2.mem_iff⟩
theorem scLHom : FnScope ["lists", "row", "found", "key"] ["lists", "row"] (defScope sLHom) := ⟨rfl, rfl, rfl, by decide +kernel, rfl, by decide +kernel, by decide +kernel⟩
theorem ok_lhom {f : Addr} {fd : FuncData} (F : FnP K "_law_home" sLHom f fd) : FnOk P w K mg base CX0 1 f fd ["lists", "row"] spHom := by
  refine F.ok scLHom (fun vs H Q E h => ?_) (fun cdv A outer s H vs Q E hr h => ?_)
  · obtain ⟨p, L, x, rfl, _⟩ := h
    rfl
  · obtain ⟨p, L, x, rfl, ⟨T, rfl, hT⟩, wf, hl, hx, hkn, q⟩ := h
    have nd := scLHom.nd
    have hu64 := hr.units
    have hu := Nat.lt_of_le_of_lt (Nat.add_le_add_left (by decide : 1 ≤ 64) _) hr.units
    refine ⟨_, PSs.nox (pss_cons (ps_lock (ps_setLc (i := 2) (own := [("key", 3)]) (g := (gName 3))  rfl nd rfl rfl (sw_true rfl rfl rfl (by decide +kernel)) (pi_keys (pv 0)) (blkOk_by (own := [("key", 3)]) (N := ["lists", "row", "found", "key"]) (sc := defScope sLHom) (by decide +kernel)) (fun _ _ _ _ _ => (pg_name (i := 3) nd rfl (Or.inl rfl))) (fun _ _ _ _ _ => (pts_one (pt_cmpR (show OpR _ _ (rIn K false) from op_in_seq) (pv 1) (pe_dget hu (pv 0) (pv 3) (fun _ _ => rfl)) rfl))) (fun _ _ _ _ _ => (pv 3))))
(pss_one (ps_ret (pe_ifExp (pt_cmpR (op_neD hu64) (pv 2) (pe_lst pa_nil) (nomark _)) (pe_ix ix_list (pv 2) pe_int (fun _ _ => rfl)) pe_non)))), ?_⟩
    refine ⟨p, _, hT.at_, trivial, fun od => ?_⟩
    have fd0 : upd H p (.frz od (.dK (kvT T))) p = some (.frz od (.dK (kvT T))) := upd_same
    have back := fun G => frz_back (G := G) (od := od) hT.at_
    have lists : ∀ t ∈ T, upd H p (.frz od (.dK (kvT T))) t.2.2 = some (.lst (t.2.1.map V.str)) := fun t ht => by
      refine (upd_ne fun e => ?_).trans (hT.all t ht)
      have := hT.all t ht
      rw [e, hT.at_] at this
      cases this
    generalize upd H p (.frz od (.dK (kvT T))) = Hf at fd0 back lists ⊢
    obtain ⟨e, he, hxe⟩ := mem_all.mp hx
    obtain ⟨t0, ht0, rfl⟩ := List.mem_map.mp he
    have hxe : x ∈ t0.2.1 := hxe
    refine ⟨_, rfl, p, od, rfl, .inl ⟨_, fd0, fun D nD => ?_⟩⟩
    refine lc_it (walk_keys (d := p) (o := od) (kvs := kvT T)) (fun i G => G D = some (.lst ((((T.take i).filter fun t => decide (x ∈ t.2.1)).map (·.1)).map V.str)) ∧ Same Hf G) ⟨upd_same, same_put nD⟩ (fun i G _ h => h.2 _ _ fd0) ?_ ?_
    · rintro i v G' G2 hi ⟨hD2, sG2⟩ ⟨rfl, key, val, hkv, rfl⟩
      obtain ⟨t, ht, ekv⟩ := Option.map_eq_some_iff.mp ((List.getElem?_map ..).symm.trans hkv)
      obtain ⟨rfl, rfl⟩ : Sum.inr t.1 = key ∧ V.ref t.2.2 = val := by injection ekv with e1 e2; exact ⟨e1, e2⟩
      have htm := List.mem_of_getElem? ht
      have hget : DGet G2 p (V.str t.1) (some (.ref t.2.2)) := .inl ⟨_, .inr t.1, .inr ⟨od, sG2 _ _ fd0⟩, rfl, (kv_val wf.kn htm).symm⟩
      have etk := flt_take (p := fun t : Str × List Str × Addr => decide (x ∈ t.2.1)) ht
      have hle : ((T.take i).filter fun t => decide (x ∈ t.2.1)).length ≤ 64 := Nat.le_trans (List.length_filter_le ..) (by rw [List.length_take]; have := hl; unfold lT at this; rw [List.length_map] at this; omega)
      refine ⟨rfl, ?_⟩
      refine ⟨_, rfl, _, rfl, _, rfl, p, _, rfl, hget, t.2.2, _, rfl, .inl (SqL.of (sG2 _ _ (lists t htm))), rfl, flat_strs _, _, rfl, ?_⟩
      show if inV (V.str x) (t.2.1.map V.str) = true then _ else _
      rw [inV_str]
      by_cases c : x ∈ t.2.1
      · rw [if_pos (decide_eq_true c)] at etk
        refine yes (decide_eq_true c) ⟨_, rfl, _, hD2, by rw [List.length_map, List.length_map, sizeLine_eq]; omega, ?_, fun y o z => (upd_ne (ne_of_none z nD)).trans (sG2 _ _ z)⟩
        rw [upd_same, etk, List.map_append, List.map_append]
        rfl
      · rw [if_neg (by rw [decide_eq_false c]; nofun), List.append_nil] at etk
        refine no (decide_eq_false c) ⟨?_, sG2⟩
        rw [etk]
        exact hD2
    · rintro G ⟨hD, sG⟩
      have sB := back G sG
      have eF : (T.filter fun t => decide (x ∈ t.2.1)).map (·.1) = [t0.1] := by
        have km : ∀ t ∈ T, t.1 ∈ keysL (lT T) := fun t ht => List.mem_map.mpr ⟨_, List.mem_map.mpr ⟨t, ht, rfl⟩, rfl⟩
        have sub : ((T.filter fun t => decide (x ∈ t.2.1)).map (·.1)).Sublist (keysL (lT T)) := by
          have : keysL (lT T) = T.map (·.1) := by unfold keysL lT; rw [List.map_map]; rfl
          rw [this]
          exact List.filter_sublist.map _
        refine one_of (sub.nodup wf.kn) (fun z hz => ?_) (List.mem_map.mpr ⟨t0, List.mem_filter.mpr ⟨ht0, decide_eq_true hxe⟩, rfl⟩)
        obtain ⟨t, ht, rfl⟩ := List.mem_map.mp hz
        obtain ⟨h1, h2⟩ := List.mem_filter.mp ht
        have e := wf_one wf.rn (List.mem_map.mpr ⟨t, h1, rfl⟩) he (of_decide_eq_true h2) hxe
        exact congrArg (fun e : Str × List Str => e.1) e
      rw [List.take_of_length_le (by unfold kvT; rw [List.length_map]; exact Nat.le_refl _), eF] at hD
      have npD : D ≠ p := (ne_of_none fd0 nD).symm
      have hD2 : upd G p (.dK (kvT T)) D = some (.lst (([t0.1] : List Str).map V.str)) := (upd_ne npD).trans hD
      have hk1 : isNm t0.1 = true := hkn _ (List.mem_map.mpr ⟨_, he, rfl⟩)
      refine ⟨sG _ _ fd0, ?_⟩
      dsimp only
      generalize upd G p (.dK (kvT T)) = G1 at sB hD2 ⊢
      refine ⟨_, rfl, (by show 0 ≤ sizeLine; decide), fun l nl => ?_⟩
      generalize e_G2 : upd _ l _ = G2
      have s_l := new_same e_G2 nl
      have f_l := new_at e_G2
      clear e_G2
      have hD2 := hD2.mv s_l
      have sB := sB.mv s_l
      refine ⟨_, _, .lst (SqL.of hD2) (strs_dp [t0.1]), .lst (SqL.of f_l) .nil, nmsSh fun z hz => by rw [List.mem_singleton.mp hz]; exact hk1, rfl, _, rfl, yes rfl ⟨_, rfl, D, _, 0, _, rfl, rfl, SqL.of hD2, rfl, ?_⟩⟩
      rw [home_of wf he hxe] at q
      exact q _ sB
end
end K11

set_option Elab.async false
set_option maxRecDepth 100000
set_option maxHeartbeats 2000000
namespace K11
open PySem PySem.Spec PyProof.Rows L2 He KX StX
structure Keeps (B F : LL) (named touched : List Str) : Prop where
  rows : ∀ e ∈ F, e.2.filter (fun z => !decide (z ∈ named)) = (rowsL B e.1).filter (fun z => !decide (z ∈ named))
  still : ∀ e ∈ F, e.1 ∉ touched → e.2 = rowsL B e.1
  keys : ∀ k ∈ keysL B, k ∈ keysL F
/-- a board of a law -/
structure Brd (L : LL) : Prop where
  wf : WF L
  few : L.length < 64
  le : (allL L).length ≤ 100
  nm : ∀ z ∈ allL L, isNm z = true
  kn : ∀ k ∈ keysL L, isNm k = true
def spKe (K : PySem.W.Frag) : Sp := fun vs H Q _ => ∃ (p q n t : Addr) (B F : LL) (ns ts : List Str), vs = [.ref p, .ref q, .ref n, .ref t] ∧ p ≠ q ∧ DL H p B ∧ DL H q F ∧ Brd B ∧ Brd F ∧ H n = some (.lst (ns.map V.str)) ∧ H t = some (.lst (ts.map V.str)) ∧ Keeps B F ns ts ∧ ∀ G, Same H G → Q (.bl true) G
theorem rows_sub {L : LL} {k z : Str} (h : z ∈ rowsL L k) : z ∈ allL L := by
  unfold rowsL at h
  cases q : L.find? fun e => decide (e.1 = k) with
  | none => rw [q] at h; cases h
  | some e => rw [q] at h; exact mem_all.mpr ⟨e, List.mem_of_find?_eq_some q, h⟩
theorem count_one {l : List Str} {z : Str} (nd : l.Nodup) (h : z ∈ l) : l.count z = 1 := by
  induction l with
  | nil => cases h
  | cons a l ih =>
    obtain ⟨n1, n2⟩ := List.nodup_cons.mp nd
    by_cases c : a = z
    · subst c
      rw [List.count_cons_self, List.count_eq_zero.mpr n1]
    · rw [List.count_cons_of_ne (by simpa using c)]
      rcases List.mem_cons.mp h with e | e
      · exact absurd e.symm c
      · exact ih n2 e
theorem get2 {H : Hp} {p l : Addr} {T : TT} (hT : DT H p T) (kn : (keysL (lT T)).Nodup) (hl : H l = some (.lst [])) (k : Str) : ∃ o a, DGet H p (V.str k) o ∧ o.getD (V.ref l) = V.ref a ∧ H a = some (.lst ((rowsL (lT T) k).map V.str)) := by
  by_cases c : k ∈ keysL (lT T)
  · obtain ⟨e, he, rfl⟩ := List.mem_map.mp c
    obtain ⟨t, ht, rfl⟩ := List.mem_map.mp he
    refine ⟨some (.ref t.2.2), t.2.2, .inl ⟨_, .inr t.1, .inl hT.at_, rfl, (kv_val kn ht).symm⟩, rfl, ?_⟩
    rw [rows_of kn he]
    exact hT.all t ht
  · refine ⟨none, l, .inl ⟨_, .inr k, .inl hT.at_, rfl, (kv_none c).symm⟩, rfl, ?_⟩
    rw [rows_no c]
    exact hl
section
variable {P : Program} {w : World} {K : PySem.W.Frag} {mg : Str → Option Value} {base : Heap}
end
end K11

set_option Elab.async false
set_option maxRecDepth 100000
set_option maxHeartbeats 1000000
/-! What the operations make of a board, by one another. -/
namespace K11
open PySem
theorem all_open (k : Str) (L : LL) : allL (openL k L) = allL L := by
  unfold openL
  split
  · rfl
  · rw [all_app]
    show allL L ++ ([] ++ []) = _
    rw [List.append_nil, List.append_nil]
theorem rows_open (k z : Str) (L : LL) : rowsL (openL k L) z = rowsL L z := by
  unfold openL
  split
  · rfl
  · rename_i c
    unfold rowsL
    rw [List.find?_append]
    cases q : L.find? fun e => decide (e.1 = z) with
    | some e => rfl
    | none =>
      show (match ([(k, [])] : LL).find? fun e => decide (e.1 = z) with | some e => e.2 | none => []) = []
      rw [List.find?_cons]
      split
      · rename_i h; split at h
        · cases h; rfl
        · cases h
      · rfl
theorem mem_open (k : Str) (L : LL) : k ∈ keysL (openL k L) := by
  unfold openL
  split
  · assumption
  · unfold keysL
    rw [List.map_append]
    exact List.mem_append_right _ (List.mem_singleton.mpr rfl)
theorem rows_at {L : LL} {k : Str} {r : List Str} (h : k ∈ keysL L) (z : Str) : rowsL (atL k r L) z = if z = k then r else rowsL L z := by
  induction L with
  | nil => cases h
  | cons a L ih =>
    unfold rowsL atL
    rw [List.map_cons, List.find?_cons]
    by_cases c : a.1 = k
    · rw [if_pos c]
      by_cases c2 : z = k
      · rw [show decide ((a.1, r).1 = z) = true from decide_eq_true (c.trans c2.symm), if_pos c2]
      · rw [show decide ((a.1, r).1 = z) = false from decide_eq_false fun e => c2 (e.symm.trans c), if_neg c2, List.find?_cons, show decide (a.1 = z) = false from decide_eq_false fun e => c2 (e.symm.trans c)]
        by_cases c3 : k ∈ keysL L
        · have := ih c3
          rw [if_neg c2] at this
          exact this
        · have : (L.map fun e => if e.1 = k then (e.1, r) else e) = L := by
            conv => rhs; rw [← List.map_id L]
            refine List.map_congr_left fun e he => ?_
            rw [if_neg fun (q : e.1 = k) => c3 (q ▸ List.mem_map.mpr ⟨e, he, rfl⟩)]
            rfl
          rw [this]
    · rw [if_neg c]
      have h2 : k ∈ keysL L := by
        rcases List.mem_cons.mp (show k ∈ a.1 :: keysL L from h) with e | e
        · exact absurd e.symm c
        · exact e
      have := ih h2
      by_cases c2 : a.1 = z
      · rw [show decide (a.1 = z) = true from decide_eq_true c2, if_neg fun e => c (c2.trans e), List.find?_cons, show decide (a.1 = z) = true from decide_eq_true c2]
      · rw [show decide (a.1 = z) = false from decide_eq_false c2, List.find?_cons, show decide (a.1 = z) = false from decide_eq_false c2]
        exact this
theorem rows_into {k x : Str} {f : Nat → Nat} {L : LL} (z : Str) : rowsL (intoL k x f L) z = if z = k then insR (f (rowsL L k).length) x (rowsL L k) else rowsL L z := by
  unfold intoL
  rw [rows_at (mem_open k L), rows_open]
theorem keys_into (k x : Str) (f : Nat → Nat) (L : LL) : keysL (intoL k x f L) = keysL (openL k L) := keys_at ..
theorem rows_take (x : Str) (L : LL) (k : Str) : rowsL (takeL x L) k = (rowsL L k).erase x := by
  unfold rowsL takeL
  rw [List.find?_map]
  show (match ((L.find? fun e => decide (e.1 = k)).map fun e => (e.1, e.2.erase x)) with | some e => e.2 | none => []) = _
  cases L.find? fun e => decide (e.1 = k) <;> rfl
theorem mem_insR {i : Nat} {x : Str} {r : List Str} : (insR i x r).Perm (x :: r) := by
  unfold insR
  rw [List.append_assoc]
  refine List.perm_middle.trans ?_
  show (x :: (r.take i ++ r.drop i)).Perm (x :: r)
  rw [List.take_append_drop]
theorem at_perm {L : LL} (kn : (keysL L).Nodup) {k x : Str} {r : List Str} (h : k ∈ keysL L) (hr : r.Perm (x :: rowsL L k)) : (allL (atL k r L)).Perm (x :: allL L) := by
  induction L with
  | nil => cases h
  | cons a L ih =>
    obtain ⟨n1, n2⟩ := List.nodup_cons.mp (show (a.1 :: keysL L).Nodup from kn)
    by_cases c : a.1 = k
    · have e : atL k r (a :: L) = (a.1, r) :: L := by
        unfold atL
        rw [List.map_cons, if_pos c]
        congr 1
        conv => rhs; rw [← List.map_id L]
        refine List.map_congr_left fun e he => ?_
        rw [if_neg fun q => n1 (by rw [c, ← q]; exact List.mem_map.mpr ⟨e, he, rfl⟩)]
        rfl
      have er : rowsL (a :: L) k = a.2 := by
        unfold rowsL
        rw [List.find?_cons, show decide (a.1 = k) = true from decide_eq_true c]
      rw [e]
      rw [er] at hr
      show (r ++ allL L).Perm (x :: (a.2 ++ allL L))
      exact hr.append_right _
    · have e : atL k r (a :: L) = a :: atL k r L := by
        unfold atL
        rw [List.map_cons, if_neg c]
      have h2 : k ∈ keysL L := by
        rcases List.mem_cons.mp (show k ∈ a.1 :: keysL L from h) with e | e
        · exact absurd e.symm c
        · exact e
      have er : rowsL (a :: L) k = rowsL L k := by
        unfold rowsL
        rw [List.find?_cons, show decide (a.1 = k) = false from decide_eq_false c]
      rw [er] at hr
      rw [e]
      show (a.2 ++ allL (atL k r L)).Perm (x :: (a.2 ++ allL L))
      exact ((ih n2 h2 hr).append_left _).trans List.perm_middle
theorem into_perm {L : LL} (kn : (keysL L).Nodup) (k x : Str) (f : Nat → Nat) : (allL (intoL k x f L)).Perm (x :: allL L) := by
  have := at_perm (keys_open kn) (mem_open k L) (x := x) (r := insR (f (rowsL L k).length) x (rowsL L k)) (by rw [rows_open]; exact mem_insR)
  rwa [all_open] at this
theorem wf_into {L : LL} (wf : WF L) {k x : Str} {f : Nat → Nat} (hx : x ∉ allL L) : WF (intoL k x f L) := ⟨by rw [keys_into]; exact keys_open wf.kn, (into_perm wf.kn k x f).nodup_iff.mpr (List.nodup_cons.mpr ⟨hx, wf.rn⟩)⟩
theorem take_sub (x : Str) (L : LL) : (allL (takeL x L)).Sublist (allL L) := by
  induction L with
  | nil => exact .slnil
  | cons a L ih =>
    show (a.2.erase x ++ allL (takeL x L)).Sublist (a.2 ++ allL L)
    exact List.Sublist.append List.erase_sublist ih
theorem wf_take {L : LL} (wf : WF L) (x : Str) : WF (takeL x L) := ⟨by rw [keys_take]; exact wf.kn, (take_sub x L).nodup wf.rn⟩
theorem take_mem {L : LL} (wf : WF L) {x z : Str} : z ∈ allL (takeL x L) ↔ z ≠ x ∧ z ∈ allL L := by
  constructor
  · intro h
    refine ⟨?_, (take_sub x L).subset h⟩
    rintro rfl
    obtain ⟨e, he, hz⟩ := mem_all.mp h
    obtain ⟨e0, he0, rfl⟩ := List.mem_map.mp he
    exact (wf_row wf he0).not_mem_erase hz
  · rintro ⟨ne, h⟩
    obtain ⟨e, he, hz⟩ := mem_all.mp h
    exact mem_all.mpr ⟨_, List.mem_map.mpr ⟨e, he, rfl⟩, (List.mem_erase_of_ne ne).mpr hz⟩
theorem keys_swap (x y : Str) (L : LL) : keysL (swapL x y L) = keysL L := by
  unfold keysL swapL
  rw [List.map_map]
  rfl
theorem all_swap (x y : Str) (L : LL) : allL (swapL x y L) = (allL L).map (sw x y) := by
  induction L with
  | nil => rfl
  | cons a L ih =>
    show a.2.map (sw x y) ++ allL (swapL x y L) = (a.2 ++ allL L).map (sw x y)
    rw [ih, List.map_append]
theorem sw_sw (x y z : Str) : sw x y (sw x y z) = z := by
  unfold sw
  by_cases c1 : z = x
  · rw [if_pos c1]
    by_cases c2 : y = x
    · rw [if_pos c2, c2, c1]
    · rw [if_neg c2, if_pos rfl, c1]
  · rw [if_neg c1]
    by_cases c2 : z = y
    · rw [if_pos c2, if_pos rfl, c2]
    · rw [if_neg c2, if_neg c1, if_neg c2]
theorem swap_swap (x y : Str) (L : LL) : swapL x y (swapL x y L) = L := by
  unfold swapL
  rw [List.map_map]
  conv => rhs; rw [← List.map_id L]
  refine List.map_congr_left fun e _ => ?_
  show (e.1, (e.2.map (sw x y)).map (sw x y)) = e
  rw [List.map_map]
  have : e.2.map (sw x y ∘ sw x y) = e.2 := by
    conv => rhs; rw [← List.map_id e.2]
    exact List.map_congr_left fun z _ => sw_sw x y z
  rw [this]
theorem swap_comm (x y : Str) (L : LL) : swapL x y L = swapL y x L := by
  unfold swapL
  refine List.map_congr_left fun e _ => ?_
  rw [List.map_congr_left fun z _ => sw_comm x y z]
theorem wf_swap {L : LL} (wf : WF L) (x y : Str) : WF (swapL x y L) := ⟨by rw [keys_swap]; exact wf.kn, by
  rw [all_swap]
  exact List.Pairwise.map _ (fun a b ne q => ne (by rw [← sw_sw x y a, q, sw_sw])) wf.rn⟩
theorem sw_mem {L : LL} {x y z : Str} (hx : x ∈ allL L) (hy : y ∈ allL L) : z ∈ allL (swapL x y L) ↔ z ∈ allL L := by
  rw [all_swap, List.mem_map]
  have in_ : ∀ u, u ∈ allL L → sw x y u ∈ allL L := fun u hu => by
    unfold sw
    split
    · exact hy
    · split
      · exact hx
      · exact hu
  constructor
  · rintro ⟨u, hu, rfl⟩
    exact in_ u hu
  · intro h
    exact ⟨sw x y z, in_ z h, sw_sw x y z⟩
end K11

set_option Elab.async false
set_option maxRecDepth 100000
set_option maxHeartbeats 1000000
/-! The operations by one another. -/
namespace K11
open PySem
theorem into_congr {k x : Str} {f g : Nat → Nat} {L : LL} (h : f (rowsL L k).length = g (rowsL L k).length) : intoL k x f L = intoL k x g L := by
  unfold intoL
  rw [h]
theorem erase_insR {i : Nat} {x : Str} {r : List Str} (h : x ∉ r) : (insR i x r).erase x = r := by
  unfold insR
  rw [List.append_assoc, List.erase_append_right _ fun q => h (List.mem_of_mem_take q)]
  show r.take i ++ (x :: r.drop i).erase x = r
  rw [List.erase_cons_head, List.take_append_drop]
theorem take_into {k x : Str} {f : Nat → Nat} {L : LL} (kn : (keysL L).Nodup) (hx : x ∉ allL L) : takeL x (intoL k x f L) = openL k L := by
  have nr : x ∉ rowsL L k := fun q => hx (rows_sub q)
  unfold intoL takeL atL
  rw [List.map_map]
  conv => rhs; rw [← List.map_id (openL k L)]
  refine List.map_congr_left fun e he => ?_
  show ((if e.1 = k then (e.1, insR (f (rowsL L k).length) x (rowsL L k)) else e).1, (if e.1 = k then (e.1, insR (f (rowsL L k).length) x (rowsL L k)) else e).2.erase x) = e
  by_cases c : e.1 = k
  · rw [if_pos c]
    have er : rowsL L k = e.2 := by rw [← rows_open k k L, ← c]; exact rows_of (by rw [c]; exact keys_open kn) (by rw [c]; exact he)
    show (e.1, (insR _ x (rowsL L k)).erase x) = e
    rw [erase_insR nr, er]
  · rw [if_neg c]
    have : x ∉ e.2 := fun q => hx (by rw [← all_open k L]; exact mem_all.mpr ⟨e, he, q⟩)
    rw [List.erase_of_not_mem this]
/-- a row in its list, with what stands before and behind -/
theorem row_at {r : List Str} {x : Str} (h : x ∈ r) (nd : r.Nodup) : ∃ a b, r = a ++ x :: b ∧ x ∉ a ∧ x ∉ b ∧ r.idxOf x = a.length ∧ r.erase x = a ++ b := by
  obtain ⟨a, b, rfl⟩ := List.append_of_mem h
  obtain ⟨n1, n2, n3⟩ := List.nodup_append.mp nd
  have ha : x ∉ a := fun q => n3 x q x List.mem_cons_self rfl
  have hb : x ∉ b := (List.nodup_cons.mp n2).1
  refine ⟨a, b, rfl, ha, hb, ?_, ?_⟩
  · rw [List.idxOf_append, if_neg ha, List.idxOf_cons_self]
    omega
  · rw [List.erase_append_right _ ha, List.erase_cons_head]
theorem insR_app {a b : List Str} {x : Str} : insR a.length x (a ++ b) = a ++ x :: b := by
  unfold insR
  rw [List.take_left', List.drop_left'] <;> first | rfl | (rw [List.append_assoc]; rfl)
theorem insR_erase {x : Str} {r : List Str} (h : x ∈ r) (nd : r.Nodup) : insR (r.idxOf x) x (r.erase x) = r := by
  obtain ⟨a, b, e, _, _, e2, e3⟩ := row_at h nd
  rw [e2, e3, insR_app, ← e]
theorem full_open (k : Str) (L : LL) : fullL (openL k L) = fullL L := by
  unfold openL fullL
  split
  · rfl
  · rw [List.filter_append]
    show _ ++ [] = _
    rw [List.append_nil]
theorem map_sw_ne {r : List Str} {x y : Str} (hx : x ∉ r) (hy : y ∉ r) : r.map (sw x y) = r := map_sw_no hx hy
theorem sw_l (x y : Str) : sw x y x = y := if_pos rfl
theorem sw_r (x y : Str) : sw x y y = x := by
  unfold sw
  by_cases c : y = x
  · rw [if_pos c, c]
  · rw [if_neg c, if_pos rfl]
/-- up: an exchange with the row before -/
theorem up_row {r : List Str} {x : Str} (h : x ∈ r) (nd : r.Nodup) {y : Str} (hy : r[r.idxOf x - 1]? = some y) : insR (r.idxOf x - 1) x (r.erase x) = r.map (sw x y) := by
  obtain ⟨a, b, e, ha, hb, e2, e3⟩ := row_at h nd
  rw [e2] at hy ⊢
  rw [e3]
  rcases List.eq_nil_or_concat a with rfl | ⟨a', z, rfl⟩
  · subst e
    have hyx : y = x := (Option.some.inj hy).symm
    rw [hyx]
    show insR 0 x b = (x :: b).map (sw x x)
    have : (x :: b).map (sw x x) = x :: b := by
      conv => rhs; rw [← List.map_id (x :: b)]
      refine List.map_congr_left fun u _ => ?_
      unfold sw
      split
      · rename_i c; exact c.symm
      · rfl
    rw [this]
    rfl
  · rw [List.concat_eq_append] at *
    have l1 : (a' ++ [z]).length - 1 = a'.length := by rw [List.length_append]; show a'.length + 1 - 1 = _; omega
    rw [l1] at hy ⊢
    have hz : z = y := by
      rw [e, List.append_assoc, List.getElem?_append_right (Nat.le_refl _), Nat.sub_self] at hy
      exact Option.some.inj hy
    subst hz
    have nd2 := e ▸ nd
    obtain ⟨n1, n2, n3⟩ := List.nodup_append.mp nd2
    obtain ⟨m1, m2, m3⟩ := List.nodup_append.mp n1
    have za : z ∉ a' := fun q => m3 z q z (List.mem_singleton.mpr rfl) rfl
    have zb : z ∉ b := fun q => n3 z (List.mem_append_right _ (List.mem_singleton.mpr rfl)) z (List.mem_cons_of_mem _ q) rfl
    have xa : x ∉ a' := fun q => ha (List.mem_append_left _ q)
    rw [List.append_assoc, insR_app, e, List.map_append, List.map_append, map_sw_ne xa za, List.map_cons, List.map_cons, map_sw_ne hb zb, sw_l, sw_r, List.append_assoc]
    rfl
/-- down: an exchange with the row behind -/
theorem down_row {r : List Str} {x : Str} (h : x ∈ r) (nd : r.Nodup) {y : Str} (hy : r[min (r.length - 1) (r.idxOf x + 1)]? = some y) : insR (min (r.idxOf x + 1) (r.erase x).length) x (r.erase x) = r.map (sw x y) := by
  obtain ⟨a, b, e, ha, hb, e2, e3⟩ := row_at h nd
  rw [e2] at hy ⊢
  rw [e3]
  have el : r.length = a.length + (b.length + 1) := by rw [e, List.length_append]; rfl
  rw [el] at hy
  rw [List.length_append]
  cases b with
  | nil =>
    have hyx : y = x := by
      rw [show min (a.length + (([] : List Str).length + 1) - 1) (a.length + 1) = a.length by show min (a.length + (0 + 1) - 1) (a.length + 1) = a.length; omega, e, List.getElem?_append_right (Nat.le_refl _), Nat.sub_self] at hy
      exact (Option.some.inj hy).symm
    subst hyx
    rw [show min (a.length + 1) (a.length + ([] : List Str).length) = a.length by show min (a.length + 1) (a.length + 0) = a.length; omega, insR_app, e]
    conv => lhs; rw [← List.map_id (a ++ [y])]
    refine List.map_congr_left fun u _ => ?_
    show u = sw y y u
    unfold sw
    split
    · assumption
    · rfl
  | cons z b' =>
    have hz : z = y := by
      rw [show min (a.length + ((z :: b').length + 1) - 1) (a.length + 1) = a.length + 1 by show min (a.length + (b'.length + 1 + 1) - 1) (a.length + 1) = a.length + 1; omega, e, List.getElem?_append_right (Nat.le_succ _), show a.length + 1 - a.length = 1 by omega] at hy
      exact Option.some.inj hy
    subst hz
    rw [show min (a.length + 1) (a.length + (z :: b').length) = (a ++ [z]).length by rw [List.length_append]; show min (a.length + 1) (a.length + (b'.length + 1)) = a.length + 1; omega]
    have nd2 := e ▸ nd
    obtain ⟨n1, n2, n3⟩ := List.nodup_append.mp nd2
    have za : z ∉ a := fun q => n3 z q z (List.mem_cons_of_mem _ List.mem_cons_self) rfl
    obtain ⟨n4, n5⟩ := List.nodup_cons.mp n2
    have zb : z ∉ b' := (List.nodup_cons.mp n5).1
    have xb : x ∉ b' := fun q => hb (List.mem_cons_of_mem _ q)
    rw [show a ++ z :: b' = (a ++ [z]) ++ b' by rw [List.append_assoc]; rfl, insR_app, e, List.map_append, map_sw_ne ha za, List.map_cons, List.map_cons, map_sw_ne xb zb, sw_l, sw_r, List.append_assoc]
    rfl
end K11

set_option Elab.async false
set_option maxRecDepth 100000
set_option maxHeartbeats 1000000
/-! The calls by one another. -/
namespace K11
open PySem
theorem in_home {L : LL} (wf : WF L) {x : Str} (h : x ∈ allL L) : (homeL L x, rowsL L (homeL L x)) ∈ L ∧ x ∈ rowsL L (homeL L x) ∧ homeL L x ∈ keysL L ∧ (rowsL L (homeL L x)).Nodup := by
  obtain ⟨e, he, hx⟩ := mem_all.mp h
  rw [home_of wf he hx, rows_of wf.kn he]
  exact ⟨he, hx, List.mem_map.mpr ⟨e, he, rfl⟩, wf_row wf he⟩
theorem at_at (k : Str) (r s : List Str) (L : LL) : atL k r (atL k s L) = atL k r L := by
  unfold atL
  rw [List.map_map]
  refine List.map_congr_left fun e _ => ?_
  show (if (if e.1 = k then (e.1, s) else e).1 = k then ((if e.1 = k then (e.1, s) else e).1, r) else (if e.1 = k then (e.1, s) else e)) = _
  by_cases c : e.1 = k
  · rw [if_pos c, if_pos c, if_pos c]
  · rw [if_neg c, if_neg c]
theorem at_id {L : LL} (kn : (keysL L).Nodup) (k : Str) : atL k (rowsL L k) L = L := by
  unfold atL
  conv => rhs; rw [← List.map_id L]
  refine List.map_congr_left fun e he => ?_
  by_cases c : e.1 = k
  · rw [if_pos c, ← c, rows_of kn he]
    rfl
  · rw [if_neg c]
    rfl
theorem open_in {k : Str} {L : LL} (h : k ∈ keysL L) : openL k L = L := if_pos h
theorem into_home {L : LL} (wf : WF L) {x : Str} (h : x ∈ allL L) (f : Nat → Nat) : intoL (homeL L x) x f (takeL x L) = atL (homeL L x) (insR (f ((rowsL L (homeL L x)).erase x).length) x ((rowsL L (homeL L x)).erase x)) L := by
  obtain ⟨h1, h2, h3, _⟩ := in_home wf h
  unfold intoL
  rw [rows_take, open_in (by rw [keys_take]; exact h3), ← take_at' wf h1 h2, at_at]
theorem swap_at {L : LL} (wf : WF L) {x y : Str} (h : x ∈ allL L) (hy : y ∈ rowsL L (homeL L x)) : swapL x y L = atL (homeL L x) ((rowsL L (homeL L x)).map (sw x y)) L := by
  obtain ⟨h1, h2, h3, _⟩ := in_home wf h
  unfold swapL atL
  refine List.map_congr_left fun e he => ?_
  by_cases c : e.1 = homeL L x
  · rw [if_pos c, ← c, rows_of wf.kn he]
  · rw [if_neg c]
    have nx : x ∉ e.2 := fun q => c (congrArg Prod.fst (wf_one wf.rn he h1 q h2))
    have ny : y ∉ e.2 := fun q => c (congrArg Prod.fst (wf_one wf.rn he h1 q hy))
    rw [map_sw_no nx ny]
theorem ato_in {L : LL} {x : Str} (h : x ∈ allL L) : atO L x = some ((rowsL L (homeL L x)).idxOf x) := if_pos h
section
variable {L : LL} {x : Str}
theorem ap_swap (y : Str) : apL "swap" x (some y) none none L = swapL x y L := by unfold apL; rw [if_pos rfl]; rfl
theorem ap_take : apL "take" x none none none L = takeL x L := by unfold apL; rw [if_neg (by decide), if_pos rfl]
theorem ap_put (to : Str) (k : Nat) : apL "put" x none (some to) (some k) L = intoL to x (fun _ => k - 1) (takeL x L) := by
  unfold apL; rw [if_neg (by decide), if_neg (by decide)]; rfl
theorem ap_move (to : Str) (k : Nat) : apL "move" x none (some to) (some k) L = intoL to x (fun _ => k - 1) (takeL x L) := by
  unfold apL; rw [if_neg (by decide), if_neg (by decide)]; rfl
theorem ap_add (to : Str) : apL "add" x none (some to) none L = intoL to x (fun n => n) (takeL x L) := by
  unfold apL; rw [if_neg (by decide), if_neg (by decide)]; rfl
theorem ap_send (to : Str) : apL "send" x none (some to) none L = intoL to x (fun n => n) (takeL x L) := by
  unfold apL; rw [if_neg (by decide), if_neg (by decide)]; rfl
theorem ap_top : apL "top" x none none none L = intoL (homeL L x) x (fun _ => 0) (takeL x L) := by
  unfold apL; rw [if_neg (by decide), if_neg (by decide)]; rfl
theorem ap_bottom : apL "bottom" x none none none L = intoL (homeL L x) x (fun n => n) (takeL x L) := by
  unfold apL; rw [if_neg (by decide), if_neg (by decide)]; rfl
theorem ap_up (h : x ∈ allL L) : apL "up" x none none none L = intoL (homeL L x) x (fun _ => (rowsL L (homeL L x)).idxOf x - 1) (takeL x L) := by
  unfold apL; rw [if_neg (by decide), if_neg (by decide), ato_in h]; rfl
theorem ap_down (h : x ∈ allL L) : apL "down" x none none none L = intoL (homeL L x) x (fun n => min ((rowsL L (homeL L x)).idxOf x + 1) n) (takeL x L) := by
  unfold apL; rw [if_neg (by decide), if_neg (by decide), ato_in h]; rfl
/-- top is move to 1 -/
theorem top_move : apL "top" x none none none L = apL "move" x none (some (homeL L x)) (some 1) L := by rw [ap_top, ap_move]
theorem bottom_send : apL "bottom" x none none none L = apL "send" x none (some (homeL L x)) none L := by rw [ap_bottom, ap_send]
theorem len_take (wf : WF L) (h : x ∈ allL L) : (rowsL (takeL x L) (homeL L x)).length = (rowsL L (homeL L x)).length - 1 := by
  rw [rows_take, List.length_erase_of_mem (in_home wf h).2.1]
theorem bottom_move (wf : WF L) (h : x ∈ allL L) : apL "bottom" x none none none L = apL "move" x none (some (homeL L x)) (some (rowsL L (homeL L x)).length) L := by
  rw [ap_bottom, ap_move]
  exact into_congr (len_take wf h)
theorem up_swap (wf : WF L) (h : x ∈ allL L) {y : Str} (hy : (rowsL L (homeL L x))[(rowsL L (homeL L x)).idxOf x - 1]? = some y) : apL "up" x none none none L = swapL x y L := by
  obtain ⟨h1, h2, h3, h4⟩ := in_home wf h
  rw [ap_up h, into_home wf h, up_row h2 h4 hy, swap_at wf h (List.mem_of_getElem? hy)]
theorem down_swap (wf : WF L) (h : x ∈ allL L) {y : Str} (hy : (rowsL L (homeL L x))[min ((rowsL L (homeL L x)).length - 1) ((rowsL L (homeL L x)).idxOf x + 1)]? = some y) : apL "down" x none none none L = swapL x y L := by
  obtain ⟨h1, h2, h3, h4⟩ := in_home wf h
  rw [ap_down h, into_home wf h]
  show atL _ (insR (min ((rowsL L (homeL L x)).idxOf x + 1) ((rowsL L (homeL L x)).erase x).length) x ((rowsL L (homeL L x)).erase x)) L = _
  rw [down_row h2 h4 hy, swap_at wf h (List.mem_of_getElem? hy)]
theorem up_move (h : x ∈ allL L) : apL "up" x none none none L = apL "move" x none (some (homeL L x)) (some (max 1 ((rowsL L (homeL L x)).idxOf x))) L := by
  rw [ap_up h, ap_move]
  refine into_congr ?_
  show (rowsL L (homeL L x)).idxOf x - 1 = max 1 ((rowsL L (homeL L x)).idxOf x) - 1
  omega
theorem rows_swap {y : Str} (k : Str) : rowsL (swapL x y L) k = (rowsL L k).map (sw x y) := by
  unfold rowsL swapL
  rw [List.find?_map]
  show (match ((L.find? fun e => decide (e.1 = k)).map fun e => (e.1, e.2.map (sw x y))) with | some e => e.2 | none => []) = _
  cases L.find? fun e => decide (e.1 = k) <;> rfl
/-- up and then down -/
theorem up_down (wf : WF L) (h : x ∈ allL L) : apL "down" x none none none (apL "up" x none none none L) = if 0 < (rowsL L (homeL L x)).idxOf x then L else apL "down" x none none none L := by
  obtain ⟨h1, h2, h3, h4⟩ := in_home wf h
  have lx := List.idxOf_lt_length_iff.mpr h2
  by_cases c : 0 < (rowsL L (homeL L x)).idxOf x
  · rw [if_pos c]
    obtain ⟨y, hy⟩ : ∃ y, (rowsL L (homeL L x))[(rowsL L (homeL L x)).idxOf x - 1]? = some y := ⟨_, List.getElem?_eq_getElem (by omega)⟩
    have hym := List.mem_of_getElem? hy
    have hya : y ∈ allL L := mem_all.mpr ⟨_, h1, hym⟩
    have wf2 := wf_swap wf x y
    have h' : x ∈ allL (swapL x y L) := (sw_mem h hya).mpr h
    have hi : (homeL L x, (rowsL L (homeL L x)).map (sw x y)) ∈ swapL x y L := List.mem_map.mpr ⟨_, h1, rfl⟩
    have hx2 : x ∈ (rowsL L (homeL L x)).map (sw x y) := List.mem_map.mpr ⟨y, hym, sw_r x y⟩
    have eh : homeL (swapL x y L) x = homeL L x := home_of wf2 hi hx2
    have er : rowsL (swapL x y L) (homeL L x) = (rowsL L (homeL L x)).map (sw x y) := rows_swap _
    have nd2 : ((rowsL L (homeL L x)).map (sw x y)).Nodup := wf_row wf2 hi
    have e1 : ((rowsL L (homeL L x)).map (sw x y))[(rowsL L (homeL L x)).idxOf x - 1]? = some x := by rw [List.getElem?_map, hy]; show some (sw x y y) = _; rw [sw_r]
    have ei : ((rowsL L (homeL L x)).map (sw x y)).idxOf x = (rowsL L (homeL L x)).idxOf x - 1 := by
      obtain ⟨q1, q2⟩ := List.getElem?_eq_some_iff.mp e1
      have := nd2.idxOf_getElem _ q1
      rwa [q2] at this
    rw [up_swap wf h hy, down_swap wf2 h' (y := y), swap_swap]
    rw [eh, er, ei, List.length_map, List.getElem?_map, show min ((rowsL L (homeL L x)).length - 1) ((rowsL L (homeL L x)).idxOf x - 1 + 1) = (rowsL L (homeL L x)).idxOf x by omega, List.getElem?_eq_getElem lx, List.getElem_idxOf]
    show some (sw x y x) = _
    rw [sw_l]
  · rw [if_neg c]
    have c0 : (rowsL L (homeL L x)).idxOf x = 0 := by omega
    have e1 : apL "up" x none none none L = L := by
      rw [ap_up h, into_home wf h, c0]
      have := insR_erase h2 h4
      rw [c0] at this
      rw [this, at_id wf.kn]
    rw [e1]
/-- move is take and then put; send is take and then add -/
theorem move_put (wf : WF L) (to : Str) (k : Nat) : apL "move" x none (some to) (some k) L = apL "put" x none (some to) (some k) (apL "take" x none none none L) := by
  rw [ap_move, ap_take, ap_put]
  rw [take_no fun e he q => (take_mem wf).mp (mem_all.mpr ⟨e, he, q⟩) |>.1 rfl]
theorem send_add (wf : WF L) (to : Str) : apL "send" x none (some to) none L = apL "add" x none (some to) none (apL "take" x none none none L) := by
  rw [ap_send, ap_take, ap_add]
  rw [take_no fun e he q => (take_mem wf).mp (mem_all.mpr ⟨e, he, q⟩) |>.1 rfl]
/-- put at the end is add -/
theorem add_put (to : Str) (hx : x ∉ allL L) : apL "add" x none (some to) none L = apL "put" x none (some to) (some ((rowsL L to).length + 1)) L := by
  rw [ap_add, ap_put, take_no fun e he q => hx (mem_all.mpr ⟨e, he, q⟩)]
  exact into_congr (by show _ = _ + 1 - 1; omega)
theorem put_take (wf : WF L) (hx : x ∉ allL L) (to : Str) (k : Nat) : fullL (apL "take" x none none none (apL "put" x none (some to) (some k) L)) = fullL L := by
  rw [ap_take, ap_put, take_no fun e he q => hx (mem_all.mpr ⟨e, he, q⟩), take_into wf.kn hx, full_open]
theorem add_take (wf : WF L) (hx : x ∉ allL L) (to : Str) : fullL (apL "take" x none none none (apL "add" x none (some to) none L)) = fullL L := by
  rw [ap_take, ap_add, take_no fun e he q => hx (mem_all.mpr ⟨e, he, q⟩), take_into wf.kn hx, full_open]
theorem open_at (k k' : Str) (r : List Str) (h : k ∈ keysL L) : openL k' (atL k r L) = atL k r (openL k' L) := by
  unfold openL
  rw [keys_at]
  split
  · rfl
  · rename_i c
    unfold atL
    rw [List.map_append]
    congr 1
    show _ = [if k' = k then (k', r) else (k', [])]
    rw [if_neg fun (e : k' = k) => c (e ▸ h)]
/-- a move back undoes a move -/
theorem move_back (wf : WF L) (h : x ∈ allL L) (to : Str) (k : Nat) : fullL (apL "move" x none (some (homeL L x)) (some ((rowsL L (homeL L x)).idxOf x + 1)) (apL "move" x none (some to) (some k) L)) = fullL L := by
  obtain ⟨h1, h2, h3, h4⟩ := in_home wf h
  have nx : x ∉ allL (takeL x L) := fun q => ((take_mem wf).mp q).1 rfl
  have kt : (keysL (takeL x L)).Nodup := by rw [keys_take]; exact wf.kn
  rw [ap_move, ap_move, take_into kt nx]
  unfold intoL
  rw [rows_open, rows_take, open_in (by rw [← keys_take x L] at h3; unfold openL; split; exact h3; unfold keysL at h3 ⊢; rw [List.map_append]; exact List.mem_append_left _ h3)]
  show fullL (atL _ (insR ((rowsL L (homeL L x)).idxOf x + 1 - 1) x _) _) = _
  rw [Nat.add_sub_cancel, insR_erase h2 h4, ← take_at' wf h1 h2, open_at _ _ _ h3, at_at, ← rows_open to (homeL L x) L, at_id (keys_open wf.kn), full_open]
end
end K11

set_option Elab.async false
set_option maxRecDepth 100000
set_option maxHeartbeats 1000000
/-! What every call keeps, and how great a board becomes. -/
namespace K11
open PySem KX
structure Br (n : Nat) (L : LL) : Prop where
  wf : WF L
  few : L.length ≤ 4 + n
  le : (allL L).length ≤ 20 + n
  nm : ∀ z ∈ allL L, isNm z = true
  kn : ∀ k ∈ keysL L, isNm k = true
theorem Br.brd {n : Nat} {L : LL} (h : Br n L) (hn : n ≤ 10 := by decide) : Brd L := ⟨h.wf, by have := h.few; omega, by have := h.le; omega, h.nm, h.kn⟩
theorem Br.up {n m : Nat} {L : LL} (h : Br n L) (hn : n ≤ m) : Br m L := ⟨h.wf, by have := h.few; omega, by have := h.le; omega, h.nm, h.kn⟩
theorem len_keys (L : LL) : (keysL L).length = L.length := List.length_map ..
theorem Br.take {n : Nat} {L : LL} (h : Br n L) (x : Str) : Br n (takeL x L) := ⟨wf_take h.wf x, by rw [← len_keys, keys_take, len_keys]; exact h.few, Nat.le_trans (all_take x L) h.le, fun z hz => h.nm z ((take_mem h.wf).mp hz).2, by rw [keys_take]; exact h.kn⟩
theorem Br.into {n : Nat} {L : LL} (h : Br n L) {k x : Str} (f : Nat → Nat) (hx : x ∉ allL L) (nx : isNm x = true) (nk : isNm k = true) : Br (n + 1) (intoL k x f L) := by
  have p := into_perm h.wf.kn k x f
  refine ⟨wf_into h.wf hx, ?_, ?_, fun z hz => ?_, fun z hz => ?_⟩
  · rw [← len_keys, keys_into, len_keys]
    have := h.few
    unfold openL
    split
    · omega
    · rw [List.length_append]
      show L.length + 1 ≤ _
      omega
  · rw [p.length_eq, List.length_cons]
    have := h.le
    omega
  · rcases List.mem_cons.mp (p.mem_iff.mp hz) with e | e
    · rw [e]; exact nx
    · exact h.nm z e
  · rw [keys_into] at hz
    unfold openL at hz
    split at hz
    · exact h.kn z hz
    · unfold keysL at hz
      rw [List.map_append] at hz
      rcases List.mem_append.mp hz with e | e
      · exact h.kn z e
      · rw [List.mem_singleton.mp e]; exact nk
theorem Br.swap {n : Nat} {L : LL} (h : Br n L) {x y : Str} (hx : x ∈ allL L) (hy : y ∈ allL L) : Br n (swapL x y L) := ⟨wf_swap h.wf x y, by rw [← len_keys, keys_swap, len_keys]; exact h.few, by rw [all_swap, List.length_map]; exact h.le, fun z hz => h.nm z ((sw_mem hx hy).mp hz), by rw [keys_swap]; exact h.kn⟩
theorem Br.move {n : Nat} {L : LL} (h : Br n L) {k x : Str} (f : Nat → Nat) (hx : x ∈ allL L) (nk : isNm k = true) : Br (n + 1) (intoL k x f (takeL x L)) := (h.take x).into f (fun q => ((take_mem h.wf).mp q).1 rfl) (h.nm x hx) nk
theorem flt_insR {x : Str} {i : Nat} {r : List Str} {p : Str → Bool} (h : p x = false) : (insR i x r).filter p = r.filter p := by
  unfold insR
  rw [List.filter_append, List.filter_append, List.filter_cons, h, if_neg nofun, List.filter_nil, List.append_nil, ← List.filter_append, List.take_append_drop]
theorem flt_erase {x : Str} {p : Str → Bool} (h : p x = false) : ∀ r : List Str, (r.erase x).filter p = r.filter p
  | [] => rfl
  | a :: r => by
    by_cases c : a = x
    · subst c
      rw [List.erase_cons_head, List.filter_cons, h, if_neg nofun]
    · rw [List.erase_cons_tail (by simpa using c), List.filter_cons, List.filter_cons, flt_erase h r]
theorem flt_sw {x y : Str} {p : Str → Bool} (hx : p x = false) (hy : p y = false) : ∀ r : List Str, (r.map (sw x y)).filter p = r.filter p
  | [] => rfl
  | a :: r => by
    rw [List.map_cons, List.filter_cons, List.filter_cons, flt_sw hx hy r]
    unfold sw
    by_cases c : a = x
    · rw [if_pos c, hy, c, hx, if_neg nofun, if_neg nofun]
    · rw [if_neg c]
      by_cases c2 : a = y
      · rw [if_pos c2, hx, c2, hy, if_neg nofun, if_neg nofun]
      · rw [if_neg c2]
theorem keeps_of {B F : LL} {ns ts : List Str} (kf : (keysL F).Nodup) (h1 : ∀ k, (rowsL F k).filter (fun z => !decide (z ∈ ns)) = (rowsL B k).filter (fun z => !decide (z ∈ ns))) (h2 : ∀ k, k ∉ ts → rowsL F k = rowsL B k) (h3 : ∀ k ∈ keysL B, k ∈ keysL F) : Keeps B F ns ts :=
  ⟨fun e he => by rw [← h1 e.1, rows_of kf he], fun e he hk => by rw [← h2 e.1 hk, rows_of kf he], h3⟩
theorem off_named {x : Str} {ns : List Str} (h : x ∈ ns) : (fun z => !decide (z ∈ ns)) x = false := by
  show (!decide (x ∈ ns)) = false
  rw [decide_eq_true h]
  rfl
theorem keys_sub (k : Str) (L : LL) : ∀ z ∈ keysL L, z ∈ keysL (openL k L) := fun z hz => by
  unfold openL
  split
  · exact hz
  · unfold keysL at hz ⊢
    rw [List.map_append]
    exact List.mem_append_left _ hz
theorem rows_take_no {L : LL} (wf : WF L) {x k : Str} (h : x ∈ allL L) (hk : k ≠ homeL L x) : rowsL (takeL x L) k = rowsL L k := by
  rw [rows_take, List.erase_of_not_mem fun q => hk ?_]
  obtain ⟨h1, h2, h3, _⟩ := in_home wf h
  by_cases c : k ∈ keysL L
  · obtain ⟨e, he, rfl⟩ := List.mem_map.mp c
    rw [rows_of wf.kn he] at q
    exact congrArg (fun e : Str × List Str => e.1) (wf_one wf.rn he h1 q h2)
  · rw [rows_no c] at q
    cases q
theorem keeps_take {L : LL} (wf : WF L) {x : Str} (h : x ∈ allL L) {ts : List Str} (ht : homeL L x ∈ ts) : Keeps L (takeL x L) [x] ts := by
  refine keeps_of (by rw [keys_take]; exact wf.kn) (fun k => ?_) (fun k hk => rows_take_no wf h fun e => hk (e ▸ ht)) (by rw [keys_take]; exact fun _ h => h)
  rw [rows_take, flt_erase (off_named List.mem_cons_self)]
theorem keeps_move {L : LL} (wf : WF L) {x k : Str} {f : Nat → Nat} (h : x ∈ allL L) {ts : List Str} (ht : homeL L x ∈ ts) (hk : k ∈ ts) : Keeps L (intoL k x f (takeL x L)) [x] ts := by
  refine keeps_of (by rw [keys_into]; exact keys_open (by rw [keys_take]; exact wf.kn)) (fun z => ?_) (fun z hz => ?_) (fun z hz => ?_)
  · rw [rows_into]
    split
    · rename_i c
      subst c
      rw [flt_insR (off_named List.mem_cons_self), rows_take, flt_erase (off_named List.mem_cons_self)]
    · rw [rows_take, flt_erase (off_named List.mem_cons_self)]
  · rw [rows_into, if_neg fun (e : z = k) => hz (e ▸ hk)]
    exact rows_take_no wf h fun e => hz (e ▸ ht)
  · rw [keys_into]
    exact keys_sub _ _ z (by rw [keys_take]; exact hz)
theorem keeps_new {L : LL} (wf : WF L) {x k : Str} {f : Nat → Nat} (h : x ∉ allL L) {ts : List Str} (hk : k ∈ ts) : Keeps L (intoL k x f L) [x] ts := by
  refine keeps_of (by rw [keys_into]; exact keys_open wf.kn) (fun z => ?_) (fun z hz => ?_) (fun z hz => ?_)
  · rw [rows_into]
    split
    · rename_i c
      subst c
      rw [flt_insR (off_named List.mem_cons_self)]
    · rfl
  · rw [rows_into, if_neg fun (e : z = k) => hz (e ▸ hk)]
  · rw [keys_into]
    exact keys_sub _ _ z hz
theorem keeps_swap {L : LL} (wf : WF L) {x y : Str} (hx : x ∈ allL L) (hy : y ∈ allL L) {ts : List Str} (h1 : homeL L x ∈ ts) (h2 : homeL L y ∈ ts) : Keeps L (swapL x y L) [x, y] ts := by
  refine keeps_of (by rw [keys_swap]; exact wf.kn) (fun k => ?_) (fun k hk => ?_) (by rw [keys_swap]; exact fun _ h => h)
  · rw [rows_swap, flt_sw (off_named List.mem_cons_self) (off_named (List.mem_cons_of_mem _ List.mem_cons_self))]
  · rw [rows_swap]
    have no : ∀ u, u ∈ allL L → homeL L u ∈ ts → u ∉ rowsL L k := fun u hu hh q => by
      obtain ⟨i1, i2, _, _⟩ := in_home wf hu
      by_cases c : k ∈ keysL L
      · obtain ⟨e, he, rfl⟩ := List.mem_map.mp c
        rw [rows_of wf.kn he] at q
        have := congrArg (fun e : Str × List Str => e.1) (wf_one wf.rn he i1 q i2)
        exact hk (by rw [show e.1 = homeL L u from this]; exact hh)
      · rw [rows_no c] at q
        cases q
    exact map_sw_no (no x hx h1) (no y hy h2)
/-- the last place of a row in a list -/
theorem lp_eq {L : LL} (kn : (keysL L).Nodup) (x to : Str) : lpL L x to = ((rowsL L to).filter fun z => !decide (z = x)).length := by
  unfold lpL
  induction L with
  | nil => rfl
  | cons a L ih =>
    obtain ⟨n1, n2⟩ := List.nodup_cons.mp (show (a.1 :: keysL L).Nodup from kn)
    have e : hmL (a :: L) = (a.2.map fun r => ((Sum.inr r : L2.Key), L2.V.str a.1)) ++ hmL L := rfl
    rw [e, List.filter_append, List.length_append, ih n2]
    unfold rowsL
    rw [List.find?_cons]
    by_cases c : a.1 = to
    · rw [show decide (a.1 = to) = true from decide_eq_true c]
      have hno : rowsL L to = [] := rows_no (c ▸ n1)
      have : ((rowsL L to).filter fun z => !decide (z = x)).length = 0 := by rw [hno]; rfl
      unfold rowsL at this
      rw [this, Nat.add_zero, List.filter_map, List.length_map]
      congr 1
      refine List.filter_congr fun z _ => ?_
      show (decide (L2.V.str a.1 = L2.V.str to) && !decide ((Sum.inr z : L2.Key) = Sum.inr x)) = !decide (z = x)
      rw [decide_eq_true (congrArg L2.V.str c), Bool.true_and]
      congr 1
      exact decide_eq_decide.mpr ⟨fun h => by injection h, fun h => by rw [h]⟩
    · rw [show decide (a.1 = to) = false from decide_eq_false c]
      have : ((a.2.map fun r => ((Sum.inr r : L2.Key), L2.V.str a.1)).filter fun p => decide (p.2 = L2.V.str to) && !decide (p.1 = (Sum.inr x : L2.Key))).length = 0 := by
        rw [List.filter_map, List.length_map, List.length_eq_zero_iff, List.filter_eq_nil_iff]
        intro z _
        show ¬(decide (L2.V.str a.1 = L2.V.str to) && _) = true
        rw [decide_eq_false fun h => c (by injection h)]
        exact nofun
      rw [this, Nat.zero_add]
end K11

set_option Elab.async false
set_option maxRecDepth 100000
set_option maxHeartbeats 1000000
/-! Calls that are allowed; boards as data. -/
namespace K11
open PySem PySem.Spec PyProof.Rows L2 He KX
/-- a call that is allowed -/
structure Call (o : Str × List Str) (L : LL) (x : Str) (y to : Option Str) (k : Option Nat) : Prop where
  ho : o ∈ args
  wf : WF L
  l1 : (allL L).length ≤ 2000
  l2 : L.length ≤ 2000
  fx : FitV o L "x" (.str x) (.str x) (oV to)
  fy : FitV o L "y" (oV y) (.str x) (oV to)
  ft : FitV o L "to" (oV to) (.str x) (oV to)
  fk : FitV o L "k" (oI k) (.str x) (oV to)
section
variable {n : Nat} {L : LL} {x : Str}
theorem Br.call {o : Str × List Str} {y to : Option Str} {k : Option Nat} (h : Br n L) (hn : n ≤ 10) (ho : o ∈ args) (fx : FitV o L "x" (.str x) (.str x) (oV to)) (fy : FitV o L "y" (oV y) (.str x) (oV to)) (ft : FitV o L "to" (oV to) (.str x) (oV to)) (fk : FitV o L "k" (oI k) (.str x) (oV to)) : Call o L x y to k :=
  ⟨ho, h.wf, by have := h.le; omega, by have := h.few; omega, fx, fy, ft, fk⟩
theorem fit_no {o : Str × List Str} {nm : Str} {x to : V} (h : nm ∉ o.2) : FitV o L nm .non x to := by unfold FitV; rw [if_neg h]
theorem fit_x {o : Str × List Str} {nm z : Str} {x to : V} (h : nm ∈ o.2) (h1 : nm ≠ "to") (h2 : nm ≠ "k") (h3 : o.1 ∉ newL) (hz : z ∈ allL L) : FitV o L nm (.str z) x to := by
  unfold FitV; rw [if_pos h, if_neg h1, if_neg h2, if_neg h3]; exact ⟨z, rfl, hz⟩
theorem fit_new {o : Str × List Str} {nm z : Str} {x to : V} (h : nm ∈ o.2) (h1 : nm ≠ "to") (h2 : nm ≠ "k") (h3 : o.1 ∈ newL) (hz : isNm z = true) (hn : z ∉ allL L) : FitV o L nm (.str z) x to := by
  unfold FitV; rw [if_pos h, if_neg h1, if_neg h2, if_pos h3]; exact ⟨z, rfl, hz, hn⟩
theorem fit_to {o : Str × List Str} {z : Str} {x to : V} (h : ("to" : Str) ∈ o.2) (hz : isNm z = true) : FitV o L "to" (.str z) x to := by
  unfold FitV; rw [if_pos h, if_pos rfl]; exact ⟨z, rfl, hz⟩
theorem fit_k {o : Str × List Str} {k : Nat} {x to : Str} (h : ("k" : Str) ∈ o.2) (h1 : 1 ≤ k) (h2 : k ≤ lpL L x to + 1) : FitV o L "k" (.int k) (.str x) (.str to) := by
  unfold FitV; rw [if_pos h, if_neg (by decide), if_pos rfl]; exact ⟨k, x, to, rfl, rfl, rfl, h1, h2⟩
theorem call_x (op : Str) (ho : (op, (["x"] : List Str)) ∈ args) (hN : op ∉ newL) (h : Br n L) (hn : n ≤ 10) (hx : x ∈ allL L) : Call (op, ["x"]) L x none none none :=
  h.call hn ho (fit_x (show ("x" : Str) ∈ (["x"] : List Str) by decide) (by decide) (by decide) hN hx) (fit_no (show ("y" : Str) ∉ (["x"] : List Str) by decide)) (fit_no (show ("to" : Str) ∉ (["x"] : List Str) by decide)) (fit_no (show ("k" : Str) ∉ (["x"] : List Str) by decide))
theorem call_swap {y : Str} (h : Br n L) (hn : n ≤ 10) (hx : x ∈ allL L) (hy : y ∈ allL L) : Call ("swap", ["x", "y"]) L x (some y) none none :=
  h.call hn (by decide +kernel) (fit_x (by decide) (by decide) (by decide) (by decide) hx) (fit_x (by decide) (by decide) (by decide) (by decide) hy) (fit_no (by decide)) (fit_no (by decide))
theorem call_move {to : Str} {k : Nat} (h : Br n L) (hn : n ≤ 10) (hx : x ∈ allL L) (nt : isNm to = true) (h1 : 1 ≤ k) (h2 : k ≤ ((rowsL L to).filter fun z => !decide (z = x)).length + 1) : Call ("move", ["x", "to", "k"]) L x none (some to) (some k) :=
  h.call hn (by decide +kernel) (fit_x (by decide) (by decide) (by decide) (by decide) hx) (fit_no (by decide)) (fit_to (by decide) nt) (fit_k (by decide) h1 (by rw [lp_eq h.wf.kn]; exact h2))
theorem call_send {to : Str} (h : Br n L) (hn : n ≤ 10) (hx : x ∈ allL L) (nt : isNm to = true) : Call ("send", ["x", "to"]) L x none (some to) none :=
  h.call hn (by decide +kernel) (fit_x (by decide) (by decide) (by decide) (by decide) hx) (fit_no (by decide)) (fit_to (by decide) nt) (fit_no (by decide))
theorem call_put {to : Str} {k : Nat} (h : Br n L) (hn : n ≤ 10) (hx : x ∉ allL L) (nx : isNm x = true) (nt : isNm to = true) (h1 : 1 ≤ k) (h2 : k ≤ ((rowsL L to).filter fun z => !decide (z = x)).length + 1) : Call ("put", ["x", "to", "k"]) L x none (some to) (some k) :=
  h.call hn (by decide +kernel) (fit_new (by decide) (by decide) (by decide) (by decide) nx hx) (fit_no (by decide)) (fit_to (by decide) nt) (fit_k (by decide) h1 (by rw [lp_eq h.wf.kn]; exact h2))
theorem call_add {to : Str} (h : Br n L) (hn : n ≤ 10) (hx : x ∉ allL L) (nx : isNm x = true) (nt : isNm to = true) : Call ("add", ["x", "to"]) L x none (some to) none :=
  h.call hn (by decide +kernel) (fit_new (by decide) (by decide) (by decide) (by decide) nx hx) (fit_no (by decide)) (fit_to (by decide) nt) (fit_no (by decide))
end
/-- a board as data -/
def dL (L : LL) : KD := L.map fun e => (Sum.inr e.1, PyData.list (e.2.map PyData.str))
theorem DL.data {K : PySem.W.Frag} {H : Hp} {p : Addr} {L : LL} (h : DL H p L) (nm : ∀ z ∈ allL L, isNm z = true) : DDat K H p (dL L) := by
  obtain ⟨T, rfl, hT⟩ := h
  refine ⟨kvT T, hT.at_, ?_⟩
  have : ∀ U : TT, (∀ t ∈ U, t ∈ T) → PairD K H (kvT U) (dL (lT U)) := by
    intro U
    induction U with
    | nil => intro _; exact .nil
    | cons t U ih =>
      intro hU
      have ht := hU t List.mem_cons_self
      refine .cons ⟨rfl, .lst (SqL.of (hT.all t ht)) (strs_dp _), nmsSh fun z hz => nm z (mem_all.mpr ⟨_, List.mem_map.mpr ⟨t, ht, rfl⟩, hz⟩)⟩ (ih fun u hu => hU u (List.mem_cons_of_mem _ hu))
  exact this T fun _ h => h
theorem deq_self {L : LL} (kn : (keysL L).Nodup) (nm : ∀ z ∈ allL L, isNm z = true) : deqD (dL L) (dL L) = true := by
  unfold deqD
  rw [beq_self_eq_true, Bool.true_and, List.all_eq_true]
  intro p hp
  obtain ⟨e, he, rfl⟩ := List.mem_map.mp hp
  have : KX.valD (dL L) (Sum.inr e.1) = some (PyData.list (e.2.map PyData.str)) := by
    unfold KX.valD
    have : ∀ M : LL, (∀ u ∈ M, u ∈ L) → e ∈ M → ((dL M).find? fun p => decide (p.1 = (Sum.inr e.1 : Key))).map (·.2) = some (PyData.list (e.2.map PyData.str)) := by
      intro M
      induction M with
      | nil => intro _ h; cases h
      | cons a M ih =>
        intro hM h
        show (List.find? _ (((Sum.inr a.1 : Key), PyData.list (a.2.map PyData.str)) :: dL M)).map (·.2) = _
        rw [List.find?_cons]
        by_cases c : a.1 = e.1
        · have := wf_key kn (hM a List.mem_cons_self) he c
          subst this
          rw [show decide ((Sum.inr a.1 : Key) = Sum.inr a.1) = true from decide_eq_true rfl]
          rfl
        · rw [show decide ((Sum.inr a.1 : Key) = Sum.inr e.1) = false from decide_eq_false fun q => c (by injection q)]
          rcases List.mem_cons.mp h with q | q
          · exact absurd (by rw [q]) c
          · exact ih (fun u hu => hM u (List.mem_cons_of_mem _ hu)) q
    exact this L (fun _ h => h) he
  show (match KX.valD (dL L) (Sum.inr e.1) with | some d => PyData.eqv (PyData.list (e.2.map PyData.str)) d | none => false) = true
  rw [this]
  exact SeqAt.eqv_refl _ (Bool.and_eq_true_iff.mp (nmsSh fun z hz => nm z (mem_all.mpr ⟨e, he, hz⟩))).1
end K11

set_option Elab.async false
set_option maxRecDepth 100000
set_option maxHeartbeats 2000000
namespace K11
open PySem PySem.Spec PyProof.Rows L2 He KX StX
def apP : List Str := ["lists", "op", "x", "y", "to", "k"]
theorem Call.sp {o : Str × List Str} {L : LL} {x : Str} {y to : Option Str} {k : Option Nat} (c : Call o L x y to k) {H : Hp} {p : Addr} {Q : VK} {E : XK} (hL : DL H p L) (f : ∀ q G, H q = none → Same H G → DL G q (apL o.1 x y to k L) → Q (.ref q) G) : spApp [.ref p, .str o.1, .str x, oV y, oV to, oI k] H Q E :=
  ⟨p, o, L, x, y, to, k, rfl, c.ho, hL, c.wf, c.l1, c.l2, c.fx, c.fy, c.ft, c.fk, fun q G n s h => f q G n s h.dl⟩
theorem Call.spF {o : Str × List Str} {L : LL} {x : Str} {y to : Option Str} {k : Option Nat} (c : Call o L x y to k) {H : Hp} {p : Addr} {Q : VK} {E : XK} (hL : DL H p L) (f : ∀ q G, H q = none → Same H G → DLF H G q (apL o.1 x y to k L) → Q (.ref q) G) : spApp [.ref p, .str o.1, .str x, oV y, oV to, oI k] H Q E :=
  ⟨p, o, L, x, y, to, k, rfl, c.ho, hL, c.wf, c.l1, c.l2, c.fx, c.fy, c.ft, c.fk, f⟩
theorem DT.away {G : Hp} {p D : Addr} {T : TT} {o : HO} (h : DT G p T) (n : p ≠ D) (m : ∀ t ∈ T, t.2.2 ≠ D) : DT (upd G D o) p T := ⟨(upd_ne n).trans h.at_, fun t ht => (upd_ne (m t ht)).trans (h.all t ht), h.nd⟩
theorem DL.get {H : Hp} {p : Addr} {L : LL} (h : DL H p L) (kn : (keysL L).Nodup) {k : Str} (hk : k ∈ keysL L) : ∃ a, DGet H p (.str k) (some (.ref a)) ∧ H a = some (.lst ((rowsL L k).map V.str)) := by
  obtain ⟨T, rfl, hT⟩ := h
  obtain ⟨e, he, rfl⟩ := List.mem_map.mp hk
  obtain ⟨t, ht, rfl⟩ := List.mem_map.mp he
  refine ⟨t.2.2, .inl ⟨_, .inr t.1, .inl hT.at_, rfl, (kv_val kn ht).symm⟩, ?_⟩
  rw [rows_of kn he]
  exact hT.all t ht
end K11

set_option Elab.async false
set_option maxRecDepth 100000
set_option maxHeartbeats 2000000
namespace K11
open PySem PySem.Spec PyProof.Rows L2 He KX StX
theorem DL.get2 {H : Hp} {p l : Addr} {L : LL} (h : DL H p L) (kn : (keysL L).Nodup) (hl : H l = some (.lst [])) (k : Str) : ∃ o a, DGet H p (V.str k) o ∧ o.getD (V.ref l) = V.ref a ∧ H a = some (.lst ((rowsL L k).map V.str)) := by
  obtain ⟨T, rfl, hT⟩ := h
  exact K11.get2 hT kn hl k
theorem DL.isD {H : Hp} {p : Addr} {L : LL} (h : DL H p L) : IsD H p := by
  obtain ⟨T, _, hT⟩ := h
  exact .inl ⟨_, .inl hT.at_⟩
theorem insR_get {i : Nat} {x : Str} {r : List Str} (h : i ≤ r.length) : (insR i x r)[i]? = some x := by
  unfold insR
  rw [List.append_assoc, List.getElem?_append_right (by rw [List.length_take]; omega), List.length_take, Nat.min_eq_left h, Nat.sub_self]
  rfl
theorem insR_end {x : Str} (r : List Str) : insR r.length x r = r ++ [x] := by
  unfold insR
  rw [List.take_length, List.drop_length, List.append_nil]
theorem atI_last {xs : List V} {v : V} : atI (xs ++ [v]) (-1) = some v := by
  unfold atI
  have : ixN (xs ++ [v]).length (-1) = some xs.length := by
    unfold ixN
    rw [List.length_append]
    rw [if_neg (by decide), if_pos (by show -((xs.length + 1 : Nat) : Int) ≤ -1; omega)]
    congr 1
    show ((-1 : Int) + ((xs.length + 1 : Nat) : Int)).toNat = xs.length
    omega
  rw [this]
  show (xs ++ [v])[xs.length]? = some v
  rw [List.getElem?_append_right (Nat.le_refl _), Nat.sub_self]
  rfl
theorem full_nm {L : LL} (h : ∀ z ∈ allL L, isNm z = true) : ∀ z ∈ allL (fullL L), isNm z = true := fun z hz => by
  obtain ⟨e, he, hx⟩ := mem_all.mp hz
  exact h z (mem_all.mpr ⟨e, (List.mem_filter.mp he).1, hx⟩)
end K11

set_option Elab.async false
set_option maxRecDepth 100000
set_option maxHeartbeats 2000000
namespace K11
open PySem PySem.Spec PyProof.Rows L2 He KX StX
abbrev sLLs : Stmt := top 26
-- ["bag", "most", "keys", "left", "lists", "key", "many", "rows", "turn", "name"]
/-- a walk over letters finds one that is not among twenty names -/
theorem flt_off : ∀ (R : List Str) {l : List Str}, l.Nodup → l.length ≤ (l.filter fun z => !decide (z ∈ R)).length + R.length
  | [], l, nd => by
    rw [List.filter_eq_self.mpr fun z _ => by rw [decide_eq_false (List.not_mem_nil)]; rfl]
    exact Nat.le_refl _
  | r :: R, l, nd => by
    have h1 := flt_off R (nd.erase r)
    have h2 : l.length ≤ (l.erase r).length + 1 := by
      by_cases c : r ∈ l
      · rw [List.length_erase_of_mem c]; omega
      · rw [List.erase_of_not_mem c]; omega
    have e : (l.erase r).filter (fun z => !decide (z ∈ R)) = l.filter fun z => !decide (z ∈ r :: R) := by
      rw [nd.erase_eq_filter, List.filter_filter]
      refine List.filter_congr fun z _ => ?_
      by_cases c : z = r
      · subst c
        simp
      · simp [c]
    rw [e] at h1
    rw [List.length_cons]
    omega
def letS : List Str := ("abcdefghijklmnopqrstuvwxyz" : Str).cps.toList.map fun c => (⟨#[c]⟩ : Str)
theorem cut3 (xs : List V) : cutV xs none (some 3) = xs.take 3 := by
  unfold cutV
  rw [show (some 3 : Option Int) = some ((3 : Nat) : Int) from rfl, HT.sIx_none, HT.sIx_nat, List.drop_zero, Nat.sub_zero]
  exact List.take_eq_take_min.symm
theorem DT.kept {b : Addr} {H G : Hp} {p : Addr} {T : TT} (h : DT H p T) (k : Kept b H G) (pb : p ≠ b) (tb : ∀ t ∈ T, t.2.2 ≠ b) : DT G p T := ⟨k _ _ pb h.at_, fun t ht => k _ _ (tb t ht) (h.all t ht), h.nd⟩
/-- what stands while the lists are drawn -/
structure LS (b p F Kk : Addr) (H0 G : Hp) (ks : List Str) (T : TT) (zs : List Str) (m : Int) : Prop where
  bag : Bag G b m
  dt : DT G p T
  lf : G F = some (.lst (zs.map V.str))
  ky : G Kk = some (.lst (ks.map V.str))
  kept : Kept b H0 G
  fb : F ≠ b
  kb : Kk ≠ b
  pb : p ≠ b
  kf : Kk ≠ F
  tb : ∀ t ∈ T, t.2.2 ≠ b ∧ t.2.2 ≠ F ∧ t.2.2 ≠ Kk
  lowF : H0 F = none
  lowp : H0 p = none
section
variable {b p F Kk : Addr} {H0 G G' : Hp} {ks : List Str} {T : TT} {zs : List Str} {m m' : Int}
theorem LS.draw (h : LS b p F Kk H0 G ks T zs m) (k : But b G G') (hB : Bag G' b m') : LS b p F Kk H0 G' ks T zs m' :=
  ⟨hB, h.dt.kept k.kept h.pb fun t ht => (h.tb t ht).1, (k _ h.fb).trans h.lf, (k _ h.kb).trans h.ky, h.kept.trans k.kept, h.fb, h.kb, h.pb, h.kf, h.tb, h.lowF, h.lowp⟩
theorem LS.same (h : LS b p F Kk H0 G ks T zs m) (s : Same G G') : LS b p F Kk H0 G' ks T zs m := by
  obtain ⟨d, m, c, e, r⟩ := h.bag
  exact ⟨⟨d, m, c, s _ _ e, r⟩, h.dt.mv s, s _ _ h.lf, s _ _ h.ky, fun x o n e => s _ _ (h.kept x o n e), h.fb, h.kb, h.pb, h.kf, h.tb, h.lowF, h.lowp⟩
theorem LS.le (h : LS b p F Kk H0 G ks T zs m) (q : m ≤ m') : LS b p F Kk H0 G ks T zs m' := ⟨h.bag.mono q, h.dt, h.lf, h.ky, h.kept, h.fb, h.kb, h.pb, h.kf, h.tb, h.lowF, h.lowp⟩
theorem LS.pf (h : LS b p F Kk H0 G ks T zs m) : p ≠ F := fun e => by have := h.dt.at_; rw [e, h.lf] at this; cases this
theorem LS.pk (h : LS b p F Kk H0 G ks T zs m) : p ≠ Kk := fun e => by have := h.dt.at_; rw [e, h.ky] at this; cases this
theorem LS.pt (h : LS b p F Kk H0 G ks T zs m) : ∀ t ∈ T, t.2.2 ≠ p := fun t ht e => by have := h.dt.all t ht; rw [e, h.dt.at_] at this; cases this
theorem LS.pop (h : LS b p F Kk H0 G ks T zs m) (zs' : List Str) : LS b p F Kk H0 (upd G F (.lst (zs'.map V.str))) ks T zs' m :=
  ⟨h.bag.put h.fb, ⟨(upd_ne h.pf).trans h.dt.at_, fun t ht => (upd_ne (h.tb t ht).2.1).trans (h.dt.all t ht), h.dt.nd⟩, upd_same, (upd_ne h.kf).trans h.ky, fun x o n e => (upd_ne (ne_of_none e h.lowF)).trans (h.kept x o n e), h.fb, h.kb, h.pb, h.kf, h.tb, h.lowF, h.lowp⟩
/-- a list that is made within -/
structure Off (b p F Kk D : Addr) (H0 : Hp) (T : TT) : Prop where
  db : D ≠ b
  dp : D ≠ p
  df : D ≠ F
  dk : D ≠ Kk
  dt : ∀ t ∈ T, t.2.2 ≠ D
  low : H0 D = none
theorem LS.off (h : LS b p F Kk H0 G ks T zs m) {D : Addr} (nD : G D = none) : Off b p F Kk D H0 T := by
  have db := h.bag.ne nD
  refine ⟨db, (ne_of_none h.dt.at_ nD).symm, (ne_of_none h.lf nD).symm, (ne_of_none h.ky nD).symm, fun t ht => ne_of_none (h.dt.all t ht) nD, ?_⟩
  cases e : H0 D with
  | none => rfl
  | some o => rw [h.kept _ _ db e] at nD; cases nD
theorem LS.acc (h : LS b p F Kk H0 G ks T zs m) {D : Addr} (o : Off b p F Kk D H0 T) (u : HO) : LS b p F Kk H0 (upd G D u) ks T zs m :=
  ⟨h.bag.put o.db, ⟨(upd_ne o.dp.symm).trans h.dt.at_, fun t ht => (upd_ne (o.dt t ht)).trans (h.dt.all t ht), h.dt.nd⟩, (upd_ne o.df.symm).trans h.lf, (upd_ne o.dk.symm).trans h.ky, fun x v n e => (upd_ne (ne_of_none e o.low)).trans (h.kept x v n e), h.fb, h.kb, h.pb, h.kf, h.tb, h.lowF, h.lowp⟩
theorem LS.add (h : LS b p F Kk H0 G ks T zs m) {D : Addr} (o : Off b p F Kk D H0 T) {k : Str} {ys : List Str} (hD : G D = some (.lst (ys.map V.str))) : LS b p F Kk H0 (upd G p (.dK (kvT (T ++ [(k, ys, D)])))) ks (T ++ [(k, ys, D)]) zs m := by
  refine ⟨h.bag.put h.pb, ⟨upd_same, fun t ht => ?_, ?_⟩, (upd_ne h.pf.symm).trans h.lf, (upd_ne h.pk.symm).trans h.ky, fun x v n e => (upd_ne (ne_of_none e h.lowp)).trans (h.kept x v n e), h.fb, h.kb, h.pb, h.kf, fun t ht => ?_, h.lowF, h.lowp⟩
  · rcases List.mem_append.mp ht with ht | ht
    · exact (upd_ne (h.pt t ht)).trans (h.dt.all t ht)
    · rw [List.mem_singleton.mp ht]
      exact (upd_ne o.dp).trans hD
  · rw [List.map_append]
    refine List.nodup_append.mpr ⟨h.dt.nd, by simp, fun a ha c hc => ?_⟩
    obtain ⟨u, hu, rfl⟩ := List.mem_map.mp ha
    rw [List.mem_singleton.mp hc]
    exact o.dt u hu
  · rcases List.mem_append.mp ht with ht | ht
    · exact h.tb t ht
    · rw [List.mem_singleton.mp ht]
      exact ⟨o.db, o.df, o.dk⟩
end
/-- _law_lists -/
def spLLs : Sp := fun vs H Q _ => ∃ (b : Addr) (n : Int) (most : Nat), vs = [.ref b, .int most] ∧ Bag H b n ∧ n < 700000 ∧ most ≤ 1000 ∧ ∀ (R p F : Addr) (T : TT) (zs : List Str) (G : Hp), Kept b H G → Bag G b (n + 700) → p ≠ b → F ≠ b → (∀ t ∈ T, t.2.2 ≠ b) → G R = some (.tup [.ref p, .ref F]) → DT G p T → Br 0 (lT T) → G F = some (.lst (zs.map V.str)) → 3 ≤ zs.length → zs.length ≤ 23 → zs.Nodup → (∀ z ∈ zs, isNm z = true ∧ z ∉ allL (lT T)) → Q (.ref R) G
section
variable {P : Program} {w : World} {K : PySem.W.Frag} {mg : Str → Option Value} {base : Heap}
theorem scLLs : FnScope ["bag", "most", "keys", "left", "lists", "key", "many", "rows", "turn", "name"] ["bag", "most"] (defScope sLLs) := ⟨rfl, rfl, rfl, by decide +kernel, rfl, by decide +kernel, by decide +kernel⟩
theorem ok_lls {f fNs fO fD fA : Addr} {fd fdNs fdO fdD fdA : FuncData} (F : FnP K "_law_lists" sLLs f fd)
    (GNs : FnOk P w K mg base CX0 3 fNs fdNs ["bag", "many"] spLNames) (bNs : Binds K fdNs ["bag", "many"] []) (kNs : PySem.W.keepIn K (.ref fNs) = true) (gNs : mg "_law_names" = some (.ref fNs))
    (GO : FnOk P w K mg base CX0 2 fO fdO ["bag", "some"] (spOf K)) (bO : Binds K fdO ["bag", "some"] []) (kO : PySem.W.keepIn K (.ref fO) = true) (gO : mg "_law_of" = some (.ref fO))
    (GD : FnOk P w K mg base CX0 1 fD fdD ["bag", "many"] spDraw) (bD : Binds K fdD ["bag", "many"] []) (kD : PySem.W.keepIn K (.ref fD) = true) (gD : mg "_law_draw" = some (.ref fD))
    (GA : FnOk P w K mg base CX0 1 fA fdA ["lists"] spAll) (bA : Binds K fdA ["lists"] []) (kA : PySem.W.keepIn K (.ref fA) = true) (gA : mg "_law_all" = some (.ref fA))
    (n_len : mg "len" = none) (n_min : mg "min" = none) (n_range : mg "range" = none) :
    FnOk P w K mg base CX0 4 f fd ["bag", "most"] spLLs := by
  refine F.ok scLLs (fun vs H Q E h => ?_) (fun cdv A outer s H vs Q E hr h => ?_)
  · obtain ⟨b, n, most, rfl, _⟩ := h
    rfl
  · obtain ⟨b, n, most, rfl, hB, hn, hm, q⟩ := h
    have nd := scLLs.nd
    have hr3 := hr.mono (j := 3) (by decide)
    have hr2 := hr.mono (j := 2) (by decide)
    have hr1 := hr.mono (j := 1) (by decide)
    have hu : (A.deeper (envOfC "_law_lists" (defScope sLLs) s.heap.objs.size f cdv)).units + 1 < cLine := by have := hr.un; omega
    refine ⟨_, PSs.nox (pss_cons (ps_asg (pe_tup (pa_cons (pe_call GNs hr3 (by rfl) gNs kNs bNs .nil pass0 (pa_cons (pv 0) (pa_cons pe_int pa_nil))) (pa_cons (pe_call GNs hr3 (by rfl) gNs kNs bNs .nil pass0 (pa_cons (pv 0) (pa_cons pe_int pa_nil))) (pa_cons (pe_dnewK) pa_nil)))) (pg_tup rfl (pgs_cons (pg_name (i := 2) nd rfl (Or.inl rfl)) (pgs_cons (pg_name (i := 3) nd rfl (Or.inr rfl)) (pgs_cons (pg_name (i := 4) nd rfl (Or.inl rfl)) pgs_nil)))))
(pss_cons (ps_for PassesOwn.never rfl (pi_list (pv 2)) (pg_name (i := 5) nd rfl (Or.inl rfl))
(pss_cons (ps_set (i := 6) nd rfl (Or.inl rfl) (pe_callB (call_min2 rfl) (by rfl) n_min (by decide +kernel) (pa_cons (pe_callB call_len_seq (by rfl) n_len PySem.boot_len (pa_cons (pv 3) pa_nil)) (pa_cons (pe_call GO hr2 (by rfl) gO kO bO .nil pass0 (pa_cons (pv 0) (pa_cons (pe_lst (pa_cons pe_int (pa_cons pe_int (pa_cons pe_int (pa_cons pe_int (pa_cons (pv 1) pa_nil)))))) pa_nil))) pa_nil))))
(pss_one (ps_dput hu (pv 4) (pv 5) (pe_lc (own := [("turn", 8)]) (g := (gName 8)) (tt := tYes) rfl nd (pi_range1 (by rfl) n_range (pa_cons (pv 6) pa_nil)) (blkOk_by (own := [("turn", 8)]) (N := ["bag", "most", "keys", "left", "lists", "key", "many", "rows", "turn", "name"]) (sc := defScope sLLs) (by decide +kernel)) (fun _ _ _ _ _ => (pg_name (i := 8) nd rfl (Or.inl rfl))) (fun _ _ _ _ _ => pts_nil) (fun _ _ _ _ _ => (show PE _ _ (tBM K "list" rPopAt (tVar 3) (tCons (tCall spDraw [] E0 (tCons (tVar 0) (tCons (tCB (rLenQ K) (tCons (tVar 3) tNil)) tNil))) tNil)) from pe_bm PySem.F.plainAttrs_list PySem.F.slot_list_pop PySem.F.type_list_pop mt_popAt (pv 3) (pa_cons (pe_call GD hr1 (by rfl) gD kD bD .nil pass0 (pa_cons (pv 0) (pa_cons (pe_callB call_len_seq (by rfl) n_len PySem.boot_len (pa_cons (pv 3) pa_nil)) pa_nil))) pa_nil)))) rfl))))
(pss_cons (ps_set (i := 7) nd rfl (Or.inr rfl) (pe_call GA hr1 (by rfl) gA kA bA .nil pass0 (pa_cons (pv 4) pa_nil)))
(pss_cons (ps_set (i := 3) nd rfl (Or.inr rfl) (pe_op op_cat (pv 3) (pe_slice sl_list (pe_lc (own := [("name", 9)]) (g := (gName 9))  rfl nd (pi_str pe_str) (blkOk_by (own := [("name", 9)]) (N := ["bag", "most", "keys", "left", "lists", "key", "many", "rows", "turn", "name"]) (sc := defScope sLLs) (by decide +kernel)) (fun _ _ _ _ _ => (pg_name (i := 9) nd rfl (Or.inl rfl))) (fun _ _ _ _ _ => (pts_one (PW.pt (pw_and (pt_cmpR (show OpR _ _ (rIn K true) from op_notIn_seq) (pv 9) (pv 3) rfl) (pw_and1 (pt_cmpR (show OpR _ _ (rIn K true) from op_notIn_seq) (pv 9) (pv 7) rfl)))))) (fun _ _ _ _ _ => (pv 9))) po_none (po_some pe_int))))
(pss_one (ps_ret (pe_tup (pa_cons (pv 4) (pa_cons (pv 3) pa_nil))))))))), ?_⟩
    refine ⟨_, rfl, b, n, 4, rfl, hB, by omega, by decide, by decide, fun Kk ks G1 hK ks1 ks2 => ?_⟩
    obtain ⟨nK, Kb, k1, hB1, hK1, ndK, nmK⟩ := hK
    refine ⟨_, rfl, b, _, 20, rfl, hB1, by omega, by decide, by decide, fun F0 zs G2 hF zs1 zs2 => ?_⟩
    obtain ⟨nF, Fb, k2, hB2, hF2, ndF, nmF⟩ := hF
    refine fun p np => ⟨(by show 3 ≤ sizeLine; decide), fun R0 nR0 => ?_⟩
    refine ⟨R0, _, rfl, SqT.of upd_same, rfl, _, _, rfl, _, _, rfl, _, _, rfl, rfl, ?_⟩
    have Bp := hB2.ne np
    have hK2 := k2 _ _ Kb hK1
    have k12 := k1.trans k2
    have low : ∀ {G' : Hp} {x : Addr}, Kept b H G' → x ≠ b → G' x = none → H x = none := fun {G' x} k n e => by
      cases e2 : H x with
      | none => rfl
      | some o => rw [k _ _ n e2] at e; cases e
    have st2 : LS b p F0 Kk H (upd G2 p (.dK [])) ks [] zs (n + 480) := ⟨(hB2.put Bp).mono (by omega), ⟨upd_same, fun t ht => (by cases ht), List.nodup_nil⟩, (upd_ne (ne_of_none hF2 np)).trans hF2, (upd_ne (ne_of_none hK2 np)).trans hK2, fun x o nx e => (upd_ne (ne_of_none (k12 x o nx e) np)).trans (k12 x o nx e), Fb, Kb, Bp, ne_of_none hK1 nF, fun t ht => (by cases ht), low k1 Fb nF, low k12 Bp np⟩
    have st3 := st2.same (same_put (o := .tup [V.ref Kk, V.ref F0, V.ref p]) nR0)
    generalize upd (upd G2 p (.dK [])) R0 (.tup [V.ref Kk, V.ref F0, V.ref p]) = G3 at st3 ⊢
    dsimp only [gName, List.set]
    refine ⟨_, rfl, Kk, rfl, ⟨_, SqL.of st3.ky⟩, ?_⟩
    refine for_it (walk_list (K := K) (a := Kk) (xs := ks.map V.str)) (fun i σ G => ∃ T zs' y5 y6 y7 y8 y9, σ = [some (.ref b), some (.int most), some (.ref Kk), some (.ref F0), some (.ref p), y5, y6, y7, y8, y9] ∧ LS b p F0 Kk H G ks T zs' (n + 480 + 30 * i) ∧ keysL (lT T) = ks.take i ∧ (allL (lT T) ++ zs').Perm zs) ⟨[], zs, _, _, _, _, _, rfl, st3.le (by omega), rfl, List.Perm.refl _⟩ (fun i σ G _ h => by obtain ⟨_, _, _, _, _, _, _, _, st, _⟩ := h; exact SqL.of st.ky) ?_ ?_
    · rintro i v σ G' G hi ⟨T, zs', y5, y6, y7, y8, y9, rfl, st, ek, pm⟩ ⟨rfl, hv⟩
      obtain ⟨k, hk, rfl⟩ := Option.map_eq_some_iff.mp ((List.getElem?_map ..).symm.trans hv)
      have hi4 : i < 4 := by rw [List.length_map] at hi; omega
      have lz : zs'.length ≤ 20 := by have := pm.length_eq; rw [List.length_append] at this; omega
      dsimp only [gName, List.set]
      refine ⟨_, rfl, F0, _, rfl, .inl (SqL.of st.lf), _, rfl, _, rfl, (by show 5 ≤ sizeLine; decide), fun l nl => ?_⟩
      have stl := st.same (same_put (o := .lst [V.int 0, V.int 1, V.int 2, V.int 3, V.int most]) nl)
      refine ⟨b, l, _, _, rfl, stl.bag, by omega, (st.bag.ne nl), SqL.of upd_same, (by show 0 < 5; decide), (by show 5 ≤ 1000; decide), fun j v2 G5 hv2 bt hB5 => ?_⟩
      have st5 := stl.draw bt hB5
      obtain ⟨c, hc, rfl⟩ : ∃ c : Nat, c ≤ 1000 ∧ v2 = .int c := by
        match j, hv2 with
        | 0, h => exact ⟨0, by omega, (Option.some.inj h).symm⟩
        | 1, h => exact ⟨1, by omega, (Option.some.inj h).symm⟩
        | 2, h => exact ⟨2, by omega, (Option.some.inj h).symm⟩
        | 3, h => exact ⟨3, by omega, (Option.some.inj h).symm⟩
        | 4, h => exact ⟨most, hm, (Option.some.inj h).symm⟩
        | n + 5, h => exact nomatch h
      rw [List.length_map]
      refine ⟨_, _, rfl, ?_⟩
      have hmn : (if (c : Int) < (zs'.length : Int) then (c : Int) else (zs'.length : Int)) = ((min zs'.length c : Nat) : Int) := by split <;> omega
      rw [hmn]
      have hmm : min zs'.length c ≤ zs'.length := Nat.min_le_left _ _
      generalize min zs'.length c = mm at hmm
      refine ⟨_, rfl, _, rfl, by omega, by omega, fun D nD => ?_⟩
      have off := st5.off nD
      refine lc_it (walk_rng (n := mm)) (fun j G => ∃ ys zs2, G D = some (.lst (ys.map V.str)) ∧ ys.length = j ∧ (ys ++ zs2).Perm zs' ∧ LS b p F0 Kk H G ks T zs2 (n + 480 + 30 * i + 1 + j)) ⟨[], zs', upd_same, rfl, List.Perm.refl _, (st5.acc off _).le (by omega)⟩ (fun _ _ _ _ => trivial) ?_ ?_
      · rintro j v G' G6 hj ⟨ys, zs2, hD, ly, pm2, st6⟩ ⟨rfl, rfl⟩
        have l2 : ys.length + zs2.length = zs'.length := by rw [← List.length_append]; exact pm2.length_eq
        refine ⟨rfl, ?_⟩
        dsimp only [tYes]
        rw [if_pos rfl]
        refine ⟨_, rfl, .inl ⟨rfl, _, SqL.of st6.lf⟩, _, rfl, _, rfl, F0, _, rfl, .inl (SqL.of st6.lf), b, _, _, rfl, st6.bag, by omega, (by rw [List.length_map]; omega), (by rw [List.length_map]; omega), fun r G7 r0 r1 bt hB7 => ?_⟩
        rw [List.length_map] at r1
        have st7 := st6.draw bt hB7
        have hD7 : G7 D = some (.lst (ys.map V.str)) := (bt _ off.db).trans hD
        obtain ⟨z, hz⟩ : ∃ z, zs2[r.toNat]? = some z := ⟨_, List.getElem?_eq_getElem (by omega)⟩
        have ez : zs2 = zs2.take r.toNat ++ [z] ++ zs2.drop (r.toNat + 1) := by rw [← take_at hz, List.take_append_drop]
        refine ⟨F0, zs2.map V.str, r, r.toNat, V.str z, rfl, rfl, st7.lf, by omega, by omega, seqIndex_of r0 (by rw [List.length_map]; exact r1), by rw [List.getElem?_map, hz]; rfl, ?_⟩
        rw [show (zs2.map V.str).eraseIdx r.toNat = (zs2.take r.toNat ++ zs2.drop (r.toNat + 1)).map V.str by rw [List.eraseIdx_eq_take_drop_succ, ← List.map_take, ← List.map_drop, List.map_append]]
        have st8 := st7.pop (zs2.take r.toNat ++ zs2.drop (r.toNat + 1))
        refine ⟨_, (upd_ne off.df).trans hD7, by rw [List.length_map, sizeLine_eq]; omega, ys ++ [z], zs2.take r.toNat ++ zs2.drop (r.toNat + 1), by rw [upd_same, List.map_append]; rfl, by rw [List.length_append, ly]; rfl, ?_, (st8.acc off _).le (by omega)⟩
        refine List.Perm.trans ?_ pm2
        rw [List.append_assoc]
        refine List.Perm.append_left ys ?_
        conv => rhs; rw [ez]
        rw [List.append_assoc]
        show (z :: (zs2.take r.toNat ++ zs2.drop (r.toNat + 1))).Perm (zs2.take r.toNat ++ z :: zs2.drop (r.toNat + 1))
        exact List.perm_middle.symm
      · rintro G9 ⟨ys, zs2, hD, ly, pm2, st9⟩
        have nk : k ∉ keysL (lT T) := fun q => by
          rw [ek] at q
          have e1 := take_at hk
          have n1 := (List.take_sublist (i + 1) ks).nodup ndK
          rw [e1] at n1
          exact (List.nodup_append.mp n1).2.2 k q k (List.mem_singleton.mpr rfl) rfl
        have lT4 : T.length ≤ 4 := by
          have e1 := congrArg List.length ek
          unfold keysL lT at e1
          rw [List.length_map, List.length_map, List.length_take] at e1
          omega
        refine ⟨_, rfl, _, rfl, p, _, rfl, .inl ⟨_, .inr k, st9.dt.at_, rfl, by unfold kvT; rw [List.length_map, sizeLine_eq]; omega, rfl⟩, ?_⟩
        rw [putK_new _ (kv_none nk)]
        refine ⟨T ++ [(k, ys, D)], zs2, _, _, _, _, _, rfl, ?_, ?_, ?_⟩
        · have := (st9.add off (k := k) hD).le (m' := n + 480 + 30 * ((i + 1 : Nat) : Int)) (by omega)
          unfold kvT at this ⊢
          rw [List.map_append] at this
          exact this
        · rw [lT_app, take_at hk, ← ek]
          unfold keysL
          rw [List.map_append]
          rfl
        · rw [lT_app, all_app]
          refine List.Perm.trans ?_ pm
          rw [List.append_assoc]
          refine List.Perm.append_left _ ?_
          show ((ys ++ []) ++ zs2).Perm zs'
          rw [List.append_nil]
          exact pm2
    · rintro σ G4 ⟨T, zs', y5, y6, y7, y8, y9, rfl, st, ek, pm⟩
      rw [List.length_map, List.take_length] at ek
      rw [List.length_map] at st
      have n0 : (allL (lT T) ++ zs').Nodup := pm.nodup_iff.mpr ndF
      have l0 := pm.length_eq
      rw [List.length_append] at l0
      have nm0 : ∀ z ∈ allL (lT T) ++ zs', isNm z = true := fun z hz => nmF z (pm.mem_iff.mp hz)
      obtain ⟨n1, n2, n3⟩ := List.nodup_append.mp n0
      have br : Br 0 (lT T) := ⟨⟨by rw [ek]; exact ndK, n1⟩, (by have := congrArg List.length ek; unfold keysL at this; rw [List.length_map] at this; omega), by omega, fun z hz => nm0 z (List.mem_append_left _ hz), fun z hz => nmK z (ek ▸ hz)⟩
      refine ⟨_, rfl, p, lT T, rfl, ⟨T, rfl, st.dt⟩, br.wf, br.brd.few, Nat.le_trans br.le (by decide), fun Fa rs G5 nFa s5 hFa ndr memr => ?_⟩
      have st5 := st.same s5
      have Fab := st.bag.ne nFa
      dsimp only [gName, List.set]
      have hF5 := st5.lf
      refine ⟨_, rfl, _, rfl, fun D nD => ?_⟩
      refine lc_it (walk_str (z := "abcdefghijklmnopqrstuvwxyz")) (fun j X => X D = some (.lst (((letS.take j).filter fun z => !decide (z ∈ zs' ++ rs)).map V.str)) ∧ Same G5 X) ⟨upd_same, same_put nD⟩ (fun _ _ _ _ => trivial) ?_ ?_
      · rintro j v X' X hj ⟨hD, sX⟩ ⟨rfl, c, hc, rfl⟩
        have hz : letS[j]? = some (⟨#[c]⟩ : Str) := by
          unfold letS
          rw [List.getElem?_map, Array.getElem?_toList, hc]
          rfl
        have etk := flt_take (p := fun z => !decide (z ∈ zs' ++ rs)) hz
        have hle : ((letS.take j).filter fun z => !decide (z ∈ zs' ++ rs)).length ≤ 26 := Nat.le_trans (List.length_filter_le ..) (Nat.le_trans (by rw [List.length_take]; omega) (by decide +kernel : letS.length ≤ 26))
        refine ⟨rfl, ?_⟩
        refine ⟨_, rfl, _, rfl, F0, _, rfl, .inl (SqL.of (sX _ _ hF5)), rfl, flat_strs _, _, rfl, ?_⟩
        show if (!inV (V.str ⟨#[c]⟩) (zs'.map V.str)) = true then _ else _
        rw [inV_str]
        by_cases c1 : (⟨#[c]⟩ : Str) ∈ zs'
        · have e1 : (!decide ((⟨#[c]⟩ : Str) ∈ zs' ++ rs)) = false := by rw [decide_eq_true (List.mem_append_left _ c1)]; rfl
          rw [e1, if_neg nofun, List.append_nil] at etk
          refine no (by rw [decide_eq_true c1]; rfl) (no rfl ⟨?_, sX⟩)
          rw [etk]
          exact hD
        · refine yes (by rw [decide_eq_false c1]; rfl) ⟨_, rfl, _, rfl, Fa, _, rfl, .inl (SqL.of (sX _ _ hFa)), rfl, flat_strs _, _, rfl, ?_⟩
          show if (!inV (V.str ⟨#[c]⟩) (rs.map V.str)) = true then _ else _
          rw [inV_str]
          by_cases c2 : (⟨#[c]⟩ : Str) ∈ rs
          · have e1 : (!decide ((⟨#[c]⟩ : Str) ∈ zs' ++ rs)) = false := by rw [decide_eq_true (List.mem_append_right _ c2)]; rfl
            rw [e1, if_neg nofun, List.append_nil] at etk
            refine no (by rw [decide_eq_true c2]; rfl) ⟨?_, sX⟩
            rw [etk]
            exact hD
          · have e1 : (!decide ((⟨#[c]⟩ : Str) ∈ zs' ++ rs)) = true := by rw [decide_eq_false fun q => (List.mem_append.mp q).elim c1 c2]; rfl
            rw [e1, if_pos rfl] at etk
            refine yes (by rw [decide_eq_false c2]; rfl) ⟨_, rfl, _, hD, by rw [List.length_map, sizeLine_eq]; omega, ?_, fun y o z => (upd_ne (ne_of_none z nD)).trans (sX _ _ z)⟩
            rw [upd_same, etk, List.map_append]
            rfl
      · rintro X ⟨hD, sX⟩
        rw [show letS.take ("abcdefghijklmnopqrstuvwxyz" : Str).cps.size = letS by decide +kernel] at hD
        have big : 6 ≤ (letS.filter fun z => !decide (z ∈ zs' ++ rs)).length := by
          have h1 := flt_off (zs' ++ rs) (l := letS) (by decide +kernel)
          have h2 : letS.length = 26 := by decide +kernel
          have h3 : rs.length = (allL (lT T)).length := ((List.perm_ext_iff_of_nodup ndr n1).mpr memr).length_eq
          rw [List.length_append] at h1
          omega
        have memf : ∀ z ∈ letS.filter fun z => !decide (z ∈ zs' ++ rs), isNm z = true ∧ z ∉ allL (lT T) := fun z hz => by
          obtain ⟨z1, z2⟩ := List.mem_filter.mp hz
          refine ⟨(by decide +kernel : ∀ z ∈ letS, isNm z = true) z z1, fun q => ?_⟩
          rw [decide_eq_true (List.mem_append_right _ ((memr z).mpr q))] at z2
          cases z2
        have ndf : (letS.filter fun z => !decide (z ∈ zs' ++ rs)).Nodup := List.filter_sublist.nodup (by decide +kernel)
        have disj : ∀ z ∈ letS.filter fun z => !decide (z ∈ zs' ++ rs), z ∉ zs' := fun z hz q => by
          obtain ⟨_, z2⟩ := List.mem_filter.mp hz
          rw [decide_eq_true (List.mem_append_left _ q)] at z2
          cases z2
        have lf : (letS.filter fun z => !decide (z ∈ zs' ++ rs)).length ≤ 26 := Nat.le_trans (List.length_filter_le ..) (by decide +kernel)
        generalize (letS.filter fun z => !decide (z ∈ zs' ++ rs)) = fl at hD big memf lf ndf disj
        have st6 := st5.same sX
        refine ⟨_, rfl, D, _, rfl, SqL.of hD, fun S nS => ?_⟩
        rw [cut3, ← List.map_take]
        have st7 := st6.same (same_put (o := .lst ((fl.take 3).map V.str)) nS)
        refine ⟨F0, S, _, _, rfl, rfl, st7.lf, upd_same, by rw [List.length_map, List.length_map, List.length_take, sizeLine_eq]; omega, fun N nN => ?_⟩
        have Nb := st7.bag.ne nN
        rw [← List.map_append]
        have st8 := st7.same (same_put (o := .lst ((zs' ++ fl.take 3).map V.str)) nN)
        have hN8 : upd (upd X S (.lst ((fl.take 3).map V.str))) N (.lst ((zs' ++ fl.take 3).map V.str)) N = _ := upd_same
        generalize upd (upd X S (.lst ((fl.take 3).map V.str))) N (.lst ((zs' ++ fl.take 3).map V.str)) = G8 at st8 hN8
        dsimp only [gName, List.set]
        refine ⟨_, rfl, _, rfl, (by show 2 ≤ sizeLine; decide), fun R nR => ?_⟩
        have st9 := st8.same (same_put (o := .tup [V.ref p, V.ref N]) nR)
        refine q R p N T (zs' ++ fl.take 3) _ st9.kept (st9.bag.mono (by omega)) Bp Nb (fun t ht => (st9.tb t ht).1) upd_same st9.dt br ((upd_ne (ne_of_none hN8 nR)).trans hN8) (by rw [List.length_append, List.length_take]; omega) (by rw [List.length_append, List.length_take]; omega) (List.nodup_append.mpr ⟨n2, (List.take_sublist 3 fl).nodup ndf, fun x hx y hy e => disj y (List.take_subset _ _ hy) (e ▸ hx)⟩) fun z hz => ?_
        rcases List.mem_append.mp hz with hz | hz
        · exact ⟨nm0 z (List.mem_append_right _ hz), fun q => n3 z q z hz rfl⟩
        · exact memf z (List.take_subset _ _ hz)
end
end K11

set_option Elab.async false
set_option maxRecDepth 100000
set_option maxHeartbeats 1000000
/-! d.get(k, default) of a dict with plain keys where k may be None. -/
namespace KX
open PySem PySem.Spec PyProof.Rows L2
def rGetN : V → List V → Hp → VK → Prop := fun x xs H Q => ∃ (a : Addr) (kvs : List (L2.Key × V)) (y d : V), x = .ref a ∧ xs = [y, d] ∧ Rd H a (.dK kvs) ∧ ((y = .non ∧ Q d H) ∨ ∃ k, y = kV k ∧ Q ((valV kvs k).getD d) H)
variable {X : Cx}
theorem mt_getN (hu : X.A.units + 1 < cLine) : MtR X "dict.get" rGetN := by
  intro pins s σ H x xs v us Q I rx rxs h
  obtain ⟨a, kvs, y, d, rfl, rfl, hd, q⟩ := h
  cases rx
  cases rxs with
  | cons ry rr => cases rr with
    | cons rd rr =>
      cases rr
      rename_i uy ud
      rcases q with ⟨rfl, q⟩ | ⟨k, rfl, q⟩
      · cases ry
        obtain ⟨_, h2, vs, _, h4⟩ := dk_rd I.hok hd
        obtain ⟨f, hf, e⟩ := none_map h4
        have hf0 := hf
        obtain ⟨o, es, ep, g1, g2, g3, g4, g5⟩ := hf0
        refine call_meetsIn F.slot_dict_get ⟨o, g1, g2.1⟩ F.entry_dict_get (F.args_dict_get_3 _ _ _) (meets_dict_get_default (noneKind X.prog X.w) (k := none) (key := Value.none) a rfl h2 ud) ⟨f, hf, ?_⟩
        rw [e]
        exact ⟨d, H, I.tok _, rd, q⟩
      · exact d_get2 hu I (.inl ⟨kvs, k, hd, rfl, rfl⟩) ry rd fun w' s' I' r' => ⟨_, H, I', r', q⟩
end KX

set_option Elab.async false
set_option maxRecDepth 100000
set_option maxHeartbeats 2000000
namespace K11
open PySem PySem.Spec PyProof.Rows L2 He KX StX
abbrev sNd : Stmt := top 28
def spNd : Sp := fun vs H Q _ => ∃ o ∈ args, vs = [.str o.1] ∧ ∀ t G, H t = none → Same H G → G t = some (.tup (o.2.map V.str)) → Q (.ref t) G
/-- the list of a row, if it has one -/
def hoL (L : LL) (x : Str) : Option Str := if x ∈ allL L then some (homeL L x) else none
def spHo : Sp := fun vs H Q _ => ∃ (p : Addr) (L : LL) (x : Str), vs = [.ref p, .str x] ∧ DL H p L ∧ WF L ∧ L.length < 64 ∧ (∀ k ∈ keysL L, isNm k = true) ∧ ∀ G, Same H G → Q (oV (hoL L x)) G
def spShu : Sp := fun vs H Q _ => ∃ (b l : Addr) (n : Int) (zs : List Str), vs = [.ref b, .ref l] ∧ Bag H b n ∧ n < 700000 ∧ l ≠ b ∧ H l = some (.lst (zs.map V.str)) ∧ zs.length ≤ 100 ∧ SeqAt.shaped (.list (zs.map PyData.str)) = true ∧ (∀ z ∈ zs, isNm z = true) ∧
  ∀ (F : Addr) (ys : List Str) (G : Hp), H F = none → F ≠ b → Kept b H G → Bag G b (n + 100) → G F = some (.lst (ys.map V.str)) → ys.Perm zs → Q (.ref F) G
structure ShW (b l L F : Addr) (H : Hp) (zs : List Str) (n : Int) (m : Nat) (σ : L2.St) (G : Hp) : Prop where
  st : σ = [some (.ref b), some (.ref l), some (.ref L), some (.ref F)]
  kept : Kept b H G
  ls : ∃ fs ls : List Str, G L = some (.lst (ls.map V.str)) ∧ G F = some (.lst (fs.map V.str)) ∧ Bag G b (n + fs.length) ∧ (fs ++ ls).Perm zs ∧ m = ls.length
theorem ne_nil_eqv {rs : List Str} : (!(PyData.list (rs.map PyData.str)).eqv (PyData.list [])) = !rs.isEmpty := by
  cases rs with
  | nil => rfl
  | cons x r => rfl
section
variable {P : Program} {w : World} {K : PySem.W.Frag} {mg : Str → Option Value} {base : Heap}
-- ["op"] ["lists", "row", "found", "key"] ["bag", "rows", "left", "found"]
theorem scNd : FnScope ["op"] ["op"] (defScope sNd) := ⟨rfl, rfl, rfl, by decide +kernel, rfl, by decide +kernel, by decide +kernel⟩
theorem ok_nd {f : Addr} {fd : FuncData} (F : FnP K "_law_needs" sNd f fd) : FnOk P w K mg base CX0 1 f fd ["op"] spNd := by
  refine F.ok scNd (fun vs H Q E h => ?_) (fun cdv A outer s H vs Q E hr h => ?_)
  · obtain ⟨o, _, rfl, _⟩ := h
    rfl
  · obtain ⟨o, ho, rfl, q⟩ := h
    have nd := scNd.nd
    refine ⟨_, PSs.nox (pss_cons (ps_if (pt_cmpR op_in_seq (pv 0) (pe_tup (pa_cons pe_str (pa_cons pe_str pa_nil))) rfl)
(pss_one (ps_ret (pe_tup (pa_cons pe_str (pa_cons pe_str (pa_cons pe_str pa_nil))))))
pss_nil)
(pss_cons (ps_if (pt_cmpR op_in_seq (pv 0) (pe_tup (pa_cons pe_str (pa_cons pe_str pa_nil))) rfl)
(pss_one (ps_ret (pe_tup (pa_cons pe_str (pa_cons pe_str pa_nil)))))
pss_nil)
(pss_one (ps_ret (pe_ifExp (pt_cmpR op_eq (pv 0) pe_str (nomark _)) (pe_tup (pa_cons pe_str (pa_cons pe_str pa_nil))) (pe_tup (pa_cons pe_str pa_nil))))))), ?_⟩
    refine ⟨_, rfl, (by show 2 ≤ sizeLine; decide), fun T nT => ?_⟩
    have s1 := same_put (o := .tup [V.str "put", V.str "move"]) nT
    refine ⟨T, _, rfl, .inr (SqT.of upd_same), rfl, flat_strs (["put", "move"] : List Str), _, rfl, ?_⟩
    show if inV (V.str o.1) ((["put", "move"] : List Str).map V.str) = true then _ else _
    rw [inV_str]
    have low : ∀ {G : Hp} {x : Addr}, Same H G → G x = none → H x = none := fun {G x} k e => by
      cases e2 : H x with
      | none => rfl
      | some o => rw [k _ _ e2] at e; cases e
    by_cases c1 : o.1 ∈ (["put", "move"] : List Str)
    · refine yes (decide_eq_true c1) ⟨(by show 3 ≤ sizeLine; decide), fun t nt => q t _ (low s1 nt) (s1.trans (same_put nt)) ?_⟩
      rw [upd_same, (by decide +kernel : ∀ o ∈ args, o.1 ∈ (["put", "move"] : List Str) → o.2 = (["x", "to", "k"] : List Str)) o ho c1]
      rfl
    refine no (decide_eq_false c1) ?_
    unfold tNext
    dsimp only
    refine ⟨_, rfl, (by show 2 ≤ sizeLine; decide), fun T2 nT2 => ?_⟩
    have s2 := s1.trans (same_put (o := .tup [V.str "add", V.str "send"]) nT2)
    refine ⟨T2, _, rfl, .inr (SqT.of upd_same), rfl, flat_strs (["add", "send"] : List Str), _, rfl, ?_⟩
    show if inV (V.str o.1) ((["add", "send"] : List Str).map V.str) = true then _ else _
    rw [inV_str]
    by_cases c2 : o.1 ∈ (["add", "send"] : List Str)
    · refine yes (decide_eq_true c2) ⟨(by show 2 ≤ sizeLine; decide), fun t nt => q t _ (low s2 nt) (s2.trans (same_put nt)) ?_⟩
      rw [upd_same, (by decide +kernel : ∀ o ∈ args, o.1 ∈ (["add", "send"] : List Str) → o.2 = (["x", "to"] : List Str)) o ho c2]
      rfl
    refine no (decide_eq_false c2) ?_
    dsimp only
    refine ⟨_, rfl, rfl, _, rfl, ?_⟩
    by_cases c3 : o.1 = "swap"
    · refine yes (decide_eq_true (congrArg V.str c3)) ⟨(by show 2 ≤ sizeLine; decide), fun t nt => q t _ (low s2 nt) (s2.trans (same_put nt)) ?_⟩
      rw [upd_same, (by decide +kernel : ∀ o ∈ args, o.1 = "swap" → o.2 = (["x", "y"] : List Str)) o ho c3]
      rfl
    · refine no (decide_eq_false fun z => c3 (by injection z)) ⟨(by show 1 ≤ sizeLine; decide), fun t nt => q t _ (low s2 nt) (s2.trans (same_put nt)) ?_⟩
      rw [upd_same, (by decide +kernel : ∀ o ∈ args, o.1 ∉ (["put", "move"] : List Str) → o.1 ∉ (["add", "send"] : List Str) → o.1 ≠ "swap" → o.2 = (["x"] : List Str)) o ho c1 c2 c3]
      rfl
theorem scLHo2 : FnScope ["lists", "row", "found", "key"] ["lists", "row"] (defScope sLHom) := ⟨rfl, rfl, rfl, by decide +kernel, rfl, by decide +kernel, by decide +kernel⟩
theorem ok_lho {f : Addr} {fd : FuncData} (F : FnP K "_law_home" sLHom f fd) : FnOk P w K mg base CX0 1 f fd ["lists", "row"] spHo := by
  refine F.ok scLHo2 (fun vs H Q E h => ?_) (fun cdv A outer s H vs Q E hr h => ?_)
  · obtain ⟨p, L, x, rfl, _⟩ := h
    rfl
  · obtain ⟨p, L, x, rfl, ⟨T, rfl, hT⟩, wf, hl, hkn, q⟩ := h
    have nd := scLHo2.nd
    have hu64 := hr.units
    have hu := Nat.lt_of_le_of_lt (Nat.add_le_add_left (by decide : 1 ≤ 64) _) hr.units
    refine ⟨_, PSs.nox (pss_cons (ps_lock (ps_setLc (i := 2) (own := [("key", 3)]) (g := (gName 3))  rfl nd rfl rfl (sw_true rfl rfl rfl (by decide +kernel)) (pi_keys (pv 0)) (blkOk_by (own := [("key", 3)]) (N := ["lists", "row", "found", "key"]) (sc := defScope sLHom) (by decide +kernel)) (fun _ _ _ _ _ => (pg_name (i := 3) nd rfl (Or.inl rfl))) (fun _ _ _ _ _ => (pts_one (pt_cmpR (show OpR _ _ (rIn K false) from op_in_seq) (pv 1) (pe_dget hu (pv 0) (pv 3) (fun _ _ => rfl)) rfl))) (fun _ _ _ _ _ => (pv 3))))
(pss_one (ps_ret (pe_ifExp (pt_cmpR (op_neD hu64) (pv 2) (pe_lst pa_nil) (nomark _)) (pe_ix ix_list (pv 2) pe_int (fun _ _ => rfl)) pe_non)))), ?_⟩
    refine ⟨p, _, hT.at_, trivial, fun od => ?_⟩
    have fd0 : upd H p (.frz od (.dK (kvT T))) p = some (.frz od (.dK (kvT T))) := upd_same
    have back := fun G => frz_back (G := G) (od := od) hT.at_
    have lists : ∀ t ∈ T, upd H p (.frz od (.dK (kvT T))) t.2.2 = some (.lst (t.2.1.map V.str)) := fun t ht => by
      refine (upd_ne fun e => ?_).trans (hT.all t ht)
      have := hT.all t ht
      rw [e, hT.at_] at this
      cases this
    generalize upd H p (.frz od (.dK (kvT T))) = Hf at fd0 back lists ⊢
    refine ⟨_, rfl, p, od, rfl, .inl ⟨_, fd0, fun D nD => ?_⟩⟩
    refine lc_it (walk_keys (d := p) (o := od) (kvs := kvT T)) (fun i G => G D = some (.lst ((((T.take i).filter fun t => decide (x ∈ t.2.1)).map (·.1)).map V.str)) ∧ Same Hf G) ⟨upd_same, same_put nD⟩ (fun i G _ h => h.2 _ _ fd0) ?_ ?_
    · rintro i v G' G2 hi ⟨hD2, sG2⟩ ⟨rfl, key, val, hkv, rfl⟩
      obtain ⟨t, ht, ekv⟩ := Option.map_eq_some_iff.mp ((List.getElem?_map ..).symm.trans hkv)
      obtain ⟨rfl, rfl⟩ : Sum.inr t.1 = key ∧ V.ref t.2.2 = val := by injection ekv with e1 e2; exact ⟨e1, e2⟩
      have htm := List.mem_of_getElem? ht
      have hget : DGet G2 p (V.str t.1) (some (.ref t.2.2)) := .inl ⟨_, .inr t.1, .inr ⟨od, sG2 _ _ fd0⟩, rfl, (kv_val wf.kn htm).symm⟩
      have etk := flt_take (p := fun t : Str × List Str × Addr => decide (x ∈ t.2.1)) ht
      have hle : ((T.take i).filter fun t => decide (x ∈ t.2.1)).length ≤ 64 := Nat.le_trans (List.length_filter_le ..) (by rw [List.length_take]; have := hl; unfold lT at this; rw [List.length_map] at this; omega)
      refine ⟨rfl, ?_⟩
      refine ⟨_, rfl, _, rfl, _, rfl, p, _, rfl, hget, t.2.2, _, rfl, .inl (SqL.of (sG2 _ _ (lists t htm))), rfl, flat_strs _, _, rfl, ?_⟩
      show if inV (V.str x) (t.2.1.map V.str) = true then _ else _
      rw [inV_str]
      by_cases c : x ∈ t.2.1
      · rw [if_pos (decide_eq_true c)] at etk
        refine yes (decide_eq_true c) ⟨_, rfl, _, hD2, by rw [List.length_map, List.length_map, sizeLine_eq]; omega, ?_, fun y o z => (upd_ne (ne_of_none z nD)).trans (sG2 _ _ z)⟩
        rw [upd_same, etk, List.map_append, List.map_append]
        rfl
      · rw [if_neg (by rw [decide_eq_false c]; nofun), List.append_nil] at etk
        refine no (decide_eq_false c) ⟨?_, sG2⟩
        rw [etk]
        exact hD2
    · rintro G ⟨hD, sG⟩
      have sB := back G sG
      have npD : D ≠ p := (ne_of_none fd0 nD).symm
      rw [List.take_of_length_le (by unfold kvT; rw [List.length_map]; exact Nat.le_refl _)] at hD
      have hD2 : upd G p (.dK (kvT T)) D = some (.lst (((T.filter fun t => decide (x ∈ t.2.1)).map (·.1)).map V.str)) := (upd_ne npD).trans hD
      refine ⟨sG _ _ fd0, ?_⟩
      dsimp only
      generalize upd G p (.dK (kvT T)) = G1 at sB hD2 ⊢
      refine ⟨_, rfl, (by show 0 ≤ sizeLine; decide), fun l nl => ?_⟩
      generalize e_G2 : upd _ l _ = G2
      have s_l := new_same e_G2 nl
      have f_l := new_at e_G2
      clear e_G2
      have hD2 := hD2.mv s_l
      have sB := sB.mv s_l
      by_cases hx : x ∈ allL (lT T)
      · obtain ⟨e, he, hxe⟩ := mem_all.mp hx
        obtain ⟨t0, ht0, rfl⟩ := List.mem_map.mp he
        have hxe : x ∈ t0.2.1 := hxe
        have eF : (T.filter fun t => decide (x ∈ t.2.1)).map (·.1) = [t0.1] := by
          have km : ∀ t ∈ T, t.1 ∈ keysL (lT T) := fun t ht => List.mem_map.mpr ⟨_, List.mem_map.mpr ⟨t, ht, rfl⟩, rfl⟩
          have sub : ((T.filter fun t => decide (x ∈ t.2.1)).map (·.1)).Sublist (keysL (lT T)) := by
            have : keysL (lT T) = T.map (·.1) := by unfold keysL lT; rw [List.map_map]; rfl
            rw [this]
            exact List.filter_sublist.map _
          refine one_of (sub.nodup wf.kn) (fun z hz => ?_) (List.mem_map.mpr ⟨t0, List.mem_filter.mpr ⟨ht0, decide_eq_true hxe⟩, rfl⟩)
          obtain ⟨t, ht, rfl⟩ := List.mem_map.mp hz
          obtain ⟨h1, h2⟩ := List.mem_filter.mp ht
          have e := wf_one wf.rn (List.mem_map.mpr ⟨t, h1, rfl⟩) he (of_decide_eq_true h2) hxe
          exact congrArg (fun e : Str × List Str => e.1) e
        rw [eF] at hD2
        have hk1 : isNm t0.1 = true := hkn _ (List.mem_map.mpr ⟨_, he, rfl⟩)
        refine ⟨_, _, .lst (SqL.of hD2) (strs_dp [t0.1]), .lst (SqL.of f_l) .nil, nmsSh fun z hz => by rw [List.mem_singleton.mp hz]; exact hk1, rfl, _, rfl, yes rfl ⟨_, rfl, D, _, 0, _, rfl, rfl, SqL.of hD2, rfl, ?_⟩⟩
        unfold hoL at q
        rw [if_pos hx, home_of wf he hxe] at q
        exact q _ sB
      · have eF : (T.filter fun t => decide (x ∈ t.2.1)).map (·.1) = [] := by
          rw [List.filter_eq_nil_iff.mpr fun t ht h2 => hx (mem_all.mpr ⟨_, List.mem_map.mpr ⟨t, ht, rfl⟩, of_decide_eq_true h2⟩)]
          rfl
        rw [eF] at hD2
        refine ⟨_, _, .lst (SqL.of hD2) .nil, .lst (SqL.of f_l) .nil, rfl, rfl, _, rfl, no rfl ?_⟩
        unfold hoL at q
        rw [if_neg hx] at q
        exact q _ sB
end
end K11

set_option Elab.async false
set_option maxRecDepth 100000
set_option maxHeartbeats 2000000
namespace K11
open PySem PySem.Spec PyProof.Rows L2 He KX StX
abbrev sCl : Stmt := top 30
-- ["bag", "lists", "left", "op", "rows", "one", "home", "mate", "goal", "others", "place", "row"]
/-- _law_call -/
def spCl : Sp := fun vs H Q _ => ∃ (b p F : Addr) (n : Int) (T : TT) (zs : List Str) (o : Str × List Str) (m : Nat), vs = [.ref b, .ref p, .ref F, .str o.1] ∧ o ∈ args ∧ Bag H b n ∧ n < 700000 ∧ p ≠ b ∧ F ≠ b ∧ (∀ t ∈ T, t.2.2 ≠ b) ∧ DT H p T ∧ Br m (lT T) ∧ m ≤ 10 ∧ H F = some (.lst (zs.map V.str)) ∧ zs.length ≤ 100 ∧ (∀ z ∈ zs, isNm z = true ∧ z ∉ allL (lT T)) ∧ (o.1 ∈ newL → 0 < zs.length) ∧
  (o.1 ∉ newL → allL (lT T) = [] → ∀ G, Kept b H G → Bag G b (n + 20) → Q .non G) ∧
  ∀ (R : Addr) (x : Str) (y to : Option Str) (k : Option Nat) (G : Hp), R ≠ b → Kept b H G → Bag G b (n + 20) → G R = some (.tup [.str x, oV y, oV to, oI k]) → Call o (lT T) x y to k → (o.1 ∈ newL → x ∈ zs) → (∀ t, to = some t → isNm t = true) → Q (.ref R) G
/-- what stands within -/
structure Cn (b p F : Addr) (H G : Hp) (T : TT) (zs : List Str) (m : Int) : Prop where
  bag : Bag G b m
  dt : DT G p T
  lf : G F = some (.lst (zs.map V.str))
  kept : Kept b H G
  pb : p ≠ b
  fb : F ≠ b
  tb : ∀ t ∈ T, t.2.2 ≠ b
section
variable {b p F : Addr} {H G G' : Hp} {T : TT} {zs : List Str} {m m' : Int}
theorem Cn.keep (h : Cn b p F H G T zs m) (k : Kept b G G') (hB : Bag G' b m') : Cn b p F H G' T zs m' :=
  ⟨hB, h.dt.kept k h.pb h.tb, k _ _ h.fb h.lf, h.kept.trans k, h.pb, h.fb, h.tb⟩
theorem Cn.draw (h : Cn b p F H G T zs m) (k : But b G G') (hB : Bag G' b m') : Cn b p F H G' T zs m' := h.keep k.kept hB
theorem Cn.same (h : Cn b p F H G T zs m) (s : Same G G') : Cn b p F H G' T zs m := by
  obtain ⟨d, m, c, e, r⟩ := h.bag
  exact h.keep (fun x o _ e => s _ _ e) ⟨d, m, c, s _ _ e, r⟩
theorem Cn.le (h : Cn b p F H G T zs m) (q : m ≤ m') : Cn b p F H G T zs m' := ⟨h.bag.mono q, h.dt, h.lf, h.kept, h.pb, h.fb, h.tb⟩
theorem Cn.dl (h : Cn b p F H G T zs m) : DL G p (lT T) := ⟨T, rfl, h.dt⟩
end
/-- the rows of a list that may be none -/
def rwO (L : LL) : Option Str → List Str
  | some t => rowsL L t
  | none => []
theorem is_non (y : Option Str) : (!decide (oV y = V.non)) = y.isSome := by cases y <;> rfl
section
variable {P : Program} {w : World} {K : PySem.W.Frag} {mg : Str → Option Value} {base : Heap}
theorem scCl : FnScope ["bag", "lists", "left", "op", "rows", "one", "home", "mate", "goal", "others", "place", "row"] ["bag", "lists", "left", "op"] (defScope sCl) := ⟨rfl, rfl, rfl, by decide +kernel, rfl, by decide +kernel, by decide +kernel⟩
theorem ok_cl {f fA fO fH fN fNd fD : Addr} {fd fdA fdO fdH fdN fdNd fdD : FuncData} (F : FnP K "_law_call" sCl f fd)
    (GA : FnOk P w K mg base CX0 1 fA fdA ["lists"] spAll) (bA : Binds K fdA ["lists"] []) (kA : PySem.W.keepIn K (.ref fA) = true) (gA : mg "_law_all" = some (.ref fA))
    (GO : FnOk P w K mg base CX0 2 fO fdO ["bag", "some"] (spOf K)) (bO : Binds K fdO ["bag", "some"] []) (kO : PySem.W.keepIn K (.ref fO) = true) (gO : mg "_law_of" = some (.ref fO))
    (GH : FnOk P w K mg base CX0 1 fH fdH ["lists", "row"] spHo) (bH : Binds K fdH ["lists", "row"] []) (kH : PySem.W.keepIn K (.ref fH) = true) (gH : mg "_law_home" = some (.ref fH))
    (GN : FnOk P w K mg base CX0 2 fN fdN ["bag"] spLName) (bN : Binds K fdN ["bag"] []) (kN : PySem.W.keepIn K (.ref fN) = true) (gN : mg "_law_name" = some (.ref fN))
    (GNd : FnOk P w K mg base CX0 1 fNd fdNd ["op"] spNd) (bNd : Binds K fdNd ["op"] []) (kNd : PySem.W.keepIn K (.ref fNd) = true) (gNd : mg "_law_needs" = some (.ref fNd))
    (GD : FnOk P w K mg base CX0 1 fD fdD ["bag", "many"] spDraw) (bD : Binds K fdD ["bag", "many"] []) (kD : PySem.W.keepIn K (.ref fD) = true) (gD : mg "_law_draw" = some (.ref fD))
    (n_sorted : mg "sorted" = none) (n_list : mg "list" = none) (n_len : mg "len" = none) :
    FnOk P w K mg base CX0 3 f fd ["bag", "lists", "left", "op"] spCl := by
  refine F.ok scCl (fun vs H Q E h => ?_) (fun cdv A outer s H vs Q E hr h => ?_)
  · obtain ⟨b, p, F, n, T, zs, o, m, rfl, _⟩ := h
    rfl
  · obtain ⟨b, p, F, n, T, zs, o, m, rfl, ho, hB, hn, pb, Fb, tb, hT, br, hm, hF, lz, hzs, hpos, qn, qs⟩ := h
    have nd := scCl.nd
    have hr1 := hr.mono (j := 1) (by decide)
    have hr2 := hr.mono (j := 2) (by decide)
    have hu64 := hr.units
    have hu : (A.deeper (envOfC "_law_call" (defScope sCl) s.heap.objs.size f cdv)).units + 1 < cLine := by have := hr.un; omega
    refine ⟨_, PSs.nox (pss_cons (ps_set (i := 4) nd rfl (Or.inl rfl) (pe_call GA hr1 (by rfl) gA kA bA .nil pass0 (pa_cons (pv 1) pa_nil)))
(pss_cons (ps_if (PW.pt (pw_and (pt_cmpR op_notIn_seq (pv 3) (pe_tup (pa_cons pe_str (pa_cons pe_str pa_nil))) rfl) (pw_and1 (pt_cmpR (op_eqD hu64) (pv 4) (pe_lst pa_nil) (nomark _)))))
(pss_one (ps_ret pe_non))
pss_nil)
(pss_cons (ps_set (i := 5) nd rfl (Or.inr rfl) (pe_ifExp (pt_cmpR op_in_seq (pv 3) (pe_tup (pa_cons pe_str (pa_cons pe_str pa_nil))) rfl) (pe_call GO hr2 (by rfl) gO kO bO .nil pass0 (pa_cons (pv 0) (pa_cons (pv 2) pa_nil))) (pe_call GO hr2 (by rfl) gO kO bO .nil pass0 (pa_cons (pv 0) (pa_cons (pv 4) pa_nil)))))
(pss_cons (ps_set (i := 6) nd rfl (Or.inl rfl) (pe_call GH hr1 (by rfl) gH kH bH .nil pass0 (pa_cons (pv 1) (pa_cons (pv 5) pa_nil))))
(pss_cons (ps_set (i := 7) nd rfl (Or.inl rfl) (pe_ifExp (pt_cmpR op_eq (pv 3) pe_str (nomark _)) (pe_call GO hr2 (by rfl) gO kO bO .nil pass0 (pa_cons (pv 0) (pa_cons (pe_lst (pa_cons (pe_call GO hr2 (by rfl) gO kO bO .nil pass0 (pa_cons (pv 0) (pa_cons (pv 4) pa_nil))) (pa_cons (pv 5) pa_nil))) pa_nil))) pe_non))
(pss_cons (ps_set (i := 8) nd rfl (Or.inl rfl) (pe_ifExp (pt_cmpR op_in_seq pe_str (pe_call GNd hr1 (by rfl) gNd kNd bNd .nil pass0 (pa_cons (pv 3) pa_nil)) rfl) (pe_call GO hr2 (by rfl) gO kO bO .nil pass0 (pa_cons (pv 0) (pa_cons (pe_op op_cat (pe_callB cr_sortedS (by rfl) n_sorted (by decide +kernel) (pa_cons (pe_callTy (call_listD rfl) (by rfl) n_list (by decide +kernel) (pa_cons (pv 1) pa_nil)) pa_nil)) (pe_lst (pa_cons (pe_call GN hr2 (by rfl) gN kN bN .nil pass0 (pa_cons (pv 0) pa_nil)) pa_nil))) pa_nil))) pe_non))
(pss_cons (ps_if (PW.pt (pw_and (pt_cmpR op_notN (pv 8) pe_non (nomark _)) (pw_and (pt_cmpR op_notN (pv 6) pe_non (nomark _)) (pw_and1 (pt_cmpR op_eq (pe_call GD hr1 (by rfl) gD kD bD .nil pass0 (pa_cons (pv 0) (pa_cons pe_int pa_nil))) pe_int (nomark _))))))
(pss_one (ps_set (i := 8) nd rfl (Or.inl rfl) (pv 6)))
pss_nil)
(pss_cons (ps_setLc (i := 9) (own := [("row", 11)]) (g := (gName 11))  rfl nd rfl rfl (sw_true rfl rfl rfl (by decide +kernel)) (pi_list (pe_bm PySem.F.plainAttrs_dict PySem.F.slot_dict_get PySem.F.type_dict_get (mt_getN hu) (pv 1) (pa_cons (pv 8) (pa_cons (pe_lst pa_nil) pa_nil)))) (blkOk_by (own := [("row", 11)]) (N := ["bag", "lists", "left", "op", "rows", "one", "home", "mate", "goal", "others", "place", "row"]) (sc := defScope sCl) (by decide +kernel)) (fun _ _ _ _ _ => (pg_name (i := 11) nd rfl (Or.inl rfl))) (fun _ _ _ _ _ => (pts_one (pt_cmpR op_ne (pv 11) (pv 5) (nomark _)))) (fun _ _ _ _ _ => (pv 11)))
(pss_cons (ps_set (i := 10) nd rfl (Or.inl rfl) pe_non)
(pss_cons (ps_if (pt_cmpR op_in_seq pe_str (pe_call GNd hr1 (by rfl) gNd kNd bNd .nil pass0 (pa_cons (pv 3) pa_nil)) rfl)
(pss_one (ps_set (i := 10) nd rfl (Or.inl rfl) (pe_call GO hr2 (by rfl) gO kO bO .nil pass0 (pa_cons (pv 0) (pa_cons (pe_lst (pa_cons pe_int (pa_cons (pe_op op_add (pe_callB call_len_seq (by rfl) n_len PySem.boot_len (pa_cons (pv 9) pa_nil)) pe_int) (pa_cons (pe_op op_add pe_int (pe_call GD hr1 (by rfl) gD kD bD .nil pass0 (pa_cons (pv 0) (pa_cons (pe_op op_add (pe_callB call_len_seq (by rfl) n_len PySem.boot_len (pa_cons (pv 9) pa_nil)) pe_int) pa_nil)))) pa_nil)))) pa_nil)))))
pss_nil)
(pss_one (ps_ret (pe_tup (pa_cons (pv 5) (pa_cons (pv 7) (pa_cons (pv 8) (pa_cons (pv 10) pa_nil))))))))))))))))), ?_⟩
    have few : (lT T).length < 64 := by have := br.few; omega
    refine ⟨_, rfl, p, lT T, rfl, ⟨T, rfl, hT⟩, br.wf, few, by have := br.le; omega, fun Fa rs G1 nFa s1 hFa ndr memr => ?_⟩
    have Fab : Fa ≠ b := hB.ne nFa
    have lrs : rs.length ≤ 30 := by
      have : rs.Perm (allL (lT T)) := (List.perm_ext_iff_of_nodup ndr br.wf.rn).mpr memr
      rw [this.length_eq]; have := br.le; omega
    have nmr : ∀ z ∈ rs, isNm z = true := fun z hz => br.nm z ((memr z).mp hz)
    have cn : Cn b p F H H T zs n := ⟨hB, hT, hF, Kept.refl b H, pb, Fb, tb⟩
    have cn := cn.same s1
    dsimp only [gName, List.set]
    refine seq_by (fun σ G => σ = [some (.ref b), some (.ref p), some (.ref F), some (.str o.1), some (.ref Fa), none, none, none, none, none, none, none] ∧ Cn b p F H G T zs n ∧ G Fa = some (.lst (rs.map V.str)) ∧ (o.1 ∉ newL → rs ≠ [])) ?_ (fun nxt => ?_)
    · rintro σ G ⟨rfl, cn, hFa, hrs⟩
      refine seq_by (fun σ G => ∃ x, σ = [some (.ref b), some (.ref p), some (.ref F), some (.str o.1), some (.ref Fa), some (.str x), none, none, none, none, none, none] ∧ Cn b p F H G T zs (n + 1) ∧ G Fa = some (.lst (rs.map V.str)) ∧ (o.1 ∈ newL → x ∈ zs) ∧ (o.1 ∉ newL → x ∈ rs)) ?_ (fun nxt => ?_)
      · rintro σ G ⟨x, rfl, cn, hFa, hx1, hx2⟩
        refine ⟨_, rfl, _, rfl, p, lT T, x, rfl, cn.dl, br.wf, few, br.kn, fun G2 s2 => ?_⟩
        have cn := cn.same s2
        have hFa := s2 _ _ hFa
        dsimp only [gName, List.set]
        refine seq_by (fun σ G => ∃ y, σ = [some (.ref b), some (.ref p), some (.ref F), some (.str o.1), some (.ref Fa), some (.str x), some (oV (hoL (lT T) x)), some (oV y), none, none, none, none] ∧ Cn b p F H G T zs (n + 3) ∧ (o.1 = "swap" → ∃ z, y = some z ∧ z ∈ allL (lT T)) ∧ (o.1 ≠ "swap" → y = none)) ?_ (fun nxt => ?_)
        · rintro σ G ⟨y, rfl, cn, hy1, hy2⟩
          refine seq_by (fun σ G => ∃ to, σ = [some (.ref b), some (.ref p), some (.ref F), some (.str o.1), some (.ref Fa), some (.str x), some (oV (hoL (lT T) x)), some (oV y), some (oV to), none, none, none] ∧ Cn b p F H G T zs (n + 13) ∧ (("to" : Str) ∈ o.2 → ∃ t, to = some t ∧ isNm t = true) ∧ (("to" : Str) ∉ o.2 → to = none)) ?_ (fun nxt => ?_)
          · rintro σ G ⟨to, rfl, cn, ht1, ht2⟩
            refine seq_by (fun σ G => ∃ to, σ = [some (.ref b), some (.ref p), some (.ref F), some (.str o.1), some (.ref Fa), some (.str x), some (oV (hoL (lT T) x)), some (oV y), some (oV to), none, none, none] ∧ Cn b p F H G T zs (n + 14) ∧ (("to" : Str) ∈ o.2 → ∃ t, to = some t ∧ isNm t = true) ∧ (("to" : Str) ∉ o.2 → to = none)) ?_ (fun nxt => ?_)
            · rintro σ G ⟨to, rfl, cn, ht1, ht2⟩
              refine ⟨_, rfl, .inr (.inr (.inl ⟨rfl, .inl ⟨_, cn.dt.at_⟩⟩)), _, rfl, (by show 0 ≤ sizeLine; decide), fun l6 nl6 => ?_⟩
              have cn := cn.same (same_put (o := .lst []) nl6)
              have h0 : upd G l6 (.lst []) l6 = some (.lst (([] : List Str).map V.str)) := upd_same
              generalize upd G l6 (.lst []) = G6 at cn h0 ⊢
              obtain ⟨a2, hget, ha⟩ : ∃ a2, ((oV to = V.non ∧ a2 = l6) ∨ ∃ k, oV to = kV k ∧ (valV (kvT T) k).getD (V.ref l6) = V.ref a2) ∧ G6 a2 = some (.lst ((rwO (lT T) to).map V.str)) := by
                cases to with
                | none => exact ⟨l6, .inl ⟨rfl, rfl⟩, h0⟩
                | some t =>
                  by_cases hk : t ∈ keysL (lT T)
                  · obtain ⟨e, he, rfl⟩ := List.mem_map.mp hk
                    obtain ⟨u, hu, rfl⟩ := List.mem_map.mp he
                    refine ⟨u.2.2, .inr ⟨.inr u.1, rfl, by rw [kv_val br.wf.kn hu]; rfl⟩, ?_⟩
                    show G6 u.2.2 = some (.lst ((rowsL (lT T) u.1).map V.str))
                    rw [rows_of br.wf.kn he]
                    exact cn.dt.all u hu
                  · refine ⟨l6, .inr ⟨.inr t, rfl, by rw [kv_none hk]; rfl⟩, ?_⟩
                    show G6 l6 = some (.lst ((rowsL (lT T) t).map V.str))
                    rw [rows_no hk]
                    exact h0
              have next : ∀ (Q' : VK), Q' (.ref a2) G6 → rGetN (.ref p) [oV to, .ref l6] G6 Q' := fun Q' q' => ⟨p, kvT T, oV to, .ref l6, rfl, rfl, .inl cn.dt.at_, by
                rcases hget with ⟨h1, h2⟩ | ⟨k, h1, h2⟩
                · exact .inl ⟨h1, h2 ▸ q'⟩
                · exact .inr ⟨k, h1, by rw [h2]; exact q'⟩⟩
              dsimp only [tNil]
              refine next _ ?_
              have lr2 : (rwO (lT T) to).length ≤ 30 := by
                cases to with
                | none => exact Nat.zero_le _
                | some t => exact Nat.le_trans (rows_le _ _) (by have := br.le; omega)
              refine ⟨a2, rfl, ⟨_, SqL.of ha⟩, fun D nD => ?_⟩
              refine lc_it (walk_list (K := K) (a := a2) (xs := (rwO (lT T) to).map V.str)) (fun j X => X D = some (.lst ((((rwO (lT T) to).take j).filter fun z => !decide (z = x)).map V.str)) ∧ Same G6 X) ⟨upd_same, same_put nD⟩ (fun j X _ h => SqL.of (h.2 _ _ ha)) ?_ ?_
              · rintro j v X' X hj ⟨hD, sX⟩ ⟨rfl, hv⟩
                obtain ⟨z, hz, rfl⟩ := Option.map_eq_some_iff.mp ((List.getElem?_map ..).symm.trans hv)
                have etk := flt_take (p := fun z => !decide (z = x)) hz
                have hle : (((rwO (lT T) to).take j).filter fun z => !decide (z = x)).length ≤ 30 := Nat.le_trans (List.length_filter_le ..) (Nat.le_trans (by rw [List.length_take]; omega) lr2)
                refine ⟨rfl, ?_⟩
                refine ⟨_, rfl, _, rfl, rfl, _, rfl, ?_⟩
                rw [str_dec]
                cases c : (!decide (z = x)) with
                | true =>
                  rw [c, if_pos rfl] at etk
                  refine yes rfl ⟨_, rfl, _, hD, by rw [List.length_map, sizeLine_eq]; omega, ?_, fun y o e => (upd_ne (ne_of_none e nD)).trans (sX _ _ e)⟩
                  rw [upd_same, etk, List.map_append]
                  rfl
                | false =>
                  rw [c, if_neg nofun, List.append_nil] at etk
                  refine no rfl ⟨?_, sX⟩
                  rw [etk]
                  exact hD
              rintro X ⟨hD, sX⟩
              rw [List.length_map, List.take_length] at hD
              have cn := cn.same sX
              have lf : ((rwO (lT T) to).filter fun z => !decide (z = x)).length ≤ 30 := Nat.le_trans (List.length_filter_le ..) lr2
              dsimp only [gName, List.set]
              refine seq_by (fun σ G => σ = [some (.ref b), some (.ref p), some (.ref F), some (.str o.1), some (.ref Fa), some (.str x), some (oV (hoL (lT T) x)), some (oV y), some (oV to), some (.ref D), some .non, none] ∧ G = X) ?_ (fun nxt => nxt _ _ ⟨rfl, rfl⟩)
              rintro σ G ⟨rfl, rfl⟩
              refine seq_by (fun σ G => ∃ k, σ = [some (.ref b), some (.ref p), some (.ref F), some (.str o.1), some (.ref Fa), some (.str x), some (oV (hoL (lT T) x)), some (oV y), some (oV to), some (.ref D), some (oI k), none] ∧ Cn b p F H G T zs (n + 16) ∧ (("k" : Str) ∈ o.2 → ∃ j, k = some j ∧ 1 ≤ j ∧ j ≤ ((rwO (lT T) to).filter fun z => !decide (z = x)).length + 1) ∧ (("k" : Str) ∉ o.2 → k = none)) ?_ (fun nxt => ?_)
              · rintro σ G ⟨k, rfl, cn, hk1, hk2⟩
                refine ⟨_, rfl, _, rfl, _, rfl, _, rfl, (by show 4 ≤ sizeLine; decide), fun R nR => ?_⟩
                have Rb := cn.bag.ne nR
                have cn := cn.same (same_put (o := .tup [.str x, oV y, oV to, oI k]) nR)
                refine qs R x y to k _ Rb cn.kept (cn.bag.mono (by omega)) upd_same ?_ hx1 fun t e => ?_
                · refine br.call hm ho ?_ ?_ ?_ ?_
                  · have hx0 : ("x" : Str) ∈ o.2 := arg_x o ho
                    by_cases hN : o.1 ∈ newL
                    · exact fit_new hx0 (by decide) (by decide) hN (hzs x (hx1 hN)).1 (hzs x (hx1 hN)).2
                    · exact fit_x hx0 (by decide) (by decide) hN ((memr x).mp (hx2 hN))
                  · by_cases c : o.1 = "swap"
                    · obtain ⟨z, rfl, hz⟩ := hy1 c
                      exact fit_x (arg_y o ho c) (by decide) (by decide) (by rw [c]; decide) hz
                    · rw [hy2 c]
                      exact fit_no (by intro q; exact c ((by decide +kernel : ∀ o ∈ args, ("y" : Str) ∈ o.2 → o.1 = "swap") o ho q))
                  · by_cases c : ("to" : Str) ∈ o.2
                    · obtain ⟨t, rfl, nt⟩ := ht1 c
                      exact fit_to c nt
                    · rw [ht2 c]
                      exact fit_no c
                  · by_cases c : ("k" : Str) ∈ o.2
                    · obtain ⟨j, rfl, j1, j2⟩ := hk1 c
                      obtain ⟨t, rfl, nt⟩ := ht1 ((by decide +kernel : ∀ o ∈ args, ("k" : Str) ∈ o.2 → ("to" : Str) ∈ o.2) o ho c)
                      exact fit_k c j1 (by rw [lp_eq br.wf.kn]; exact j2)
                    · rw [hk2 c]
                      exact fit_no c
                · subst e
                  by_cases c : ("to" : Str) ∈ o.2
                  · obtain ⟨t', e, nt⟩ := ht1 c
                    injection e with e
                    rw [e]; exact nt
                  · cases ht2 c
              refine ⟨_, rfl, o, ho, rfl, fun t Gt nt st hTt => ?_⟩
              have cn := cn.same st
              have hD := st _ _ hD
              refine ⟨t, _, rfl, .inr (SqT.of hTt), rfl, flat_strs o.2, _, rfl, ?_⟩
              show if inV (V.str "k") (o.2.map V.str) = true then _ else _
              rw [inV_str]
              by_cases c : ("k" : Str) ∈ o.2
              · refine yes (decide_eq_true c) ⟨_, rfl, _, rfl, D, _, rfl, .inl (SqL.of hD), _, _, rfl, rfl, _, rfl, _, rfl, D, _, rfl, .inl (SqL.of hD), _, _, rfl, rfl, b, _, _, rfl, cn.bag, by omega, by rw [List.length_map]; omega, by rw [List.length_map]; omega, fun r G7 r0 r1 bt hB7 => ⟨_, _, rfl, rfl, (by show 3 ≤ sizeLine; decide), fun l nl => ?_⟩⟩
                rw [List.length_map] at r1
                have cn := cn.draw bt hB7
                have lb := cn.bag.ne nl
                have cn := cn.same (same_put (o := .lst [V.int 1, V.int ((((((rwO (lT T) to).filter fun z => !decide (z = x)).map V.str).length : Nat) : Int) + 1), V.int (1 + r)]) nl)
                refine ⟨b, l, _, _, rfl, cn.bag, by omega, lb, SqL.of upd_same, (by show 0 < 3; decide), (by show 3 ≤ 1000; decide), fun j v G8 hv bt8 hB8 => ?_⟩
                obtain ⟨k, j1, j2, rfl⟩ : ∃ k : Nat, 1 ≤ k ∧ k ≤ ((rwO (lT T) to).filter fun z => !decide (z = x)).length + 1 ∧ v = .int k := by
                  match j, hv with
                  | 0, h => exact ⟨1, by omega, by omega, (Option.some.inj h).symm⟩
                  | 1, h => exact ⟨((rwO (lT T) to).filter fun z => !decide (z = x)).length + 1, by omega, by omega, (Option.some.inj h).symm.trans (by rw [List.length_map]; rfl)⟩
                  | 2, h => exact ⟨(1 + r).toNat, by omega, by omega, (Option.some.inj h).symm.trans (by rw [show (((1 + r).toNat : Nat) : Int) = 1 + r by omega])⟩
                  | n + 3, h => exact nomatch h
                exact nxt _ _ ⟨some k, rfl, (cn.draw bt8 hB8).le (by omega), fun _ => ⟨k, rfl, j1, j2⟩, fun q => absurd c q⟩
              · exact no (decide_eq_false c) (nxt _ _ ⟨none, rfl, cn.le (by omega), fun q => absurd q c, fun _ => rfl⟩)
            · refine ⟨_, rfl, rfl, _, rfl, ?_⟩
              rw [is_non]
              cases et : to with
              | none => subst et; exact no rfl (no rfl (nxt _ _ ⟨none, rfl, cn.le (by omega), ht1, ht2⟩))
              | some t =>
                subst et
                refine yes rfl ⟨_, rfl, rfl, _, rfl, ?_⟩
                rw [is_non]
                by_cases hx : x ∈ allL (lT T)
                · have eh : hoL (lT T) x = some (homeL (lT T) x) := if_pos hx
                  refine yes (by rw [eh]; rfl) ⟨_, rfl, b, _, 2, rfl, cn.bag, by omega, by decide, by decide, fun r G2 r0 r1 bt hB2 => ⟨rfl, _, rfl, ?_⟩⟩
                  have cn := cn.draw bt hB2
                  refine ite2' (fun _ => ⟨_, rfl, nxt _ _ ⟨hoL (lT T) x, rfl, cn.le (by omega), fun _ => ⟨_, eh, br.kn _ (in_home br.wf hx).2.2.1⟩, fun q => by cases ht2 q⟩⟩) (fun _ => nxt _ _ ⟨some t, rfl, cn.le (by omega), ht1, ht2⟩)
                · have eh : hoL (lT T) x = none := if_neg hx
                  exact no (by rw [eh]; rfl) (no rfl (nxt _ _ ⟨some t, rfl, cn.le (by omega), ht1, ht2⟩))
          · refine ⟨_, rfl, o, ho, rfl, fun t Gt nt st hTt => ?_⟩
            have cn := cn.same st
            refine ⟨t, _, rfl, .inr (SqT.of hTt), rfl, flat_strs o.2, _, rfl, ?_⟩
            show if inV (V.str "to") (o.2.map V.str) = true then _ else _
            rw [inV_str]
            by_cases c : ("to" : Str) ∈ o.2
            · have hk : (kvT T).map (fun kv => kV kv.1) = (keysL (lT T)).map V.str := by
                unfold kvT keysL lT
                rw [List.map_map, List.map_map, List.map_map]
                rfl
              have lks : (keysL (lT T)).length ≤ 14 := by have := br.few; rw [len_keys]; omega
              refine yes (decide_eq_true c) ⟨_, rfl, _, rfl, p, _, rfl, .inl cn.dt.at_, fun l nl => ?_⟩
              rw [hk]
              have cn := cn.same (same_put (o := .lst ((keysL (lT T)).map V.str)) nl)
              refine ⟨l, keysL (lT T), rfl, SqL.of upd_same, by omega, fun ys s1 perm _ ns1 => ?_⟩
              have s1b := cn.bag.ne ns1
              have cn := cn.same (same_put (o := .lst (ys.map V.str)) ns1)
              have hs1 : upd (upd Gt l (.lst ((keysL (lT T)).map V.str))) s1 (.lst (ys.map V.str)) s1 = some (.lst (ys.map V.str)) := upd_same
              generalize upd (upd Gt l (.lst ((keysL (lT T)).map V.str))) s1 (.lst (ys.map V.str)) = G3 at cn hs1 ⊢
              refine ⟨_, rfl, b, _, rfl, cn.bag, by omega, fun nz G4 hnz k4 hB4 => ⟨(by show 1 ≤ sizeLine; decide), fun l3 nl3 => ?_⟩⟩
              have hs1 := k4 _ _ s1b hs1
              have cn := cn.keep k4 hB4
              have cn := cn.same (same_put (o := .lst [V.str nz]) nl3)
              have hs1 := (upd_ne (o := .lst [V.str nz]) (ne_of_none hs1 nl3)).trans hs1
              have lys : ys.length ≤ 14 := by rw [perm.length_eq]; exact lks
              refine ⟨s1, l3, _, _, rfl, rfl, hs1, upd_same, by rw [List.length_map, sizeLine_eq]; show ys.length + 1 ≤ _; omega, fun cc nc => ?_⟩
              have cb := cn.bag.ne nc
              have cn := cn.same (same_put (o := .lst (ys.map V.str ++ [V.str nz])) nc)
              refine ⟨b, cc, _, _, rfl, cn.bag, by omega, cb, SqL.of upd_same, by rw [List.length_append]; show 0 < _ + 1; omega, by rw [List.length_append, List.length_map]; show _ + 1 ≤ _; omega, fun j v G6 hv bt hB6 => ?_⟩
              obtain ⟨t2, nt2, rfl⟩ : ∃ t2, isNm t2 = true ∧ v = .str t2 := by
                rcases List.mem_append.mp (List.mem_of_getElem? hv) with h | h
                · obtain ⟨t, ht, rfl⟩ := List.mem_map.mp h
                  exact ⟨t, br.kn t (perm.mem_iff.mp ht), rfl⟩
                · exact ⟨nz, hnz, List.mem_singleton.mp h⟩
              exact nxt _ _ ⟨some t2, rfl, (cn.draw bt hB6).le (by omega), fun _ => ⟨t2, rfl, nt2⟩, fun q => absurd c q⟩
            · exact no (decide_eq_false c) (nxt _ _ ⟨none, rfl, cn.le (by omega), fun q => absurd q c, fun _ => rfl⟩)
        · refine ⟨_, rfl, rfl, _, rfl, ?_⟩
          by_cases c : o.1 = "swap"
          · have hN : o.1 ∉ newL := by rw [c]; decide
            have hxr := hx2 hN
            refine yes (decide_eq_true (congrArg V.str c)) ⟨_, rfl, _, rfl, _, rfl, b, Fa, _, _, rfl, cn.bag, by omega, Fab, SqL.of hFa, by rw [List.length_map]; exact List.length_pos_iff.mpr (List.ne_nil_of_mem hxr), by rw [List.length_map]; omega, fun j v G3 hv bt hB3 => ⟨_, rfl, (by show 2 ≤ sizeLine; decide), fun l nl => ?_⟩⟩
            obtain ⟨z, hz, rfl⟩ := Option.map_eq_some_iff.mp ((List.getElem?_map ..).symm.trans hv)
            have cn := cn.draw bt hB3
            have lb := cn.bag.ne nl
            have cn := cn.same (same_put (o := .lst [V.str z, V.str x]) nl)
            refine ⟨b, l, _, _, rfl, cn.bag, by omega, lb, SqL.of upd_same, (by show 0 < 2; decide), (by show 2 ≤ 1000; decide), fun j2 v2 G4 hv2 bt2 hB4 => ?_⟩
            obtain ⟨y, hy, rfl⟩ : ∃ y, y ∈ allL (lT T) ∧ v2 = .str y := by
              match j2, hv2 with
              | 0, h => exact ⟨z, (memr z).mp (List.mem_of_getElem? hz), (Option.some.inj h).symm⟩
              | 1, h => exact ⟨x, (memr x).mp hxr, (Option.some.inj h).symm⟩
              | n + 2, h => exact nomatch h
            exact nxt _ _ ⟨some y, rfl, (cn.draw bt2 hB4).le (by omega), fun _ => ⟨y, rfl, hy⟩, fun q => absurd c q⟩
          · exact no (decide_eq_false fun z => c (by injection z)) (nxt _ _ ⟨none, rfl, cn.le (by omega), fun q => absurd q c, fun _ => rfl⟩)
      · refine ⟨_, rfl, (by show 2 ≤ sizeLine; decide), fun T1 nT1 => ?_⟩
        have cn := cn.same (same_put (o := .tup [V.str "put", V.str "add"]) nT1)
        have hFa := (upd_ne (o := .tup [V.str "put", V.str "add"]) (ne_of_none hFa nT1)).trans hFa
        refine ⟨T1, _, rfl, .inr (SqT.of upd_same), rfl, flat_strs newL, _, rfl, ?_⟩
        show if inV (V.str o.1) (newL.map V.str) = true then _ else _
        rw [inV_str]
        by_cases hN : o.1 ∈ newL
        · refine yes (decide_eq_true hN) ⟨_, rfl, _, rfl, b, F, _, _, rfl, cn.bag, by omega, Fb, SqL.of cn.lf, by rw [List.length_map]; exact hpos hN, by rw [List.length_map]; omega, fun j v G2 hv bt hB2 => ?_⟩
          obtain ⟨x, hx, rfl⟩ := Option.map_eq_some_iff.mp ((List.getElem?_map ..).symm.trans hv)
          exact nxt _ _ ⟨x, rfl, cn.draw bt hB2, (bt _ Fab).trans hFa, fun _ => List.mem_of_getElem? hx, fun q => absurd hN q⟩
        · refine no (decide_eq_false hN) ⟨_, rfl, _, rfl, b, Fa, _, _, rfl, cn.bag, by omega, Fab, SqL.of hFa, by rw [List.length_map]; exact List.length_pos_iff.mpr (hrs hN), by rw [List.length_map]; omega, fun j v G2 hv bt hB2 => ?_⟩
          obtain ⟨x, hx, rfl⟩ := Option.map_eq_some_iff.mp ((List.getElem?_map ..).symm.trans hv)
          exact nxt _ _ ⟨x, rfl, cn.draw bt hB2, (bt _ Fab).trans hFa, fun q => absurd q hN, fun _ => List.mem_of_getElem? hx⟩
    · refine ⟨_, rfl, (by show 2 ≤ sizeLine; decide), fun T1 nT1 => ?_⟩
      have cn := cn.same (same_put (o := .tup [V.str "put", V.str "add"]) nT1)
      have hFa := (upd_ne (o := .tup [V.str "put", V.str "add"]) (ne_of_none hFa nT1)).trans hFa
      refine ⟨T1, _, rfl, .inr (SqT.of upd_same), rfl, flat_strs newL, _, rfl, ?_⟩
      show if (!inV (V.str o.1) (newL.map V.str)) = true then _ else _
      rw [inV_str]
      by_cases hN : o.1 ∈ newL
      · exact no (by rw [decide_eq_true hN]; rfl) (no rfl (nxt _ _ ⟨rfl, cn, hFa, fun q => absurd hN q⟩))
      · refine yes (by rw [decide_eq_false hN]; rfl) ⟨_, rfl, (by show 0 ≤ sizeLine; decide), fun l nl => ?_⟩
        have cn := cn.same (same_put (o := .lst []) nl)
        have hFa := (upd_ne (o := .lst []) (ne_of_none hFa nl)).trans hFa
        refine ⟨_, _, .lst (SqL.of hFa) (strs_dp rs), .lst (SqL.of upd_same) .nil, nmsSh nmr, rfl, _, rfl, ?_⟩
        by_cases c0 : rs = []
        · subst c0
          refine yes rfl (qn hN ?_ _ cn.kept (cn.bag.mono (by omega)))
          exact List.eq_nil_iff_forall_not_mem.mpr fun z hz => by cases (memr z).mpr hz
        · exact no (by rw [show ((PyData.list (rs.map PyData.str)).eqv (PyData.list [])) = rs.isEmpty by cases rs <;> rfl]; cases rs <;> first | exact absurd rfl c0 | rfl) (nxt _ _ ⟨rfl, cn, hFa, fun _ => c0⟩)
end
end K11

set_option Elab.async false
set_option maxRecDepth 100000
set_option maxHeartbeats 1000000
/-! A dict of lists where a list is replaced by a new one; what the law's own board becomes. -/
namespace K11
open PySem PySem.Spec PyProof.Rows L2 He KX
def repT (k : Str) (r : List Str) (a : Addr) (T : TT) : TT := T.map fun u => if u.1 = k then (u.1, r, a) else u
theorem kv_rep {k : Str} {r : List Str} {a : Addr} {T : TT} (h : k ∈ keysL (lT T)) : putK (kvT T) (Sum.inr k : Key) (V.ref a) = kvT (repT k r a T) := by
  obtain ⟨e, he, rfl⟩ := List.mem_map.mp h
  obtain ⟨t, ht, rfl⟩ := List.mem_map.mp he
  unfold putK
  rw [if_pos]
  · unfold kvT repT
    rw [List.map_map, List.map_map]
    refine List.map_congr_left fun u _ => ?_
    show (if (Sum.inr u.1 : Key) = Sum.inr t.1 then (Sum.inr u.1, V.ref a) else (Sum.inr u.1, V.ref u.2.2)) = ((Sum.inr (if u.1 = t.1 then (u.1, r, a) else u).1 : Key), V.ref (if u.1 = t.1 then (u.1, r, a) else u).2.2)
    by_cases c : u.1 = t.1
    · rw [if_pos (by rw [c]), if_pos c]
    · rw [if_neg (fun q => c (by injection q)), if_neg c]
  · exact List.any_eq_true.mpr ⟨_, List.mem_map.mpr ⟨t, ht, rfl⟩, decide_eq_true rfl⟩
theorem l_rep {k : Str} {r : List Str} {a : Addr} {T : TT} : lT (repT k r a T) = atL k r (lT T) := by
  unfold lT repT atL
  rw [List.map_map, List.map_map]
  refine List.map_congr_left fun u _ => ?_
  show ((if u.1 = k then (u.1, r, a) else u).1, (if u.1 = k then (u.1, r, a) else u).2.1) = if u.1 = k then (u.1, r) else (u.1, u.2.1)
  by_cases c : u.1 = k
  · rw [if_pos c, if_pos c]
  · rw [if_neg c, if_neg c]
theorem mem_rep {k : Str} {r : List Str} {a : Addr} {T : TT} {t : Str × List Str × Addr} (h : t ∈ repT k r a T) : t ∈ T ∨ t = (k, r, a) := by
  obtain ⟨u, hu, rfl⟩ := List.mem_map.mp h
  by_cases c : u.1 = k
  · rw [if_pos c, c]; exact .inr rfl
  · rw [if_neg c]; exact .inl hu
theorem DT.ne {H : Hp} {q : Addr} {T : TT} (h : DT H q T) : ∀ t ∈ T, t.2.2 ≠ q := fun t ht e => by have := h.all t ht; rw [e, h.at_] at this; cases this
theorem DT.rep {H : Hp} {q : Addr} {T : TT} (h : DT H q T) {k : Str} {r : List Str} {a : Addr} (kn : (keysL (lT T)).Nodup) (ha : H a = some (.lst (r.map V.str))) (na : ∀ t ∈ T, t.2.2 ≠ a) : DT (upd H q (.dK (kvT (repT k r a T)))) q (repT k r a T) := by
  have aq : a ≠ q := fun e => by rw [e, h.at_] at ha; cases ha
  refine ⟨upd_same, fun t ht => ?_, ?_⟩
  · rcases mem_rep ht with ht | rfl
    · exact (upd_ne (h.ne t ht)).trans (h.all t ht)
    · exact (upd_ne aq).trans ha
  · unfold repT
    rw [List.map_map]
    have kn2 : (T.map (·.1)).Nodup := by
      have : keysL (lT T) = T.map (·.1) := by unfold keysL lT; rw [List.map_map]; rfl
      rwa [this] at kn
    have p1 := List.pairwise_map.mp kn2
    have p2 := List.pairwise_map.mp h.nd
    refine List.pairwise_map.mpr ((p1.and p2).imp_of_mem fun {u v} hu hv hh => ?_)
    show (if u.1 = k then (u.1, r, a) else u).2.2 ≠ (if v.1 = k then (v.1, r, a) else v).2.2
    by_cases c : u.1 = k
    · by_cases d : v.1 = k
      · exact absurd (c.trans d.symm) hh.1
      · rw [if_pos c, if_neg d]; exact fun e => na v hv e.symm
    · by_cases d : v.1 = k
      · rw [if_neg c, if_pos d]; exact na u hu
      · rw [if_neg c, if_neg d]; exact hh.2
theorem DT.app {H : Hp} {q : Addr} {T : TT} (h : DT H q T) {k : Str} {r : List Str} {a : Addr} (ha : H a = some (.lst (r.map V.str))) (na : ∀ t ∈ T, t.2.2 ≠ a) : DT (upd H q (.dK (kvT (T ++ [(k, r, a)])))) q (T ++ [(k, r, a)]) := by
  have aq : a ≠ q := fun e => by rw [e, h.at_] at ha; cases ha
  refine ⟨upd_same, fun t ht => ?_, ?_⟩
  · rcases List.mem_append.mp ht with ht | ht
    · exact (upd_ne (h.ne t ht)).trans (h.all t ht)
    · rw [List.mem_singleton.mp ht]
      exact (upd_ne aq).trans ha
  · rw [List.map_append]
    refine List.nodup_append.mpr ⟨h.nd, by simp, fun b hb c hc => ?_⟩
    obtain ⟨u, hu, rfl⟩ := List.mem_map.mp hb
    rw [List.mem_singleton.mp hc]
    exact na u hu
/-- the law's dict: where it stands, all its lists are new -/
structure FD (H G : Hp) (q : Addr) (T : TT) (L : LL) : Prop where
  dt : DT G q T
  eq : lT T = L
  fr : ∀ t ∈ T, H t.2.2 = none
  sm : Same H G
  nq : H q = none
theorem FD.mv {H G G' : Hp} {q : Addr} {T : TT} {L : LL} (h : FD H G q T L) (s : Same G G') : FD H G' q T L := ⟨h.dt.mv s, h.eq, h.fr, h.sm.trans s, h.nq⟩
theorem low {H G : Hp} {x : Addr} (s : Same H G) (e : G x = none) : H x = none := by
  cases e2 : H x with
  | none => rfl
  | some o => rw [s _ _ e2] at e; cases e
theorem FD.set {H G : Hp} {q : Addr} {T : TT} {L : LL} (h : FD H G q T L) (kn : (keysL L).Nodup) (lt : L.length ≤ 1000) {k : Str} {r : List Str} {a : Addr} (ha : G a = some (.lst (r.map V.str))) (na : ∀ t ∈ T, t.2.2 ≠ a) (la : H a = none) :
    ∃ T2 G2, DPut G q (.str k) (.ref a) G2 ∧ FD H G2 q T2 (atL k r (openL k L)) := by
  have lq : (kvT T).length < sizeLine := by
    have e := congrArg List.length h.eq
    unfold lT at e
    rw [List.length_map] at e
    unfold kvT
    rw [List.length_map, sizeLine_eq]
    omega
  have knT : (keysL (lT T)).Nodup := by rw [h.eq]; exact kn
  by_cases hk : k ∈ keysL L
  · have hkT : k ∈ keysL (lT T) := by rw [h.eq]; exact hk
    refine ⟨repT k r a T, _, .inl ⟨_, .inr k, h.dt.at_, rfl, lq, rfl⟩, ?_⟩
    rw [kv_rep (r := r) hkT]
    refine ⟨h.dt.rep knT ha na, by rw [l_rep, h.eq, open_in hk], fun t ht => ?_, fun y o e => (upd_ne (ne_of_none e h.nq)).trans (h.sm _ _ e), h.nq⟩
    rcases mem_rep ht with ht | rfl
    · exact h.fr t ht
    · exact la
  · have hkT : k ∉ keysL (lT T) := by rw [h.eq]; exact hk
    refine ⟨T ++ [(k, r, a)], _, .inl ⟨_, .inr k, h.dt.at_, rfl, lq, rfl⟩, ?_⟩
    rw [putK_new _ (kv_none hkT), show kvT T ++ [((Sum.inr k : Key), V.ref a)] = kvT (T ++ [(k, r, a)]) by unfold kvT; rw [List.map_append]; rfl]
    refine ⟨h.dt.app ha na, ?_, fun t ht => ?_, fun y o e => (upd_ne (ne_of_none e h.nq)).trans (h.sm _ _ e), h.nq⟩
    · rw [lT_app, h.eq]
      unfold openL
      rw [if_neg hk]
      unfold atL
      rw [List.map_append]
      have e1 : L.map (fun e => if e.1 = k then (e.1, r) else e) = L := by
        conv => rhs; rw [← List.map_id L]
        refine List.map_congr_left fun e he => ?_
        rw [if_neg fun q => hk (List.mem_map.mpr ⟨e, he, q⟩)]
        rfl
      rw [e1]
      show L ++ [(k, r)] = L ++ [if k = k then (k, r) else (k, [])]
      rw [if_pos rfl]
    · rcases List.mem_append.mp ht with ht | ht
      · exact h.fr t ht
      · rw [List.mem_singleton.mp ht]; exact la
theorem cutTo (xs : List V) (i : Nat) : cutV xs none (some (i : Int)) = xs.take i := by
  unfold cutV
  rw [HT.sIx_none, HT.sIx_nat, List.drop_zero, Nat.sub_zero]
  exact List.take_eq_take_min.symm
theorem cutFrom (xs : List V) (i : Nat) : cutV xs (some (i : Int)) none = xs.drop i := by
  unfold cutV
  rw [HT.sIx_nat, show HT.sIx xs.length xs.length none = xs.length from rfl]
  rcases Nat.le_total i xs.length with h | h
  · rw [Nat.min_eq_left h]
    exact List.take_of_length_le (by rw [List.length_drop]; exact Nat.le_refl _)
  · rw [Nat.min_eq_right h, Nat.sub_self, List.take_zero, List.drop_eq_nil_of_le h]
theorem cutIn (zs : List Str) (i : Nat) (x : Str) : cutV (zs.map V.str) none (some (i : Int)) ++ [V.str x] ++ cutV (zs.map V.str) (some (i : Int)) none = (insR i x zs).map V.str := by
  rw [cutTo, cutFrom]
  unfold insR
  rw [List.map_append, List.map_append, List.map_take, List.map_drop]
  rfl
/-- two neighbours exchanged -/
def nbR (i : Nat) (r : List Str) : List Str := r.take i ++ [r.getD (i + 1) "", r.getD i ""] ++ r.drop (i + 2)
theorem nb_at (u v : List Str) (p q : Str) : nbR u.length (u ++ p :: q :: v) = u ++ q :: p :: v := by
  unfold nbR
  have e1 : (u ++ p :: q :: v).getD (u.length + 1) "" = q := by
    rw [List.getD_eq_getElem?_getD, List.getElem?_append_right (by omega)]
    simp
  have e2 : (u ++ p :: q :: v).getD u.length "" = p := by
    rw [List.getD_eq_getElem?_getD, List.getElem?_append_right (by omega)]
    simp
  have e3 : (u ++ p :: q :: v).drop (u.length + 2) = v := by
    rw [List.drop_append]
    simp
  rw [e1, e2, e3, List.take_left]
  simp
theorem nb_up {r : List Str} {x : Str} (h : x ∈ r) (nd : r.Nodup) (h0 : 0 < r.idxOf x) : nbR (r.idxOf x - 1) r = insR (r.idxOf x - 1) x (r.erase x) := by
  obtain ⟨a, b, e, ha, hb, e2, e3⟩ := row_at h nd
  have ei : r.idxOf x = a.length := by
    rw [e, List.idxOf_append, if_neg ha, List.idxOf_cons_self]; omega
  rw [ei] at h0 ⊢
  rcases List.eq_nil_or_concat a with rfl | ⟨u, y, rfl⟩
  · cases h0
  · rw [List.concat_eq_append] at *
    have l1 : (u ++ [y]).length - 1 = u.length := by rw [List.length_append]; rfl
    rw [l1, e3, e]
    have e4 : (u ++ [y]) ++ x :: b = u ++ y :: x :: b := by rw [List.append_assoc]; rfl
    rw [e4, nb_at, List.append_assoc, insR_app]
    rfl
theorem nb_down {r : List Str} {x : Str} (h : x ∈ r) (nd : r.Nodup) (h0 : r.idxOf x + 1 < r.length) : nbR (r.idxOf x) r = insR (min (r.idxOf x + 1) (r.erase x).length) x (r.erase x) := by
  obtain ⟨a, b, e, ha, hb, e2, e3⟩ := row_at h nd
  have ei : r.idxOf x = a.length := by
    rw [e, List.idxOf_append, if_neg ha, List.idxOf_cons_self]; omega
  rw [ei] at h0 ⊢
  cases b with
  | nil => rw [e, List.length_append] at h0; simp at h0
  | cons y v =>
    rw [e3, List.length_append, List.length_cons, show min (a.length + 1) (a.length + (v.length + 1)) = (a ++ [y]).length by rw [List.length_append, List.length_cons, List.length_nil]; omega, e, nb_at]
    rw [show a ++ y :: v = (a ++ [y]) ++ v by rw [List.append_assoc]; rfl, insR_app, List.append_assoc]
    rfl
theorem stay_up {r : List Str} {x : Str} (h : x ∈ r) (nd : r.Nodup) (h0 : r.idxOf x = 0) : r = insR (r.idxOf x - 1) x (r.erase x) := by
  have := insR_erase h nd
  rw [h0] at this ⊢
  exact this.symm
theorem stay_down {r : List Str} {x : Str} (h : x ∈ r) (nd : r.Nodup) (h0 : ¬ r.idxOf x + 1 < r.length) : r = insR (min (r.idxOf x + 1) (r.erase x).length) x (r.erase x) := by
  have l := List.idxOf_lt_length_iff.mpr h
  have := insR_erase h nd
  rw [List.length_erase_of_mem h, show min (r.idxOf x + 1) (r.length - 1) = r.idxOf x by omega]
  exact this.symm
theorem flt_er {r : List Str} (nd : r.Nodup) (x : Str) : r.filter (fun z => !decide (z = x)) = r.erase x := by
  rw [nd.erase_eq_filter]
  refine List.filter_congr fun z _ => ?_
  by_cases c : z = x
  · subst c; simp
  · simp [c]
/-- the first lists exchanged -/
def swI (x y : Str) (i : Nat) (L : LL) : LL := L.map fun e => if e.1 ∈ (keysL L).take i then (e.1, e.2.map (sw x y)) else e
theorem swI_0 (x y : Str) (L : LL) : swI x y 0 L = L := by
  unfold swI
  conv => rhs; rw [← List.map_id L]
  refine List.map_congr_left fun e _ => ?_
  rw [List.take_zero, if_neg List.not_mem_nil]
  rfl
theorem swI_all (x y : Str) (L : LL) : swI x y L.length L = swapL x y L := by
  unfold swI swapL
  refine List.map_congr_left fun e he => ?_
  rw [List.take_of_length_le (by rw [len_keys]; exact Nat.le_refl _), if_pos (show e.1 ∈ keysL L from List.mem_map.mpr ⟨e, he, rfl⟩)]
theorem swI_next {x y : Str} {i : Nat} {L : LL} (kn : (keysL L).Nodup) {e : Str × List Str} (h : L[i]? = some e) : atL e.1 (e.2.map (sw x y)) (swI x y i L) = swI x y (i + 1) L := by
  have hk : (keysL L)[i]? = some e.1 := by unfold keysL; rw [List.getElem?_map, h]; rfl
  unfold atL swI
  rw [List.map_map]
  refine List.map_congr_left fun u hu => ?_
  show (if (if u.1 ∈ (keysL L).take i then (u.1, u.2.map (sw x y)) else u).1 = e.1 then ((if u.1 ∈ (keysL L).take i then (u.1, u.2.map (sw x y)) else u).1, e.2.map (sw x y)) else (if u.1 ∈ (keysL L).take i then (u.1, u.2.map (sw x y)) else u)) = if u.1 ∈ (keysL L).take (i + 1) then (u.1, u.2.map (sw x y)) else u
  have e1 : (if u.1 ∈ (keysL L).take i then (u.1, u.2.map (sw x y)) else u).1 = u.1 := by split <;> rfl
  rw [e1, take_at hk]
  by_cases c : u.1 = e.1
  · obtain rfl := wf_key kn hu (List.mem_of_getElem? h) c
    rw [if_pos rfl, if_pos (List.mem_append_right _ (List.mem_singleton.mpr rfl))]
  · rw [if_neg c]
    by_cases d : u.1 ∈ (keysL L).take i
    · rw [if_pos d, if_pos (List.mem_append_left _ d)]
    · rw [if_neg d, if_neg fun q => (List.mem_append.mp q).elim d fun q => c (List.mem_singleton.mp q)]
theorem keys_swI (x y : Str) (i : Nat) (L : LL) : keysL (swI x y i L) = keysL L := by
  refine (List.map_map ..).trans (List.map_congr_left fun e _ => ?_)
  show (if e.1 ∈ (keysL L).take i then (e.1, e.2.map (sw x y)) else e).1 = e.1
  split <;> rfl
end K11

set_option Elab.async false
set_option maxRecDepth 100000
set_option maxHeartbeats 2000000
namespace K11
open PySem PySem.Spec PyProof.Rows L2 He KX StX
abbrev sAf : Stmt := top 31
-- ["lists", "op", "one", "mate", "goal", "place", "key", "found", "home", "rows", "at", "row"]
theorem if_two {c : Prop} [Decidable c] {a b : Option (Option V)} {F : V → Prop} {x y : V} (ha : a = some (some x)) (hb : b = some (some y)) (h : F (if c then x else y)) : if c then (∃ v, a = some (some v) ∧ F v) else ∃ v, b = some (some v) ∧ F v := by
  by_cases e : c
  · rw [if_pos e] at h ⊢
    exact ⟨_, ha, h⟩
  · rw [if_neg e] at h ⊢
    exact ⟨_, hb, h⟩
/-- _law_after -/
def spAf : Sp := fun vs H Q _ => ∃ (p : Addr) (T : TT) (o : Str × List Str) (x : Str) (y to : Option Str) (k : Option Nat), vs = [.ref p, .str o.1, .str x, oV y, oV to, oI k] ∧ DT H p T ∧ (lT T).length < 60 ∧ (allL (lT T)).length ≤ 60 ∧ (∀ k ∈ keysL (lT T), isNm k = true) ∧ Call o (lT T) x y to k ∧
  ∀ q G, H q = none → Same H G → DLF H G q (apL o.1 x y to k (lT T)) → Q (.ref q) G
section
variable {P : Program} {w : World} {K : PySem.W.Frag} {mg : Str → Option Value} {base : Heap}
theorem scAf : FnScope ["lists", "op", "one", "mate", "goal", "place", "key", "found", "home", "rows", "at", "row"] ["lists", "op", "one", "mate", "goal", "place"] (defScope sAf) := ⟨rfl, rfl, rfl, by decide +kernel, rfl, by decide +kernel, by decide +kernel⟩
theorem ok_af {f fH : Addr} {fd fdH : FuncData} (F : FnP K "_law_after" sAf f fd)
    (GH : FnOk P w K mg base CX0 1 fH fdH ["lists", "row"] spHo) (bH : Binds K fdH ["lists", "row"] []) (kH : PySem.W.keepIn K (.ref fH) = true) (gH : mg "_law_home" = some (.ref fH))
    (n_dict : mg "dict" = none) (n_list : mg "list" = none) (n_len : mg "len" = none) (n_int : mg "int" = none) :
    FnOk P w K mg base CX0 2 f fd ["lists", "op", "one", "mate", "goal", "place"] spAf := by
  refine F.ok scAf (fun vs H Q E h => ?_) (fun cdv A outer s H vs Q E hr h => ?_)
  · obtain ⟨p, T, o, x, y, to, k, rfl, _⟩ := h
    rfl
  · obtain ⟨p, T, o, x, y, to, k, rfl, hT, tl, al, hkn, cl, q⟩ := h
    have nd := scAf.nd
    have hr1 := hr.mono (j := 1) (by decide)
    have hu64 := hr.units
    have hu : (A.deeper (envOfC "_law_after" (defScope sAf) s.heap.objs.size f cdv)).units + 1 < cLine := by have := hr.un; omega
    have wf := cl.wf
    refine ⟨_, PSs.nox (pss_cons (ps_set (i := 7) nd rfl (Or.inl rfl) (pe_callTy (call_dictP rfl) (by rfl) n_dict (by decide +kernel) (pa_cons (pe_lock (pe_lc (own := [("key", 6)]) (g := (gName 6)) (tt := tYes) rfl nd (pi_keys (pv 0)) (blkOk_by (own := [("key", 6)]) (N := ["lists", "op", "one", "mate", "goal", "place", "key", "found", "home", "rows", "at", "row"]) (sc := defScope sAf) (by decide +kernel)) (fun _ _ _ _ _ => (pg_name (i := 6) nd rfl (Or.inl rfl))) (fun _ _ _ _ _ => pts_nil) (fun _ _ _ _ _ => (pe_tup (pa_cons (pv 6) (pa_cons (pe_callTy (show CallR _ _ (rLof K) from call_list_of) (by rfl) n_list (by decide +kernel) (pa_cons (pe_dget hu (pv 0) (pv 6) (fun _ _ => rfl)) pa_nil)) pa_nil)))))) pa_nil)))
(pss_cons (ps_set (i := 8) nd rfl (Or.inl rfl) (pe_call GH hr1 (by rfl) gH kH bH .nil pass0 (pa_cons (pv 0) (pa_cons (pv 2) pa_nil))))
(pss_cons (ps_if (pt_cmpR op_eq (pv 1) pe_str (nomark _))
(pss_cons (ps_lock (ps_for PassesOwn.never rfl (pi_keys (pv 0)) (pg_name (i := 6) nd rfl (Or.inl rfl))
(pss_one (ps_dput hu (pv 7) (pv 6) (pe_lc (own := [("row", 11)]) (g := (gName 11)) (tt := tYes) rfl nd (pi_list (pe_dget hu (pv 0) (pv 6) (fun _ _ => rfl))) (blkOk_by (own := [("row", 11)]) (N := ["lists", "op", "one", "mate", "goal", "place", "key", "found", "home", "rows", "at", "row"]) (sc := defScope sAf) (by decide +kernel)) (fun _ _ _ _ _ => (pg_name (i := 11) nd rfl (Or.inl rfl))) (fun _ _ _ _ _ => pts_nil) (fun _ _ _ _ _ => (pe_ifExp (pt_cmpR op_eq (pv 11) (pv 2) (nomark _)) (pv 3) (pe_ifExp (pt_cmpR op_eq (pv 11) (pv 3) (nomark _)) (pv 2) (pv 11))))) rfl))))
(pss_one (ps_ret (pv 7))))
pss_nil)
(pss_cons (ps_if (pt_cmpR op_in_seq (pv 1) (pe_tup (pa_cons pe_str (pa_cons pe_str pa_nil))) rfl)
(pss_cons (ps_set (i := 9) nd rfl (Or.inl rfl) (pe_dget hu (pv 7) (pv 8) (fun _ _ => rfl)))
(pss_cons (ps_set (i := 10) nd rfl (Or.inl rfl) (pe_op op_sub (pe_bm PySem.F.plainAttrs_list PySem.F.slot_list_index PySem.F.type_list_index mt_index (pv 9) (pa_cons (pv 2) pa_nil)) (pe_callTy call_int1 (by rfl) n_int (by decide +kernel) (pa_cons (pe_cmpR op_eq (pv 1) pe_str (nomark _)) pa_nil))))
(pss_cons (ps_if (pt_chain op_le op_lt pe_int (pv 10) (pe_op op_sub (pe_callB call_len_seq (by rfl) n_len PySem.boot_len (pa_cons (pv 9) pa_nil)) pe_int))
(pss_one (ps_dput hu (pv 7) (pv 8) (pe_op op_cat (pe_op op_cat (pe_slice sl_list (pv 9) po_none (po_some (pv 10))) (pe_lst (pa_cons (pe_ix ix_list (pv 9) (pe_op op_add (pv 10) pe_int) (fun _ _ => rfl)) (pa_cons (pe_ix ix_list (pv 9) (pv 10) (fun _ _ => rfl)) pa_nil)))) (pe_slice sl_list (pv 9) (po_some (pe_op op_add (pv 10) pe_int)) po_none)) rfl))
pss_nil)
(pss_one (ps_ret (pv 7))))))
pss_nil)
(pss_cons (ps_if (pt_cmpR op_notN (pv 8) pe_non (nomark _))
(pss_one (ps_dput hu (pv 7) (pv 8) (pe_lc (own := [("row", 11)]) (g := (gName 11))  rfl nd (pi_list (pe_dget hu (pv 7) (pv 8) (fun _ _ => rfl))) (blkOk_by (own := [("row", 11)]) (N := ["lists", "op", "one", "mate", "goal", "place", "key", "found", "home", "rows", "at", "row"]) (sc := defScope sAf) (by decide +kernel)) (fun _ _ _ _ _ => (pg_name (i := 11) nd rfl (Or.inl rfl))) (fun _ _ _ _ _ => (pts_one (pt_cmpR op_ne (pv 11) (pv 2) (nomark _)))) (fun _ _ _ _ _ => (pv 11))) rfl))
pss_nil)
(pss_cons (ps_if (pt_cmpR op_eq (pv 1) pe_str (nomark _))
(pss_one (ps_ret (pv 7)))
pss_nil)
(pss_cons (ps_set (i := 4) nd rfl (Or.inl rfl) (pe_ifExp (pt_cmpR op_isN (pv 4) pe_non (nomark _)) (pv 8) (pv 4)))
(pss_cons (ps_set (i := 9) nd rfl (Or.inl rfl) (pe_dget2 hu (pv 7) (pv 4) (pe_lst pa_nil) ⟨rfl, rfl, rfl, rfl⟩))
(pss_cons (ps_set (i := 10) nd rfl (Or.inl rfl) (pe_dget2 hu (pe_disp (pps_cons pe_str (pv 5) (pps_cons pe_str (pv 5) (pps_cons pe_str pe_int pps_nil))) rfl rfl (by decide) (by decide)) (pv 1) (pe_op op_add (pe_callB call_len_seq (by rfl) n_len PySem.boot_len (pa_cons (pv 9) pa_nil)) pe_int) ⟨rfl, rfl, rfl, rfl⟩))
(pss_cons (ps_dput hu (pv 7) (pv 4) (pe_op op_cat (pe_op op_cat (pe_slice sl_list (pv 9) po_none (po_some (pe_op op_sub (pv 10) pe_int))) (pe_lst (pa_cons (pv 2) pa_nil))) (pe_slice sl_list (pv 9) (po_some (pe_op op_sub (pv 10) pe_int)) po_none)) rfl)
(pss_one (ps_ret (pv 7))))))))))))), ?_⟩
    refine ⟨p, _, hT.at_, trivial, fun od => ?_⟩
    have fd0 : upd H p (.frz od (.dK (kvT T))) p = some (.frz od (.dK (kvT T))) := upd_same
    have back := fun G => frz_back (G := G) (od := od) hT.at_
    have lists : ∀ t ∈ T, upd H p (.frz od (.dK (kvT T))) t.2.2 = some (.lst (t.2.1.map V.str)) := fun t ht => (upd_ne (hT.ne t ht)).trans (hT.all t ht)
    have lowF : ∀ a, upd H p (.frz od (.dK (kvT T))) a = none → H a = none := fun a e => by
      by_cases c : a = p
      · subst c; rw [fd0] at e; cases e
      · rwa [upd_ne c] at e
    generalize upd H p (.frz od (.dK (kvT T))) = Hf at fd0 back lists lowF ⊢
    have tl2 : T.length < 60 := by have := tl; unfold lT at this; rwa [List.length_map] at this
    refine ⟨_, rfl, p, od, rfl, .inl ⟨_, fd0, fun D nD => ?_⟩⟩
    refine lc_it (walk_keys (d := p) (o := od) (kvs := kvT T)) (fun i G => ∃ (ps : List Addr) (U : TT), G D = some (.lst (ps.map V.ref)) ∧ Paired (fun p (kv : Key × V) => G p = some (.tup [kV kv.1, kv.2])) ps (kvT U) ∧ lT U = lT (T.take i) ∧ (∀ u ∈ U, G u.2.2 = some (.lst (u.2.1.map V.str)) ∧ Hf u.2.2 = none ∧ u.2.2 ≠ D) ∧ (U.map (·.2.2)).Nodup ∧ Same Hf G) ⟨[], [], upd_same, .nil, rfl, (fun _ h => nomatch h), List.nodup_nil, same_put nD⟩ (fun i G _ h => by obtain ⟨_, _, _, _, _, _, _, h⟩ := h; exact h _ _ fd0) ?_ ?_
    · rintro i v G' G2 hi ⟨ps, U, hD2, hP2, eU, hU, ndU, sG2⟩ ⟨rfl, key, val, hkv, rfl⟩
      obtain ⟨t, ht, ekv⟩ := Option.map_eq_some_iff.mp ((List.getElem?_map ..).symm.trans hkv)
      obtain ⟨rfl, rfl⟩ : Sum.inr t.1 = key ∧ V.ref t.2.2 = val := by injection ekv with e1 e2; exact ⟨e1, e2⟩
      have htm := List.mem_of_getElem? ht
      have hget : DGet G2 p (V.str t.1) (some (.ref t.2.2)) := .inl ⟨_, .inr t.1, .inr ⟨od, sG2 _ _ fd0⟩, rfl, (kv_val wf.kn htm).symm⟩
      have hl0 := sG2 _ _ (lists t htm)
      refine ⟨rfl, ?_⟩
      dsimp only [tYes]
      rw [if_pos rfl]
      refine ⟨_, rfl, _, rfl, _, rfl, p, _, rfl, hget, _, _, rfl, .inl (SqL.of hl0), fun l nl => ⟨(by show 2 ≤ sizeLine; decide), fun T3 nT3 => ?_⟩⟩
      have lD : l ≠ D := (ne_of_none hD2 nl).symm
      have lU : ∀ u ∈ U, u.2.2 ≠ l := fun u hu => ne_of_none (hU u hu).1 nl
      have lowl : Hf l = none := low sG2 nl
      have s1 := same_put (o := .lst (t.2.1.map V.str)) nl
      have h1 : upd G2 l (.lst (t.2.1.map V.str)) l = some (.lst (t.2.1.map V.str)) := upd_same
      generalize upd G2 l (.lst (t.2.1.map V.str)) = G3 at s1 h1 nT3 ⊢
      have s2 := same_put (o := .tup [kV (.inr t.1), V.ref l]) nT3
      have h2 : upd G3 T3 (.tup [kV (.inr t.1), V.ref l]) T3 = some (.tup [kV (.inr t.1), V.ref l]) := upd_same
      generalize upd G3 T3 (.tup [kV (.inr t.1), V.ref l]) = G4 at s2 h2 ⊢
      have hD4 := s2 _ _ (s1 _ _ hD2)
      have dD : ∀ t zs, G4 t = some (.tup zs) → t ≠ D := fun t zs e e2 => by
        rw [e2, hD4] at e
        cases e
      have hlp : ps.length ≤ 60 := by
        have e := Paired.length hP2
        have e2 := congrArg List.length eU
        unfold lT at e2
        rw [List.length_map, List.length_map, List.length_take] at e2
        unfold kvT at e
        rw [List.length_map] at e
        omega
      refine ⟨ps.map V.ref, hD4, (by rw [List.length_map, sizeLine_eq]; omega), ps ++ [T3], U ++ [(t.1, t.2.1, l)], ?_, ?_, ?_, fun u hu => ?_, ?_, fun x o e => ?_⟩
      · rw [upd_same, List.map_append]
        rfl
      · unfold kvT
        rw [List.map_append]
        exact pr_app (pr_imp (fun _ _ z => (upd_ne (dD _ _ (s2 _ _ (s1 _ _ z)))).trans (s2 _ _ (s1 _ _ z))) hP2) (.cons ((upd_ne (dD _ _ h2)).trans h2) .nil)
      · rw [lT_app, eU, take_at ht, lT_app]
        rfl
      · rcases List.mem_append.mp hu with hu | hu
        · obtain ⟨u1, u2, u3⟩ := hU u hu
          exact ⟨(upd_ne u3).trans (s2 _ _ (s1 _ _ u1)), u2, u3⟩
        · rw [List.mem_singleton.mp hu]
          exact ⟨(upd_ne lD).trans (s2 _ _ h1), lowl, lD⟩
      · rw [List.map_append]
        refine List.nodup_append.mpr ⟨ndU, by simp, fun a ha c hc => ?_⟩
        obtain ⟨u, hu, rfl⟩ := List.mem_map.mp ha
        rw [List.mem_singleton.mp hc]
        exact lU u hu
      · exact (upd_ne (ne_of_none e nD)).trans (s2 _ _ (s1 _ _ (sG2 _ _ e)))
    rintro G ⟨ps, U, hD, hP, eU, hU, ndU, sG⟩
    refine ⟨sG _ _ fd0, ?_⟩
    rw [List.take_of_length_le (by unfold kvT; rw [List.length_map]; exact Nat.le_refl _)] at eU
    have hb := back G sG
    have nDd : D ≠ p := fun e => by rw [e, fd0] at nD; cases nD
    have hD2 : upd G p (.dK (kvT T)) D = some (.lst (ps.map V.ref)) := (upd_ne nDd).trans hD
    have hP2 : Paired (fun a (kv : Key × V) => upd G p (.dK (kvT T)) a = some (.tup [kV kv.1, kv.2])) ps (kvT U) := pr_imp (fun x q z => (upd_ne (fun e => by rw [e, sG _ _ fd0] at z; cases z)).trans z) hP
    have hU2 : ∀ u ∈ U, upd G p (.dK (kvT T)) u.2.2 = some (.lst (u.2.1.map V.str)) ∧ H u.2.2 = none := fun u hu => by
      obtain ⟨u1, u2, u3⟩ := hU u hu
      exact ⟨(upd_ne fun e => by rw [e, fd0] at u2; cases u2).trans u1, lowF _ u2⟩
    generalize upd G p (.dK (kvT T)) = Ga at hb hD2 hP2 hU2 ⊢
    refine ⟨D, ps, _, rfl, SqL.of hD2, pr_imp (fun _ _ z => SqT.of z) hP2, fun r nr => ?_⟩
    have nk : ((kvT U).map (·.1)).Nodup := by
      have : (kvT U).map (·.1) = (keysL (lT U)).map fun k => (Sum.inr k : Key) := by
        unfold kvT keysL lT
        rw [List.map_map, List.map_map, List.map_map]
        rfl
      rw [this, eU]
      exact inr_nd wf.kn
    rw [mergeK_nil nk]
    have fd : FD H (upd Ga r (.dK (kvT U))) r U (lT T) := ⟨⟨upd_same, fun u hu => (upd_ne fun e => by have := (hU2 u hu).1; rw [e, nr] at this; cases this).trans (hU2 u hu).1, ndU⟩, eU, fun u hu => (hU2 u hu).2, hb.trans (same_put nr), low hb nr⟩
    generalize upd Ga r (.dK (kvT U)) = G1 at fd ⊢
    have rp : r ≠ p := (ne_of_none hT.at_ fd.nq).symm
    dsimp only [gName, List.set]
    refine ⟨_, rfl, _, rfl, p, lT T, x, rfl, ⟨T, rfl, hT.mv fd.sm⟩, wf, by omega, hkn, fun G2 s2 => ?_⟩
    have fd := fd.mv s2
    have fx := cl.fx
    have hx0 : ("x" : Str) ∈ o.2 := arg_x o cl.ho
    unfold FitV at fx
    rw [if_pos hx0, if_neg (by decide), if_neg (by decide)] at fx
    dsimp only [gName, List.set]
    refine ⟨_, rfl, rfl, _, rfl, ?_⟩
    by_cases c : o.1 = "swap"
    · have hN : o.1 ∉ newL := by rw [c]; decide
      rw [if_neg hN] at fx
      obtain ⟨x', ex, hx⟩ := fx
      obtain rfl : x = x' := by injection ex
      have fy := cl.fy
      unfold FitV at fy
      rw [if_pos (arg_y o cl.ho c), if_neg (by decide), if_neg (by decide), if_neg hN] at fy
      obtain ⟨z, ey, hz⟩ := fy
      obtain rfl : y = some z := by
        cases y with
        | none => cases ey
        | some y' => injection ey with e; rw [e]
      refine yes (decide_eq_true (congrArg V.str c)) ?_
      have hz0 : upd H p (.frz od (.dK (kvT T))) p = some (.frz od (.dK (kvT T))) := upd_same
      refine ⟨p, _, fd.sm _ _ hT.at_, trivial, fun od2 => ?_⟩
      have up : ∀ u ∈ U, u.2.2 ≠ p := fun u hu => (ne_of_none hT.at_ (fd.fr u hu)).symm
      have fdz : FD (upd H p (.frz od2 (.dK (kvT T)))) (upd G2 p (.frz od2 (.dK (kvT T)))) r U (swI x z 0 (lT T)) := ⟨⟨(upd_ne rp).trans fd.dt.at_, fun u hu => (upd_ne (up u hu)).trans (fd.dt.all u hu), fd.dt.nd⟩, by rw [swI_0]; exact fd.eq, fun u hu => (upd_ne (up u hu)).trans (fd.fr u hu), fun a w e => by
        by_cases q : a = p
        · subst q; rw [upd_same] at e ⊢; exact e
        · rw [upd_ne q] at e ⊢; exact fd.sm _ _ e, (upd_ne rp).trans fd.nq⟩
      have hz0 : upd H p (.frz od2 (.dK (kvT T))) p = some (.frz od2 (.dK (kvT T))) := upd_same
      have lz : ∀ t ∈ T, upd H p (.frz od2 (.dK (kvT T))) t.2.2 = some (.lst (t.2.1.map V.str)) := fun t ht => (upd_ne (hT.ne t ht)).trans (hT.all t ht)
      have hzn : ∀ a, a ≠ p → upd H p (.frz od2 (.dK (kvT T))) a = H a := fun a n => upd_ne n
      generalize upd G2 p (.frz od2 (.dK (kvT T))) = Gz at fdz ⊢
      generalize upd H p (.frz od2 (.dK (kvT T))) = Hz at fdz hz0 lz hzn
      refine ⟨_, rfl, p, od2, rfl, .inl ⟨_, fdz.sm _ _ hz0, ?_⟩⟩
      refine for_it (walk_keys (d := p) (o := od2) (kvs := kvT T)) (fun i σ G => ∃ y6 y11 U, σ = [some (.ref p), some (.str o.1), some (.str x), some (oV (some z)), some (oV to), some (oI k), y6, some (.ref r), some (oV (hoL (lT T) x)), none, none, y11] ∧ FD Hz G r U (swI x z i (lT T))) ⟨_, _, U, rfl, fdz⟩ (fun i σ G _ h => by obtain ⟨_, _, _, _, fd⟩ := h; exact fd.sm _ _ hz0) ?_ ?_
      · rintro i v σ G' G hi ⟨y6, y11, U, rfl, fd⟩ ⟨rfl, key, val, hkv, rfl⟩
        obtain ⟨t, ht, ekv⟩ := Option.map_eq_some_iff.mp ((List.getElem?_map ..).symm.trans hkv)
        obtain ⟨rfl, rfl⟩ : Sum.inr t.1 = key ∧ V.ref t.2.2 = val := by injection ekv with e1 e2; exact ⟨e1, e2⟩
        have htm := List.mem_of_getElem? ht
        have htl : (lT T)[i]? = some (t.1, t.2.1) := by unfold lT; rw [List.getElem?_map, ht]; rfl
        have hget : DGet G p (V.str t.1) (some (.ref t.2.2)) := .inl ⟨_, .inr t.1, .inr ⟨od2, fd.sm _ _ hz0⟩, rfl, (kv_val wf.kn htm).symm⟩
        have hl := fd.sm _ _ (lz t htm)
        have lt2 : t.2.1.length ≤ 60 := Nat.le_trans (row_le (List.mem_map.mpr ⟨t, htm, rfl⟩ : (t.1, t.2.1) ∈ lT T)) al
        dsimp only [gName, List.set]
        refine ⟨_, rfl, _, rfl, p, _, rfl, hget, t.2.2, rfl, ⟨_, SqL.of hl⟩, fun D nD => ?_⟩
        refine lc_it (walk_list (K := K) (a := t.2.2) (xs := t.2.1.map V.str)) (fun j X => X D = some (.lst (((t.2.1.take j).map (sw x z)).map V.str)) ∧ Same G X) ⟨upd_same, same_put nD⟩ (fun j X _ h => SqL.of (h.2 _ _ hl)) ?_ ?_
        · rintro j v X' X hj ⟨hD, sX⟩ ⟨rfl, hv⟩
          obtain ⟨w, hw, rfl⟩ := Option.map_eq_some_iff.mp ((List.getElem?_map ..).symm.trans hv)
          rw [List.length_map] at hj
          have cont : ∃ acc, X D = some (.lst acc) ∧ acc.length < sizeLine ∧ (upd X D (.lst (acc ++ [V.str (sw x z w)]))) D = some (.lst (((t.2.1.take (j + 1)).map (sw x z)).map V.str)) ∧ Same G (upd X D (.lst (acc ++ [V.str (sw x z w)]))) := by
            refine ⟨_, hD, by rw [List.length_map, List.length_map, List.length_take, sizeLine_eq]; omega, ?_, fun y o e => (upd_ne (ne_of_none e nD)).trans (sX _ _ e)⟩
            rw [upd_same, take_at hw, List.map_append, List.map_append]
            rfl
          unfold sw at cont
          refine ⟨rfl, ?_⟩
          dsimp only [tYes]
          rw [if_pos rfl]
          refine ⟨_, rfl, _, rfl, rfl, _, rfl, ?_⟩
          rw [str_dec]
          by_cases c1 : w = x
          · rw [if_pos c1] at cont
            exact yes (decide_eq_true c1) ⟨_, rfl, cont⟩
          · rw [if_neg c1] at cont
            refine no (decide_eq_false c1) ⟨_, rfl, _, rfl, rfl, _, rfl, ?_⟩
            rw [show decide (V.str w = oV (some z)) = decide (w = z) from str_dec w z]
            by_cases c2 : w = z
            · rw [if_pos c2] at cont
              exact yes (decide_eq_true c2) ⟨_, rfl, cont⟩
            · rw [if_neg c2] at cont
              exact no (decide_eq_false c2) ⟨_, rfl, cont⟩
        · rintro X ⟨hD, sX⟩
          rw [List.length_map, List.take_length] at hD
          obtain ⟨U2, G2', dp, fd2⟩ := (fd.mv sX).set (by rw [keys_swI]; exact wf.kn) (by unfold swI; rw [List.length_map]; omega) (k := t.1) hD (fun u hu => ne_of_none (fd.dt.all u hu) nD) (low fd.sm nD)
          have hkk : t.1 ∈ keysL (swI x z i (lT T)) := by rw [keys_swI]; exact List.mem_map.mpr ⟨_, List.mem_map.mpr ⟨t, htm, rfl⟩, rfl⟩
          rw [open_in hkk, show atL t.1 (t.2.1.map (sw x z)) (swI x z i (lT T)) = _ from swI_next wf.kn htl] at fd2
          exact ⟨_, rfl, _, rfl, r, G2', rfl, dp, _, _, U2, rfl, fd2⟩
      · rintro σ G9 ⟨y6, y11, U9, rfl, fd9⟩
        refine ⟨fd9.sm _ _ hz0, ?_⟩
        have up9 : ∀ u ∈ U9, u.2.2 ≠ p := fun u hu => (ne_of_none hz0 (fd9.fr u hu)).symm
        have e9 : lT U9 = swapL x z (lT T) := by
          rw [fd9.eq, show (kvT T).length = (lT T).length by unfold kvT lT; rw [List.length_map, List.length_map], swI_all]
        refine ⟨_, rfl, q r _ fd.nq (fun a w e => ?_) ⟨U9, ?_, ⟨(upd_ne rp).trans fd9.dt.at_, fun u hu => (upd_ne (up9 u hu)).trans (fd9.dt.all u hu), fd9.dt.nd⟩, fun u hu => ?_⟩⟩
        · by_cases qq : a = p
          · subst qq; rw [upd_same, ← hT.at_]; exact e
          · rw [upd_ne qq]; exact fd9.sm _ _ ((hzn a qq).trans e)
        · rw [e9]; unfold apL; rw [if_pos c]; rfl
        · rw [← hzn _ (up9 u hu)]; exact fd9.fr u hu
    · refine no (decide_eq_false fun z => c (by injection z)) ?_
      unfold tNext
      dsimp only
      refine ⟨_, rfl, (by show 2 ≤ sizeLine; decide), fun T1 nT1 => ?_⟩
      have fd := fd.mv (same_put (o := .tup [V.str "up", V.str "down"]) nT1)
      refine ⟨T1, _, rfl, .inr (SqT.of upd_same), rfl, flat_strs (["up", "down"] : List Str), _, rfl, ?_⟩
      generalize upd G2 T1 (.tup [V.str "up", V.str "down"]) = G3 at fd ⊢
      show if inV (V.str o.1) ((["up", "down"] : List Str).map V.str) = true then _ else _
      rw [inV_str]
      have hqn : DL G3 r (lT T) := ⟨U, fd.eq, fd.dt⟩
      by_cases c2 : o.1 ∈ (["up", "down"] : List Str)
      · have hN : o.1 ∉ newL := (by decide +kernel : ∀ o ∈ args, o.1 ∈ (["up", "down"] : List Str) → o.1 ∉ newL) o cl.ho c2
        rw [if_neg hN] at fx
        obtain ⟨x', ex, hx⟩ := fx
        obtain rfl : x = x' := by injection ex
        have eh : hoL (lT T) x = some (homeL (lT T) x) := if_pos hx
        obtain ⟨i1, i2, i3, i4⟩ := in_home wf hx
        obtain ⟨a, hg, ha⟩ := hqn.get wf.kn i3
        have lx := List.idxOf_lt_length_iff.mpr i2
        have lr : (rowsL (lT T) (homeL (lT T) x)).length ≤ 60 := Nat.le_trans (rows_le _ _) al
        have eto : to = none := by
          have ft := cl.ft
          unfold FitV at ft
          rw [if_neg ((by decide +kernel : ∀ o ∈ args, o.1 ∈ (["up", "down"] : List Str) → ("to" : Str) ∉ o.2) o cl.ho c2)] at ft
          cases to with
          | none => rfl
          | some t => cases ft
        subst eto
        refine yes (decide_eq_true c2) ?_
        rw [eh]
        refine ⟨_, rfl, _, rfl, r, _, rfl, hg, ?_⟩
        dsimp only [gName, List.set]
        refine ⟨_, rfl, .inl ⟨rfl, _, SqL.of ha⟩, _, rfl, a, _, _, _, _, rfl, rfl, SqL.of ha, rfl, flat_strs _, (idx_at i2).1, decide_eq_true rfl, (idx_at i2).2, ?_⟩
        refine ⟨_, rfl, rfl, .inr ⟨_, rfl, _, _, rfl, rfl, ?_⟩⟩
        dsimp only [gName, List.set, L2.start]
        generalize hav : (((rowsL (lT T) (homeL (lT T) x)).idxOf x : Nat) : Int) - (if decide (V.str o.1 = V.str "up") = true then 1 else 0) = av
        have hnr : ∃ nr, apL o.1 x y none k (lT T) = atL (homeL (lT T) x) nr (lT T) ∧ ((av = -1 ∧ nr = rowsL (lT T) (homeL (lT T) x)) ∨ ∃ j : Nat, av = j ∧ j < (rowsL (lT T) (homeL (lT T) x)).length ∧ ((j + 1 < (rowsL (lT T) (homeL (lT T) x)).length ∧ nr = nbR j (rowsL (lT T) (homeL (lT T) x))) ∨ (¬ j + 1 < (rowsL (lT T) (homeL (lT T) x)).length ∧ nr = rowsL (lT T) (homeL (lT T) x)))) := by
          have ea : apL o.1 x y none k (lT T) = atL (homeL (lT T) x) (insR (idxL o.1 ((rowsL (lT T) (homeL (lT T) x)).erase x).length (some ((rowsL (lT T) (homeL (lT T) x)).idxOf x)) k) x ((rowsL (lT T) (homeL (lT T) x)).erase x)) (lT T) := by
            rw [← into_home wf hx fun n => idxL o.1 n (some ((rowsL (lT T) (homeL (lT T) x)).idxOf x)) k]
            unfold apL
            rw [if_neg c, if_neg fun q => by rw [q] at c2; revert c2; decide, ato_in hx]
            rfl
          refine ⟨_, ea, ?_⟩
          by_cases cu : o.1 = "up"
          · rw [if_pos (decide_eq_true (congrArg V.str cu))] at hav
            have ei : idxL o.1 ((rowsL (lT T) (homeL (lT T) x)).erase x).length (some ((rowsL (lT T) (homeL (lT T) x)).idxOf x)) k = (rowsL (lT T) (homeL (lT T) x)).idxOf x - 1 := by
              rw [cu]
              unfold idxL
              rw [if_neg (by decide), if_neg (by decide), if_pos rfl]
              rfl
            rw [ei]
            by_cases h0 : (rowsL (lT T) (homeL (lT T) x)).idxOf x = 0
            · exact .inl ⟨by rw [← hav, h0]; rfl, (stay_up i2 i4 h0).symm⟩
            · exact .inr ⟨(rowsL (lT T) (homeL (lT T) x)).idxOf x - 1, by omega, by omega, .inl ⟨by omega, (nb_up i2 i4 (by omega)).symm⟩⟩
          · have cd : o.1 = "down" := by
              rcases List.mem_cons.mp c2 with e | e
              · exact absurd e cu
              · exact List.mem_singleton.mp e
            rw [if_neg (by rw [decide_eq_true_eq]; exact fun e => cu (by injection e))] at hav
            have ei : idxL o.1 ((rowsL (lT T) (homeL (lT T) x)).erase x).length (some ((rowsL (lT T) (homeL (lT T) x)).idxOf x)) k = min ((rowsL (lT T) (homeL (lT T) x)).idxOf x + 1) ((rowsL (lT T) (homeL (lT T) x)).erase x).length := by
              rw [cd]
              unfold idxL
              rw [if_neg (by decide), if_neg (by decide), if_neg (by decide), if_pos rfl]
              rfl
            rw [ei]
            refine .inr ⟨(rowsL (lT T) (homeL (lT T) x)).idxOf x, by omega, lx, ?_⟩
            by_cases h0 : (rowsL (lT T) (homeL (lT T) x)).idxOf x + 1 < (rowsL (lT T) (homeL (lT T) x)).length
            · exact .inl ⟨h0, (nb_down i2 i4 h0).symm⟩
            · exact .inr ⟨h0, (stay_down i2 i4 h0).symm⟩
        obtain ⟨nr, ea, hnr⟩ := hnr
        clear hav
        have same : nr = rowsL (lT T) (homeL (lT T) x) → apL o.1 x y none k (lT T) = lT T := fun e => by rw [ea, e, at_id wf.kn]
        have fin : ∀ G, Same G3 G → lT T = apL o.1 x y none k (lT T) → Q (.ref r) G := fun G s e => q r G fd.nq (fd.sm.trans s) ⟨U, fd.eq.trans e, fd.dt.mv s, fd.fr⟩
        rcases hnr with ⟨rfl, en⟩ | ⟨j, rfl, hj, hnr⟩
        · exact ⟨_, rfl, _, _, rfl, rfl, _, rfl, no (by decide) ⟨_, rfl, no rfl ⟨_, rfl, fin _ (Same.refl _) (same en).symm⟩⟩⟩
        refine ⟨_, rfl, _, _, rfl, rfl, _, rfl, yes (decide_eq_true (by omega)) ⟨_, rfl, a, _, rfl, .inl (SqL.of ha), _, _, rfl, rfl, _, _, rfl, rfl, _, rfl, ?_⟩⟩
        rw [List.length_map]
        rcases hnr with ⟨h1, en⟩ | ⟨h1, en⟩
        · refine yes (decide_eq_true (by omega)) ?_
          have g0 : (rowsL (lT T) (homeL (lT T) x))[j]? = some ((rowsL (lT T) (homeL (lT T) x)).getD j "") := by rw [List.getD_eq_getElem?_getD, List.getElem?_eq_getElem hj]; rfl
          have g1 : (rowsL (lT T) (homeL (lT T) x))[j + 1]? = some ((rowsL (lT T) (homeL (lT T) x)).getD (j + 1) "") := by rw [List.getD_eq_getElem?_getD, List.getElem?_eq_getElem h1]; rfl
          generalize hrr : rowsL (lT T) (homeL (lT T) x) = rr at *
          refine ⟨_, rfl, _, rfl, _, rfl, a, _, rfl, SqL.of ha, fun S nS => ?_⟩
          have s1 := same_put (o := .lst (cutV (rr.map V.str) none (some (j : Int)))) nS
          have hS : upd G3 S (.lst (cutV (rr.map V.str) none (some (j : Int)))) S = some (.lst (cutV (rr.map V.str) none (some (j : Int)))) := upd_same
          generalize upd G3 S (.lst (cutV (rr.map V.str) none (some (j : Int)))) = G4 at s1 hS ⊢
          refine ⟨_, rfl, _, rfl, _, _, rfl, rfl, a, _, _, V.str (rr.getD (j + 1) ""), rfl, rfl, SqL.of (s1 _ _ ha), (by rw [show ((j : Int) + 1) = ((j + 1 : Nat) : Int) by omega]; exact atI_nat (by rw [List.getElem?_map, g1]; rfl)), _, rfl, _, rfl, a, _, _, V.str (rr.getD j ""), rfl, rfl, SqL.of (s1 _ _ ha), atI_nat (by rw [List.getElem?_map, g0]; rfl), (by show 2 ≤ sizeLine; decide), fun l nl => ?_⟩
          have s2 := same_put (o := .lst [V.str (rr.getD (j + 1) ""), V.str (rr.getD j "")]) nl
          have hl : upd G4 l (.lst [V.str (rr.getD (j + 1) ""), V.str (rr.getD j "")]) l = some (.lst [V.str (rr.getD (j + 1) ""), V.str (rr.getD j "")]) := upd_same
          generalize upd G4 l (.lst [V.str (rr.getD (j + 1) ""), V.str (rr.getD j "")]) = G5 at s2 hl ⊢
          have lc1 : (cutV (rr.map V.str) none (some (j : Int))).length ≤ 60 := by rw [cutTo, List.length_take, List.length_map]; omega
          refine ⟨S, l, _, _, rfl, rfl, s2 _ _ hS, hl, by show _ + 2 ≤ _; rw [sizeLine_eq]; omega, fun c5 nc => ?_⟩
          have s3 := same_put (o := .lst (cutV (rr.map V.str) none (some (j : Int)) ++ [V.str (rr.getD (j + 1) ""), V.str (rr.getD j "")])) nc
          have hc : upd G5 c5 (.lst (cutV (rr.map V.str) none (some (j : Int)) ++ [V.str (rr.getD (j + 1) ""), V.str (rr.getD j "")])) c5 = some (.lst (cutV (rr.map V.str) none (some (j : Int)) ++ [V.str (rr.getD (j + 1) ""), V.str (rr.getD j "")])) := upd_same
          generalize upd G5 c5 (.lst (cutV (rr.map V.str) none (some (j : Int)) ++ [V.str (rr.getD (j + 1) ""), V.str (rr.getD j "")])) = G6 at s3 hc ⊢
          have s36 := (s1.trans s2).trans s3
          refine ⟨_, rfl, _, rfl, _, _, rfl, rfl, _, rfl, a, _, rfl, SqL.of (s36 _ _ ha), fun S2 nS2 => ?_⟩
          have s4 := same_put (o := .lst (cutV (rr.map V.str) (some ((j : Int) + 2)) none)) nS2
          have hS2 : upd G6 S2 (.lst (cutV (rr.map V.str) (some ((j : Int) + 2)) none)) S2 = some (.lst (cutV (rr.map V.str) (some ((j : Int) + 2)) none)) := upd_same
          generalize upd G6 S2 (.lst (cutV (rr.map V.str) (some ((j : Int) + 2)) none)) = G7 at s4 hS2 ⊢
          have lc2 : (cutV (rr.map V.str) (some ((j : Int) + 2)) none).length ≤ 60 := by rw [show ((j : Int) + 2) = ((j + 2 : Nat) : Int) by omega, cutFrom, List.length_drop, List.length_map]; omega
          refine ⟨c5, S2, _, _, rfl, rfl, s4 _ _ hc, hS2, by rw [List.length_append, sizeLine_eq]; show _ + 2 + _ ≤ _; omega, fun N nN => ?_⟩
          have eN : cutV (rr.map V.str) none (some (j : Int)) ++ [V.str (rr.getD (j + 1) ""), V.str (rr.getD j "")] ++ cutV (rr.map V.str) (some ((j : Int) + 2)) none = nr.map V.str := by
            rw [en, show ((j : Int) + 2) = ((j + 2 : Nat) : Int) by omega, cutTo, cutFrom]
            unfold nbR
            rw [List.map_append, List.map_append, List.map_take, List.map_drop]
            rfl
          rw [eN]
          have fd7 := (fd.mv s36).mv s4
          have nNU : ∀ u ∈ U, u.2.2 ≠ N := fun u hu => ne_of_none (fd7.dt.all u hu) nN
          have lowN := low fd7.sm nN
          have fd8 := fd7.mv (same_put (o := .lst (nr.map V.str)) nN)
          obtain ⟨U2, G9, dp, fd9⟩ := fd8.set wf.kn (by omega) (k := homeL (lT T) x) upd_same nNU lowN
          rw [open_in i3, ← ea] at fd9
          exact ⟨_, rfl, _, rfl, r, G9, rfl, dp, _, rfl, q r G9 fd9.nq fd9.sm ⟨U2, fd9.eq, fd9.dt, fd9.fr⟩⟩
        · exact no (decide_eq_false (by omega)) ⟨_, rfl, fin _ (Same.refl _) (same en).symm⟩
      · refine no (decide_eq_false c2) ?_
        dsimp only [List.set, L2.start]
        refine seq_by (fun σ G => ∃ U v11, σ = [some (.ref p), some (.str o.1), some (.str x), some (oV y), some (oV to), some (oI k), none, some (.ref r), some (oV (hoL (lT T) x)), none, none, v11] ∧ FD H G r U (takeL x (lT T))) ?_ (fun nxt => ?_)
        · rintro σ G ⟨U, v11, rfl, fd⟩
          refine ⟨_, rfl, rfl, _, rfl, ?_⟩
          by_cases ct : o.1 = "take"
          · refine yes (decide_eq_true (congrArg V.str ct)) ⟨_, rfl, q r G fd.nq fd.sm ⟨U, ?_, fd.dt, fd.fr⟩⟩
            rw [fd.eq]
            unfold apL
            rw [if_neg c, if_pos ct]
          refine no (decide_eq_false fun e => ct (by injection e)) ?_
          have kT : (keysL (takeL x (lT T))).Nodup := by rw [keys_take]; exact wf.kn
          obtain ⟨g, hg, eg⟩ : ∃ g, (if decide (oV to = V.non) = true then oV (hoL (lT T) x) else oV to) = .str g ∧ to.getD (homeL (lT T) x) = g := by
            cases to with
            | some t => exact ⟨t, by rw [if_neg (by rw [decide_eq_true_eq]; exact fun e => by cases e)]; rfl, rfl⟩
            | none =>
              refine ⟨homeL (lT T) x, ?_, rfl⟩
              rw [if_pos (show decide (oV (none : Option Str) = V.non) = true from decide_eq_true rfl)]
              have ft := cl.ft
              have hnt : ("to" : Str) ∉ o.2 := fun hm => by
                unfold FitV at ft
                rw [if_pos hm, if_pos rfl] at ft
                obtain ⟨z, e, _⟩ := ft
                cases e
              have hN : o.1 ∉ newL := fun hm => hnt ((by decide +kernel : ∀ o ∈ args, o.1 ∈ newL → ("to" : Str) ∈ o.2) o cl.ho hm)
              rw [if_neg hN] at fx
              obtain ⟨x', ex, hx⟩ := fx
              obtain rfl : x = x' := by injection ex
              unfold hoL
              rw [if_pos hx]
              rfl
          dsimp only
          refine seq_by (fun σ G' => σ = [some (.ref p), some (.str o.1), some (.str x), some (oV y), some (.str g), some (oI k), none, some (.ref r), some (oV (hoL (lT T) x)), none, none, v11] ∧ FD H G' r U (takeL x (lT T))) ?_ (fun nxt => ?_)
          · rintro σ G ⟨rfl, fd⟩
            refine ⟨_, rfl, r, rfl, .inl ⟨_, .inl fd.dt.at_⟩, _, rfl, (by show 0 ≤ sizeLine; decide), fun l nl => ?_⟩
            have fd := fd.mv (same_put (o := .lst []) nl)
            obtain ⟨o', a, ho', ea, ha⟩ := DL.get2 (⟨U, fd.eq, fd.dt⟩ : DL _ r (takeL x (lT T))) kT upd_same g
            refine ⟨o', ho', ?_⟩
            rw [ea]
            generalize upd G l (.lst []) = G4 at fd ha ⊢
            have lr : (rowsL (takeL x (lT T)) g).length ≤ 60 := Nat.le_trans (rows_le _ _) (Nat.le_trans (all_take x (lT T)) al)
            dsimp only [gName, List.set]
            refine fun dd nd2 => ⟨_, rfl, _, rfl, upd_same, [((Sum.inr "put" : Key), oI k), ((Sum.inr "move" : Key), oI k), ((Sum.inr "top" : Key), V.int 1)], rfl, (by show 3 ≤ 15; decide), ?_⟩
            rw [mergeK_nil (kvs := [((Sum.inr "put" : Key), oI k), ((Sum.inr "move" : Key), oI k), ((Sum.inr "top" : Key), V.int 1)]) (show ([(Sum.inr "put" : Key), Sum.inr "move", Sum.inr "top"] : List Key).Nodup by decide +kernel)]
            have s5 : Same G4 (upd (upd G4 dd (.dK [])) dd (.dK [((Sum.inr "put" : Key), oI k), ((Sum.inr "move" : Key), oI k), ((Sum.inr "top" : Key), V.int 1)])) := fun z w e => (upd_ne (ne_of_none e nd2)).trans ((upd_ne (ne_of_none e nd2)).trans e)
            have h5 : upd (upd G4 dd (.dK [])) dd (.dK [((Sum.inr "put" : Key), oI k), ((Sum.inr "move" : Key), oI k), ((Sum.inr "top" : Key), V.int 1)]) dd = some (.dK [((Sum.inr "put" : Key), oI k), ((Sum.inr "move" : Key), oI k), ((Sum.inr "top" : Key), V.int 1)]) := upd_same
            generalize upd (upd G4 dd (.dK [])) dd (.dK [((Sum.inr "put" : Key), oI k), ((Sum.inr "move" : Key), oI k), ((Sum.inr "top" : Key), V.int 1)]) = G5 at s5 h5 ⊢
            have fd := fd.mv s5
            have ha := s5 _ _ ha
            refine ⟨dd, rfl, .inl ⟨_, .inl h5⟩, _, rfl, _, rfl, a, _, rfl, .inl (SqL.of ha), _, _, rfl, rfl, _, .inl ⟨_, .inr o.1, .inl h5, rfl, rfl⟩, ?_⟩
            rw [List.length_map]
            obtain ⟨i, hi, ei⟩ : ∃ i : Nat, (valV [((Sum.inr "put" : Key), oI k), ((Sum.inr "move" : Key), oI k), ((Sum.inr "top" : Key), V.int 1)] (Sum.inr o.1 : Key)).getD (V.int (((rowsL (takeL x (lT T)) g).length : Nat) + 1)) = V.int ((i + 1 : Nat) : Int) ∧ i = idxL o.1 (rowsL (takeL x (lT T)) g).length (atO (lT T) x) k := by
              have nud : ¬ (o.1 = "up") ∧ ¬ (o.1 = "down") := ⟨fun e => c2 (by rw [e]; decide), fun e => c2 (by rw [e]; decide)⟩
              by_cases c3 : o.1 = "put" ∨ o.1 = "move"
              · have hk : ("k" : Str) ∈ o.2 := (by decide +kernel : ∀ o ∈ args, o.1 = "put" ∨ o.1 = "move" → ("k" : Str) ∈ o.2) o cl.ho c3
                have fk := cl.fk
                unfold FitV at fk
                rw [if_pos hk, if_neg (by decide), if_pos rfl] at fk
                obtain ⟨j, _, _, ej, _, _, j1, _⟩ := fk
                have ek : k = some j := by
                  cases k with
                  | none => cases ej
                  | some j' =>
                    have : (j' : Int) = (j : Int) := by injection ej
                    rw [show j' = j by omega]
                subst ek
                refine ⟨j - 1, ?_, ?_⟩
                · have e1 : valV [((Sum.inr "put" : Key), oI (some j)), ((Sum.inr "move" : Key), oI (some j)), ((Sum.inr "top" : Key), V.int 1)] (Sum.inr o.1 : Key) = some (oI (some j)) := by
                    rcases c3 with e | e
                    · exact valV_pos (by rw [e])
                    · rw [valV_neg (k := (Sum.inr o.1 : Key)) (fun qq => (by decide +kernel : ¬ (Sum.inr ("put" : Str) : Key) = Sum.inr ("move" : Str)) (by rw [e] at qq; exact qq))]
                      exact valV_pos (by rw [e])
                  rw [e1, show j - 1 + 1 = j by omega]
                  rfl
                · unfold idxL
                  rw [if_pos c3]
                  rfl
              · have n1 : ¬ (Sum.inr "put" : Key) = Sum.inr o.1 := fun e => c3 (.inl (by injection e with e; exact e.symm))
                have n2 : ¬ (Sum.inr "move" : Key) = Sum.inr o.1 := fun e => c3 (.inr (by injection e with e; exact e.symm))
                by_cases c4 : o.1 = "top"
                · refine ⟨0, ?_, ?_⟩
                  · rw [valV_neg n1, valV_neg n2, valV_pos (by rw [c4])]
                    rfl
                  · unfold idxL
                    rw [if_neg c3, if_pos c4]
                · have n3 : ¬ (Sum.inr "top" : Key) = Sum.inr o.1 := fun e => c4 (by injection e with e; exact e.symm)
                  refine ⟨(rowsL (takeL x (lT T)) g).length, ?_, ?_⟩
                  · rw [valV_neg n1, valV_neg n2, valV_neg n3]
                    rfl
                  · unfold idxL
                    rw [if_neg c3, if_neg c4, if_neg nud.1, if_neg nud.2]
            rw [hi]
            dsimp only [gName, List.set]
            refine ⟨_, rfl, _, rfl, _, _, rfl, rfl, _, rfl, ?_⟩
            rw [show (((i + 1 : Nat) : Int) - 1) = (i : Int) by omega]
            generalize hrr : rowsL (takeL x (lT T)) g = rr at *
            refine ⟨a, _, rfl, SqL.of ha, fun S nS => ?_⟩
            have s1 := same_put (o := .lst (cutV (rr.map V.str) none (some (i : Int)))) nS
            have hS : upd G5 S (.lst (cutV (rr.map V.str) none (some (i : Int)))) S = some (.lst (cutV (rr.map V.str) none (some (i : Int)))) := upd_same
            generalize upd G5 S (.lst (cutV (rr.map V.str) none (some (i : Int)))) = G6 at s1 hS ⊢
            refine ⟨_, rfl, (by show 1 ≤ sizeLine; decide), fun l2 nl2 => ?_⟩
            have s2 := same_put (o := .lst [V.str x]) nl2
            have hl2 : upd G6 l2 (.lst [V.str x]) l2 = some (.lst [V.str x]) := upd_same
            generalize upd G6 l2 (.lst [V.str x]) = G7 at s2 hl2 ⊢
            have lc1 : (cutV (rr.map V.str) none (some (i : Int))).length ≤ 60 := by rw [cutTo, List.length_take, List.length_map]; omega
            refine ⟨S, l2, _, _, rfl, rfl, s2 _ _ hS, hl2, by show _ + 1 ≤ _; rw [sizeLine_eq]; omega, fun c5 nc => ?_⟩
            have s3 := same_put (o := .lst (cutV (rr.map V.str) none (some (i : Int)) ++ [V.str x])) nc
            have hc : upd G7 c5 (.lst (cutV (rr.map V.str) none (some (i : Int)) ++ [V.str x])) c5 = some (.lst (cutV (rr.map V.str) none (some (i : Int)) ++ [V.str x])) := upd_same
            generalize upd G7 c5 (.lst (cutV (rr.map V.str) none (some (i : Int)) ++ [V.str x])) = G8 at s3 hc ⊢
            have s36 := (s1.trans s2).trans s3
            refine ⟨_, rfl, _, rfl, _, _, rfl, rfl, _, rfl, ?_⟩
            rw [show (((i + 1 : Nat) : Int) - 1) = (i : Int) by omega]
            refine ⟨a, _, rfl, SqL.of (s36 _ _ ha), fun S2 nS2 => ?_⟩
            have s4 := same_put (o := .lst (cutV (rr.map V.str) (some (i : Int)) none)) nS2
            have hS2 : upd G8 S2 (.lst (cutV (rr.map V.str) (some (i : Int)) none)) S2 = some (.lst (cutV (rr.map V.str) (some (i : Int)) none)) := upd_same
            generalize upd G8 S2 (.lst (cutV (rr.map V.str) (some (i : Int)) none)) = G9 at s4 hS2 ⊢
            have lc2 : (cutV (rr.map V.str) (some (i : Int)) none).length ≤ 60 := by rw [cutFrom, List.length_drop, List.length_map]; omega
            refine ⟨c5, S2, _, _, rfl, rfl, s4 _ _ hc, hS2, by rw [List.length_append, sizeLine_eq]; show _ + 1 + _ ≤ _; omega, fun N nN => ?_⟩
            rw [cutIn]
            have fd7 := (fd.mv s36).mv s4
            have nNU : ∀ u ∈ U, u.2.2 ≠ N := fun u hu => ne_of_none (fd7.dt.all u hu) nN
            have lowN := low fd7.sm nN
            have fd8 := fd7.mv (same_put (o := .lst ((insR i x rr).map V.str)) nN)
            obtain ⟨U2, GA, dp, fd9⟩ := fd8.set kT (by unfold takeL; rw [List.length_map]; omega) (k := g) upd_same nNU lowN
            refine ⟨_, rfl, _, rfl, r, GA, rfl, dp, _, rfl, q r GA fd9.nq fd9.sm ⟨U2, ?_, fd9.dt, fd9.fr⟩⟩
            rw [fd9.eq]
            unfold apL intoL
            rw [if_neg c, if_neg ct, eg, hrr]
            show _ = atL g (insR (idxL o.1 rr.length (atO (lT T) x) k) x rr) (openL g (takeL x (lT T)))
            rw [← ei]
          · refine ⟨_, rfl, rfl, _, rfl, if_two rfl rfl ?_⟩
            rw [hg]
            exact nxt _ _ ⟨rfl, fd⟩
        · refine ⟨_, rfl, rfl, _, rfl, ?_⟩
          rw [is_non]
          by_cases hx : x ∈ allL (lT T)
          · have eh : hoL (lT T) x = some (homeL (lT T) x) := if_pos hx
            obtain ⟨i1, i2, i3, i4⟩ := in_home wf hx
            obtain ⟨a, hg, ha⟩ := hqn.get wf.kn i3
            have lr : (rowsL (lT T) (homeL (lT T) x)).length ≤ 60 := Nat.le_trans (rows_le _ _) al
            have eoh : oV (hoL (lT T) x) = .str (homeL (lT T) x) := by rw [eh]; rfl
            refine yes (by rw [eh]; rfl) ⟨_, rfl, _, rfl, r, _, rfl, (by rw [eoh]; exact hg), a, rfl, ⟨_, SqL.of ha⟩, fun D nD => ?_⟩
            refine lc_it (walk_list (K := K) (a := a) (xs := (rowsL (lT T) (homeL (lT T) x)).map V.str)) (fun j X => X D = some (.lst ((((rowsL (lT T) (homeL (lT T) x)).take j).filter fun z => !decide (z = x)).map V.str)) ∧ Same G3 X) ⟨upd_same, same_put nD⟩ (fun j X _ h => SqL.of (h.2 _ _ ha)) ?_ ?_
            · rintro j v X' X hj ⟨hD, sX⟩ ⟨rfl, hv⟩
              obtain ⟨z, hz, rfl⟩ := Option.map_eq_some_iff.mp ((List.getElem?_map ..).symm.trans hv)
              have etk := flt_take (p := fun z => !decide (z = x)) hz
              have hle : (((rowsL (lT T) (homeL (lT T) x)).take j).filter fun z => !decide (z = x)).length ≤ 60 := Nat.le_trans (List.length_filter_le ..) (Nat.le_trans (by rw [List.length_take]; omega) lr)
              refine ⟨rfl, ?_⟩
              refine ⟨_, rfl, _, rfl, rfl, _, rfl, ?_⟩
              rw [str_dec]
              cases c : (!decide (z = x)) with
              | true =>
                rw [c, if_pos rfl] at etk
                refine yes rfl ⟨_, rfl, _, hD, by rw [List.length_map, sizeLine_eq]; omega, ?_, fun y o e => (upd_ne (ne_of_none e nD)).trans (sX _ _ e)⟩
                rw [upd_same, etk, List.map_append]
                rfl
              | false =>
                rw [c, if_neg nofun, List.append_nil] at etk
                refine no rfl ⟨?_, sX⟩
                rw [etk]
                exact hD
            · rintro X ⟨hD, sX⟩
              rw [List.length_map, List.take_length, flt_er i4] at hD
              obtain ⟨U2, G9, dp, fd9⟩ := (fd.mv sX).set wf.kn (by omega) (k := homeL (lT T) x) hD (fun u hu => ne_of_none (fd.dt.all u hu) nD) (low fd.sm nD)
              rw [open_in i3, show atL (homeL (lT T) x) ((rowsL (lT T) (homeL (lT T) x)).erase x) (lT T) = takeL x (lT T) from take_at' wf i1 i2] at fd9
              exact ⟨_, rfl, _, rfl, r, G9, rfl, (by rw [eoh]; exact dp), nxt _ _ ⟨U2, _, rfl, fd9⟩⟩
          · have eh : hoL (lT T) x = none := if_neg hx
            refine no (by rw [eh]; rfl) (nxt _ _ ⟨U, _, rfl, ?_⟩)
            rw [take_no fun e he hq => hx (mem_all.mpr ⟨e, he, hq⟩)]
            exact fd
end
end K11

set_option Elab.async false
set_option maxRecDepth 100000
set_option maxHeartbeats 2000000
/-! repr of data of any form; things: drawn odd objects, names and whole numbers. -/
namespace KX
open PySem PySem.Spec PyProof.Rows L2
def rReprD (K : PySem.W.Frag) : List V → Hp → VK → Prop := fun xs H Q => ∃ (v : V) (d : PyData), xs = [v] ∧ Dp K H v d ∧ Small d 8 sizeLine ∧ Q (.str d.shown) H
theorem call_reprD {X : Cx} (hg : X.A.guards = some []) (hu : X.A.units + 10 < cLine) : CallR X (.builtin "repr") (rReprD X.K) := by
  intro pins s σ H xs us Q I r h
  obtain ⟨v, d, rfl, hd, hs, q⟩ := h
  cases hd with
  | lst a b => exact call_repr hg hu pins s σ H _ us Q I r ⟨_, _, rfl, .lst a b, hs.sh, hs.nd, hs.dp, hs.ln, q⟩
  | tup a b => exact call_repr hg hu pins s σ H _ us Q I r ⟨_, _, rfl, .tup a b, hs.sh, hs.nd, hs.dp, hs.ln, q⟩
  | non =>
    obtain ⟨u, rfl, ru⟩ := vals1 r
    cases ru
    exact PySem.P.repr_of_none ⟨.str _, H, I.tok _, ⟨_, rfl⟩, q⟩
  | bl b =>
    obtain ⟨u, rfl, ru⟩ := vals1 r
    cases ru
    exact PySem.P.repr_of_bool ⟨.str _, H, I.tok _, ⟨_, by cases b <;> rfl⟩, q⟩
  | int i =>
    obtain ⟨u, rfl, t, rfl⟩ := vals1 r
    exact PySem.P.repr_of_int (of_decide_eq_true hs.sh) ⟨.str _, H, I.tok _, ⟨_, rfl⟩, q⟩
  | str x =>
    obtain ⟨u, rfl, t, rfl⟩ := vals1 r
    exact PySem.P.repr_of_str (hsz := hs.ln) ⟨.str _, H, I.tok _, ⟨_, rfl⟩, q⟩
/-- a thing: a scalar, or one of the odd lists and tuples -/
def ThV (m : Nat) (H : Hp) : V → PyData → Prop := fun v d =>
  (ScD m d ∧ ((v = .non ∧ d = .none) ∨ (∃ b, v = .bl b ∧ d = .bool b) ∨ (∃ i, v = .int i ∧ d = .int i) ∨ ∃ z, v = .str z ∧ d = .str z)) ∨
  (∃ p, v = .ref p ∧ H p = some (.lst [.str "a"]) ∧ d = .list [.str "a"]) ∨ (∃ p, v = .ref p ∧ H p = some (.tup [.str "a", .int 1]) ∧ d = .tuple [.str "a", .int 1]) ∨
  (∃ p, v = .ref p ∧ H p = some (.lst []) ∧ d = .list []) ∨ (∃ p, v = .ref p ∧ H p = some (.tup []) ∧ d = .tuple []) ∨
  (∃ p q, v = .ref p ∧ H p = some (.lst [.ref q]) ∧ H q = some (.lst [.int 1]) ∧ d = .list [.list [.int 1]])
/-- what odd lists and tuples are on the heap -/
def OddO (o : HO) : Prop := o = .lst [.str "a"] ∨ o = .tup [.str "a", .int 1] ∨ o = .lst [] ∨ o = .tup [] ∨ o = .lst [.int 1] ∨ ∃ q, o = .lst [.ref q]
section
variable {m : Nat} {K : PySem.W.Frag} {H G : Hp} {v : V} {d : PyData}
theorem ThV.keep (h : ThV m H v d) (k : ∀ p o, OddO o → H p = some o → G p = some o) : ThV m G v d := by
  rcases h with h | ⟨p, e, hp, ed⟩ | ⟨p, e, hp, ed⟩ | ⟨p, e, hp, ed⟩ | ⟨p, e, hp, ed⟩ | ⟨p, q, e, hp, hq, ed⟩
  · exact .inl h
  · exact .inr (.inl ⟨p, e, k _ _ (.inl rfl) hp, ed⟩)
  · exact .inr (.inr (.inl ⟨p, e, k _ _ (.inr (.inl rfl)) hp, ed⟩))
  · exact .inr (.inr (.inr (.inl ⟨p, e, k _ _ (.inr (.inr (.inl rfl))) hp, ed⟩)))
  · exact .inr (.inr (.inr (.inr (.inl ⟨p, e, k _ _ (.inr (.inr (.inr (.inl rfl)))) hp, ed⟩))))
  · exact .inr (.inr (.inr (.inr (.inr ⟨p, q, e, k _ _ (.inr (.inr (.inr (.inr (.inr ⟨q, rfl⟩))))) hp, k _ _ (.inr (.inr (.inr (.inr (.inl rfl))))) hq, ed⟩))))
theorem ThV.same (h : ThV m H v d) (s : Same H G) : ThV m G v d := h.keep fun p o _ e => s p o e
/-- all but one object stands, and that is none of them -/
theorem ThV.but {b : Addr} (h : ThV m H v d) (k : Kept b H G) (hb : ∀ o, OddO o → H b ≠ some o) : ThV m G v d :=
  h.keep fun p o ho e => k p o (fun z => hb o ho (z ▸ e)) e
theorem ThV.mono {m' : Nat} (h : ThV m H v d) (hm : m ≤ m') : ThV m' H v d := by
  rcases h with ⟨h1, h2⟩ | h
  · exact .inl ⟨h1.mono hm, h2⟩
  · exact .inr h
theorem ThV.dp (h : ThV m H v d) : Dp K H v d := by
  rcases h with ⟨_, ⟨rfl, rfl⟩ | ⟨b, rfl, rfl⟩ | ⟨i, rfl, rfl⟩ | ⟨z, rfl, rfl⟩⟩ | ⟨p, rfl, hp, rfl⟩ | ⟨p, rfl, hp, rfl⟩ | ⟨p, rfl, hp, rfl⟩ | ⟨p, rfl, hp, rfl⟩ | ⟨p, q, rfl, hp, hq, rfl⟩
  · exact .non
  · exact .bl b
  · exact .int i
  · exact .str z
  · exact .lst (SqL.of hp) (.cons (.str _) .nil)
  · exact .tup (SqT.of hp) (.cons (.str _) (.cons (.int _) .nil))
  · exact .lst (SqL.of hp) .nil
  · exact .tup (SqT.of hp) .nil
  · exact .lst (SqL.of hp) (.cons (.lst (SqL.of hq) (.cons (.int _) .nil)) .nil)
theorem ThV.small (h : ThV m H v d) (hm : m < 10 ^ 40) : Small d 8 2000 := by
  rcases h with ⟨h, _⟩ | ⟨_, _, _, rfl⟩ | ⟨_, _, _, rfl⟩ | ⟨_, _, _, rfl⟩ | ⟨_, _, _, rfl⟩ | ⟨_, _, _, _, _, rfl⟩
  · exact (sc_small hm h).mono (by decide) (by decide)
  all_goals exact ⟨by decide +kernel, by decide +kernel, by decide +kernel, by decide +kernel⟩
theorem ThV.okN (h : ThV m H v d) : okN d := by
  rcases h with ⟨h, _⟩ | ⟨_, _, _, rfl⟩ | ⟨_, _, _, rfl⟩ | ⟨_, _, _, rfl⟩ | ⟨_, _, _, rfl⟩ | ⟨_, _, _, _, _, rfl⟩
  · exact sc_okN h
  all_goals exact fun z e => nomatch e
theorem ThV.shaped (h : ThV m H v d) : SeqAt.shaped d = true := by
  rcases h with ⟨h, _⟩ | ⟨_, _, _, rfl⟩ | ⟨_, _, _, rfl⟩ | ⟨_, _, _, rfl⟩ | ⟨_, _, _, rfl⟩ | ⟨_, _, _, _, _, rfl⟩
  · obtain ⟨h1, h2⟩ := sc_lay h
    exact Bool.and_eq_true_iff.mpr ⟨h1, decide_eq_true (Nat.le_trans h2 (by decide))⟩
  all_goals decide +kernel
end
end KX

set_option Elab.async false
set_option maxRecDepth 100000
set_option maxHeartbeats 1000000
/-! repr of a dict of lists of texts, where no repr is running. -/
namespace KX
open PySem PySem.Spec PyProof.Rows L2
abbrev TTx : Type := List (Str × List Str × Addr)
def rowsT (zs : List Str) : Str := if zs = [] then Str.ofString "[]" else listText (zs.map reprText)
def entT (e : Str × List Str) : Str := reprText e.1 ++ Str.ofString ": " ++ rowsT e.2
def dTxt (L : List (Str × List Str)) : Str := dictText (L.map entT)
/-- all texts are short -/
def ShT (L : List (Str × List Str)) : Prop := (∀ e ∈ L, (reprText e.1).length ≤ sizeLine ∧ (rowsT e.2).length ≤ sizeLine ∧ ∀ z ∈ e.2, (reprText z).length ≤ sizeLine) ∧ (dTxt L).length ≤ sizeLine
def rRepT : List V → Hp → VK → Prop := fun xs H Q => ∃ (p : Addr) (T : TTx), xs = [.ref p] ∧ H p = some (.dK (T.map fun t => ((Sum.inr t.1 : Key), V.ref t.2.2))) ∧ (∀ t ∈ T, H t.2.2 = some (.lst (t.2.1.map V.str))) ∧ ShT (T.map fun t => (t.1, t.2.1)) ∧ Q (.str (dTxt (T.map fun t => (t.1, t.2.1)))) H
variable {X : Cx}
theorem reads_strs {h : Heap} : ∀ {zs : List Str} {vs : List Value} {as : List Addr}, ReadsAll h vs (zs.map PyData.str) as → vs.length = zs.length ∧ ∀ (i : Nat) (y : Value), vs[i]? = some y → ∃ z t, zs[i]? = some z ∧ y = .str z t := by
  intro zs
  induction zs with
  | nil =>
    intro vs as r
    cases r
    exact ⟨rfl, fun i y e => by cases e⟩
  | cons z zs ih =>
    intro vs as r
    cases r with
    | cons r1 r2 =>
      obtain ⟨l, e⟩ := ih r2
      cases r1 with
      | str _ t =>
        refine ⟨by simp [l], fun i y hy => ?_⟩
        cases i with
        | zero =>
          obtain rfl := Option.some.inj hy
          exact ⟨z, t, rfl, rfl⟩
        | succ i => exact e i y hy
/-- the text of a list of texts -/
theorem repK_list {P : Program} {w : World} {h : Heap} {a : Addr} {zs : List Str} {as : List Addr} (r : Reads h (.ref a) (.list (zs.map PyData.str)) as) (hz : ∀ z ∈ zs, (reprText z).length ≤ sizeLine) : ReprK P w [a] h 1 (.ref a) (rowsT zs) ∧ ∃ o, h.get? a = some o ∧ o.cls = .type "list" := by
  cases r with
  | @list _ o vs n _ as h1 h2 h3 h4 =>
    refine ⟨?_, o, h1, h2⟩
    obtain ⟨l, e⟩ := reads_strs h4
    unfold rowsT
    by_cases c : zs = []
    · subst c
      rw [if_pos rfl]
      have : vs = #[] := by
        have : vs.toList = [] := List.length_eq_zero_iff.mp l
        exact Array.toList_eq_nil_iff.mp this
      subst this
      exact ReprK.listEmpty h1 h2 h3
    · rw [if_neg c]
      obtain ⟨us⟩ := vs
      cases us with
      | nil => exact absurd (List.length_eq_zero_iff.mp l.symm) c
      | cons x r =>
        refine ReprK.list h1 h2 h3 (by simp) (by rw [List.length_map]; exact l.symm) fun i y hy => ?_
        obtain ⟨z, t, e1, rfl⟩ := e i y (by simpa using hy)
        exact ⟨_, by rw [List.getElem?_map, e1]; rfl, ReprK.of_is (ReprIs.str z t (hz z (List.mem_of_getElem? e1))) _ _ _⟩
theorem ent_all {pins : List (Addr × Obj)} {σ : L2.St} {H : Hp} {s : Shared} (I : Inv X pins σ H s) (all : List Addr) : ∀ {T : TTx} {vs : List (Key × Value)} {es : List DictEntry},
    KV (T.map fun t => ((Sum.inr t.1 : Key), V.ref t.2.2)) vs → Pairs (mixKind X.prog X.w) es vs → (∀ t ∈ T, H t.2.2 = some (.lst (t.2.1.map V.str))) → (∀ t ∈ T, t.2.2 ∈ all) →
    (∀ t ∈ T, (reprText t.1).length ≤ sizeLine ∧ ∀ z ∈ t.2.1, (reprText z).length ≤ sizeLine) → ReprEntriesK X.prog X.w all s.heap 1 es (T.map fun t => entT (t.1, t.2.1)) := by
  intro T
  induction T with
  | nil =>
    intro vs es kv pr _ _ _
    cases kv
    cases pr
    exact .nil
  | cons t T ih =>
    intro vs es kv pr hl ha hs
    cases kv with
    | cons hd tl =>
      cases pr with
      | cons p1 p2 p3 =>
        rename_i kv2 vs2 e es2
        obtain ⟨k1, k2⟩ := hd
        have k2 : RelV (.ref t.2.2) kv2.2 := k2
        have ek : kv2.1 = Sum.inr t.1 := k1.symm
        have ev : kv2.2 = Value.ref t.2.2 := by cases hh : kv2.2 <;> rw [hh] at k2 <;> first | (cases k2; rfl) | cases k2
        obtain ⟨as, rd⟩ := Dp.reads I _ _ (Value.ref t.2.2) (.lst (SqL.of (hl t List.mem_cons_self)) (strs_dp t.2.1)) rfl
        have kk : ∃ u, e.key = .str t.1 u := by
          rw [ek] at p1
          have p1 : keyIs (Sum.inr t.1) e.key = true := p1
          unfold keyIs at p1
          cases hh : e.key with
          | str y u =>
            rw [hh] at p1
            have : y = t.1 := eq_of_beq p1
            exact ⟨u, by rw [this]⟩
          | _ => rw [hh] at p1; cases p1
        obtain ⟨u, hk⟩ := kk
        obtain ⟨s1, s2⟩ := hs t List.mem_cons_self
        refine ReprEntriesK.cons (k := reprText t.1) (v := rowsT t.2.1) (e := e) ?_ ?_ (ih tl p3 (fun z hz => hl z (List.mem_cons_of_mem _ hz)) (fun z hz => ha z (List.mem_cons_of_mem _ hz)) (fun z hz => hs z (List.mem_cons_of_mem _ hz)))
        · rw [hk]
          exact ReprK.of_is (ReprIs.str t.1 u s1) _ _ _
        · rw [p2, ev]
          exact (repK_list rd s2).1.more fun b hb => by rw [List.mem_singleton.mp hb]; exact ha t List.mem_cons_self
theorem call_repT (hg : X.A.guards = some []) (hu : X.A.units + 10 < cLine) : CallR X (.builtin "repr") rRepT := by
  intro pins s σ H xs us Q I r h
  obtain ⟨p, T, rfl, hp, hl, ⟨sh1, sh2⟩, q⟩ := h
  obtain ⟨u, rfl, ru⟩ := vals1 r
  obtain rfl : u = Value.ref p := ru
  obtain ⟨_, h2, vs, kv, o, es, ep, g1, g2, g3, g4, g5, g6⟩ := dk_rd I.hok (.inl hp)
  have np : ¬ p ∈ T.map (·.2.2) := fun hm => by
    obtain ⟨t, ht, e⟩ := List.mem_map.mp hm
    have := hl t ht
    rw [e, hp] at this
    cases this
  refine call_repr_slot (by omega) ⟨o, g1, g2.1⟩ F.slot_dict_repr ?_
  refine call_dict_reprK (as := T.map (·.2.2)) (d := 1) (h₀ := s.heap) g1 g2.1 g3 h2 np (ent_all I _ kv g5 hl (fun t ht => List.mem_map.mpr ⟨t, ht, rfl⟩) fun t ht => ?_) (g := []) (by rw [Around.in1_guards]; exact hg) (fun b _ id v rest kw hm => by cases hm) (by show X.A.units + 1 + 2 < _; omega) (fun _ _ e => e) (fun h' u tk hk => ⟨_, u, rfl, ⟨.str _, H, I.kept (t' := tk) hk, ⟨_, rfl⟩, ?_⟩⟩) ?_
  · obtain ⟨a1, a2, a3⟩ := sh1 (t.1, t.2.1) (List.mem_map.mpr ⟨t, ht, rfl⟩)
    exact ⟨a1, a3⟩
  · have e : dTxt (T.map fun t => (t.1, t.2.1)) = dictText (T.map fun t => entT (t.1, t.2.1)) := by
      unfold dTxt
      rw [List.map_map]
      rfl
    rw [← e]
    exact q
  · have e : dTxt (T.map fun t => (t.1, t.2.1)) = dictText (T.map fun t => entT (t.1, t.2.1)) := by
      unfold dTxt
      rw [List.map_map]
      rfl
    rw [← e]
    exact sh2
end KX

set_option Elab.async false
set_option maxRecDepth 100000
set_option maxHeartbeats 1000000
/-! The text of a board is short. -/
namespace K11
open PySem PySem.Spec PyProof.Rows L2 He KX
theorem rt_nm {z : Str} (h : isNm z = true) : (reprText z).length ≤ 82 := by
  obtain ⟨h1, h2, h3⟩ := nm_inv h
  have q := PySem.StrLaws.reprText_len z fun c hc => by
    have := h3 c hc
    unfold isLet at this
    obtain ⟨a, b⟩ := Bool.and_eq_true_iff.mp this
    have := of_decide_eq_true b
    omega
  omega
theorem join_le {m : Nat} {sep : Str} : ∀ {ts : List Str}, (∀ t ∈ ts, t.length ≤ m) → (Str.join sep ts).length ≤ ts.length * (m + sep.length)
  | [], _ => by rw [Str.join.eq_1]; exact Nat.zero_le _
  | [t], h => by
    rw [Str.join.eq_2, List.length_singleton, Nat.one_mul]
    have := h t List.mem_cons_self
    omega
  | t :: u :: r, h => by
    rw [Str.join.eq_3 _ _ _ (by intro e; cases e), Str.length_append, Str.length_append]
    have h1 := h t List.mem_cons_self
    have h2 := join_le (sep := sep) (ts := u :: r) fun z hz => h z (List.mem_cons_of_mem _ hz)
    have f : (t :: u :: r).length * (m + sep.length) = (u :: r).length * (m + sep.length) + (m + sep.length) := by rw [List.length_cons (a := t), Nat.succ_mul]
    omega
theorem rowsT_le {zs : List Str} (h : ∀ z ∈ zs, isNm z = true) (l : zs.length ≤ 100) : (rowsT zs).length ≤ 8402 := by
  unfold rowsT
  split
  · decide
  · have q := listText_le (m := 82) (ts := zs.map reprText) fun t ht => by
      obtain ⟨z, hz, rfl⟩ := List.mem_map.mp ht
      exact rt_nm (h z hz)
    rw [List.length_map] at q
    have : zs.length * (82 + 2) ≤ 100 * 84 := Nat.mul_le_mul_right 84 l
    omega
theorem Br.sht {n : Nat} {L : LL} (h : Br n L) (hn : n ≤ 20) : ShT L := by
  have rl : ∀ e ∈ L, (∀ z ∈ e.2, isNm z = true) ∧ e.2.length ≤ 100 := fun e he => by
    refine ⟨fun z hz => h.nm z (mem_all.mpr ⟨e, he, hz⟩), ?_⟩
    have h1 := row_le he
    have h2 := h.le
    omega
  have kl : ∀ e ∈ L, isNm e.1 = true := fun e he => h.kn _ (List.mem_map.mpr ⟨e, he, rfl⟩)
  refine ⟨fun e he => ?_, ?_⟩
  · obtain ⟨r1, r2⟩ := rl e he
    have a1 := rt_nm (kl e he)
    have a2 := rowsT_le r1 r2
    refine ⟨by rw [sizeLine_eq]; omega, by rw [sizeLine_eq]; omega, fun z hz => ?_⟩
    have := rt_nm (r1 z hz)
    rw [sizeLine_eq]; omega
  · unfold dTxt dictText
    rw [Str.length_append, Str.length_append]
    have q := join_le (m := 8500) (sep := Str.ofString ", ") (ts := L.map entT) fun t ht => by
      obtain ⟨e, he, rfl⟩ := List.mem_map.mp ht
      obtain ⟨r1, r2⟩ := rl e he
      have a1 := rt_nm (kl e he)
      have a2 := rowsT_le r1 r2
      unfold entT
      rw [Str.length_append, Str.length_append]
      have : (Str.ofString ": ").length = 2 := by decide
      omega
    rw [List.length_map] at q
    have e1 : (Str.ofString "{").length = 1 := by decide
    have e2 : (Str.ofString "}").length = 1 := by decide
    have e3 : (Str.ofString ", ").length = 2 := by decide
    rw [e3] at q
    have hf := h.few
    have : L.length * (8500 + 2) ≤ 24 * 8502 := Nat.mul_le_mul_right 8502 (by omega)
    rw [sizeLine_eq]
    omega
end K11

set_option Elab.async false
set_option maxRecDepth 100000
set_option maxHeartbeats 2000000
namespace K11
open PySem PySem.Spec PyProof.Rows L2 He KX StX
-- ["op", "homes", "x", "y", "to", "k", "name", "worth"]
abbrev sBCI : Stmt := inClass (top 7) 0
theorem dp_nonI {K : PySem.W.Frag} {H : Hp} {v : V} {d : PyData} (h : Dp K H v d) : (v = .non ↔ d = .none) := by
  cases h <;> (refine ⟨fun e => ?_, fun e => ?_⟩ <;> first | rfl | cases e)
theorem dp_strI {K : PySem.W.Frag} {H : Hp} {v : V} {d : PyData} (h : Dp K H v d) (z : Str) : (v = .str z ↔ d = .str z) := by
  cases h <;> (refine ⟨fun e => ?_, fun e => ?_⟩ <;> first | (injection e with e; rw [e]; done) | (injection e with e; subst e; rfl) | cases e)
theorem dp_intI {K : PySem.W.Frag} {H : Hp} {v : V} {d : PyData} (h : Dp K H v d) (z : Int) : (v = .int z ↔ d = .int z) := by
  cases h <;> (refine ⟨fun e => ?_, fun e => ?_⟩ <;> first | (injection e with e; rw [e]; done) | (injection e with e; subst e; rfl) | cases e)
/-- _fits, whatever the answer -/
def spFitG (K : PySem.W.Frag) : Sp := fun vs H Q _ => ∃ (name : Str) (o : Str × List Str) (h : Addr) (L : LL) (v x to : V) (d : PyData), vs = [.str name, v, .str o.1, .ref h, x, to] ∧ o ∈ args ∧ H h = some (.dK (hmL L)) ∧ WF L ∧ (allL L).length ≤ 2000 ∧ Dp K H v d ∧ okN d ∧ (name = "k" → ("k" : Str) ∈ o.2 → ∃ xs ts, x = .str xs ∧ to = .str ts) ∧ ∀ G b, Same H G → (b = true ↔ FitV o L name v x to) → Q (.bl b) G
section
variable {P : Program} {w : World} {K : PySem.W.Frag} {mg : Str → Option Value} {base : Heap}
theorem ok_fitg {f fNm fIn fLp : Addr} {fd fdNm fdIn fdLp : FuncData} (F : FnP K "_fits" sFit f fd)
    (GNm : FnOk P w K mg base CX0 1 fNm fdNm ["thing"] (spName K)) (bNm : Binds K fdNm ["thing"] []) (kNm : PySem.W.keepIn K (.ref fNm) = true) (gNm : mg "is_name" = some (.ref fNm))
    (GIn : FnOk P w K mg base CX0 1 fIn fdIn ["thing"] (spInt K)) (bIn : Binds K fdIn ["thing"] []) (kIn : PySem.W.keepIn K (.ref fIn) = true) (gIn : mg "is_integer" = some (.ref fIn))
    (GLp : FnOk P w K mg base CX0 1 fLp fdLp ["homes", "x", "to"] spLp) (bLp : Binds K fdLp ["homes", "x", "to"] []) (kLp : PySem.W.keepIn K (.ref fLp) = true) (gLp : mg "_last_place" = some (.ref fLp))
    (hA : ∀ o ∈ args, ∃ a, KDct K w (ga K "ARGUMENTS") o.1 (.ref a) ∧ ∀ G, SqT K G a (o.2.map V.str)) (gARG : mg "ARGUMENTS" = some (.ref (ga K "ARGUMENTS")))
    (hN : ∀ H, SqT K H (ga K "NEW") (newL.map V.str)) (gNEW : mg "NEW" = some (.ref (ga K "NEW"))) (n_isinstance : mg "isinstance" = none) (n_str : mg "str" = none) :
    FnOk P w K mg base CX0 2 f fd ["name", "worth", "op", "homes", "x", "to"] (spFitG K) := by
  refine F.ok scFit (fun vs H Q E h => ?_) (fun cdv A outer s H vs Q E hr h => ?_)
  · obtain ⟨name, o, h, L, v, x, to, d, rfl, _⟩ := h
    rfl
  · obtain ⟨name, o, h, L, v, x, to, d, rfl, ho, hh, wf, hl, hd, okd, hk, q⟩ := h
    have nd := scFit.nd
    have hr1 := hr.mono (j := 1) (by decide)
    have hu : (A.deeper (envOfC "_fits" (defScope sFit) s.heap.objs.size f cdv)).units + 1 < cLine := by have := hr.un; omega
    refine ⟨_, PSs.nox (pss_cons (ps_if (pt_cmpR op_notIn_seq (pv 0) (pe_ix ix_kdict (pe_glob (v := .ref (ga K "ARGUMENTS")) rfl gARG rfl) (pv 2) (fun _ _ => rfl)) rfl)
(pss_one (ps_ret (pe_cmpR op_isN (pv 1) pe_non (nomark _))))
pss_nil)
(pss_cons (ps_if (pt_cmpR op_eq (pv 0) pe_str (nomark _))
(pss_one (ps_ret (pe_call GNm hr1 (by rfl) gNm kNm bNm .nil pass0 (pa_cons (pv 1) pa_nil))))
pss_nil)
(pss_cons (ps_if (pt_cmpR op_eq (pv 0) pe_str (nomark _))
(pss_one (ps_ret (pe_and (pe_call GIn hr1 (by rfl) gIn kIn bIn .nil pass0 (pa_cons (pv 1) pa_nil)) (pe_one (pe_chain op_le op_le pe_int (pv 1) (pe_call GLp hr1 (by rfl) gLp kLp bLp .nil pass0 (pa_cons (pv 3) (pa_cons (pv 4) (pa_cons (pv 5) pa_nil)))))))))
pss_nil)
(pss_cons (ps_if (pt_cmpR op_in_seq (pv 2) (pe_glob (v := .ref (ga K "NEW")) rfl gNEW rfl) rfl)
(pss_one (ps_ret (pe_and (pe_call GNm hr1 (by rfl) gNm kNm bNm .nil pass0 (pa_cons (pv 1) pa_nil)) (pe_one (pe_cmp (pc_dnotin hu (pv 1) (pv 3)))))))
pss_nil)
(pss_one (ps_ret (pe_and (pe_callB call_isi (by rfl) n_isinstance (by decide +kernel) (pa_cons (pv 1) (pa_cons (pe_bltn (v := .ty "str") (by rfl) n_str (by decide +kernel) rfl) pa_nil))) (pe_one (pe_cmp (pc_din hu (pv 1) (pv 3))))))))))), ?_⟩
    obtain ⟨a, hu2, ha⟩ := hA o ho
    have sR := Same.refl H
    refine ⟨_, rfl, _, rfl, _, o.1, .ref a, rfl, rfl, hu2, a, _, rfl, .inr (ha H), rfl, flat_strs _, _, rfl, ?_⟩
    show if (!inV (V.str name) (o.2.map V.str)) = true then _ else _
    rw [inV_str]
    by_cases c : name ∈ o.2
    · refine no (by rw [decide_eq_true c]; rfl) ⟨_, rfl, rfl, _, rfl, ?_⟩
      by_cases c1 : name = "to"
      · refine yes (decide_eq_true (congrArg V.str c1)) ⟨_, rfl, _, d, rfl, hd, okd, fun G s => q G _ s ?_⟩
        unfold FitV
        rw [if_pos c, if_pos c1]
        constructor
        · intro e
          cases d with
          | str z => exact ⟨z, (dp_strI hd z).mpr rfl, e⟩
          | _ => cases e
        · rintro ⟨z, e, hz⟩
          rw [(dp_strI hd z).mp e]
          exact hz
      · refine no (decide_eq_false fun z => c1 (by injection z)) ⟨_, rfl, rfl, _, rfl, ?_⟩
        by_cases c2 : name = "k"
        · obtain ⟨xs, ts, rfl, rfl⟩ := hk c2 (c2 ▸ c)
          have ef : ∀ b : Bool, (b = true ↔ ∃ (k : Nat), v = .int k ∧ 1 ≤ k ∧ k ≤ lpL L xs ts + 1) → (b = true ↔ FitV o L name v (.str xs) (.str ts)) := fun b hb => by
            unfold FitV
            rw [if_pos c, if_neg c1, if_pos c2, hb]
            exact ⟨fun ⟨k, e, k1, k2⟩ => ⟨k, xs, ts, e, rfl, rfl, k1, k2⟩, fun ⟨k, x2, t2, e, ex, et, k1, k2⟩ => by
              obtain rfl : xs = x2 := by injection ex
              obtain rfl : ts = t2 := by injection et
              exact ⟨k, e, k1, k2⟩⟩
          refine yes (decide_eq_true (congrArg V.str c2)) ⟨_, rfl, _, d, rfl, hd, ?_⟩
          cases hi : isIntD d with
          | false =>
            refine ⟨_, rfl, no rfl (q H false sR (ef _ ⟨(fun e => by cases e), fun ⟨k, e, _⟩ => by rw [(dp_intI hd k).mp e] at hi; cases hi⟩))⟩
          | true =>
            obtain ⟨i, rfl⟩ : ∃ i, d = .int i := by cases d <;> first | exact ⟨_, rfl⟩ | cases hi
            obtain rfl := (dp_intI hd i).mpr rfl
            refine ⟨_, rfl, yes rfl ⟨_, rfl, _, _, rfl, rfl, _, rfl, ?_⟩⟩
            by_cases c3 : (1 : Int) ≤ i
            · refine yes (decide_eq_true c3) ⟨_, rfl, _, rfl, _, rfl, h, L, xs, ts, rfl, hh, wf, hl, fun G s => ⟨_, _, rfl, rfl, q G _ s (ef _ ?_)⟩⟩
              rw [decide_eq_true_eq]
              constructor
              · intro e
                exact ⟨i.toNat, by rw [show ((i.toNat : Nat) : Int) = i by omega], by omega, by omega⟩
              · rintro ⟨k, e, k1, k2⟩
                have : i = (k : Int) := by injection e
                omega
            · refine no (decide_eq_false c3) (q H false sR (ef _ ⟨(fun e => by cases e), fun ⟨k, e, k1, _⟩ => ?_⟩))
              have : i = (k : Int) := by injection e
              omega
        · refine no (decide_eq_false fun z => c2 (by injection z)) ⟨_, rfl, _, _, rfl, .inr (hN H), rfl, rfl, _, rfl, ?_⟩
          show if inV (V.str o.1) (newL.map V.str) = true then _ else _
          rw [inV_str]
          by_cases c3 : o.1 ∈ newL
          · have ef : ∀ b : Bool, (b = true ↔ ∃ z, v = .str z ∧ isNm z = true ∧ z ∉ allL L) → (b = true ↔ FitV o L name v x to) := fun b hb => by
              unfold FitV
              rw [if_pos c, if_neg c1, if_neg c2, if_pos c3, hb]
            refine yes (decide_eq_true c3) ⟨_, rfl, _, d, rfl, hd, okd, fun G s => ?_⟩
            cases hn : nmD d with
            | false =>
              refine ⟨_, rfl, no rfl (q G false s (ef _ ⟨(fun e => by cases e), fun ⟨z, e, hz, _⟩ => ?_⟩))⟩
              rw [(dp_strI hd z).mp e] at hn
              rw [show nmD (.str z) = isNm z from rfl, hz] at hn
              cases hn
            | true =>
              obtain ⟨z, rfl⟩ : ∃ z, d = .str z := by cases d <;> first | exact ⟨_, rfl⟩ | cases hn
              obtain rfl := (dp_strI hd z).mpr rfl
              refine ⟨_, rfl, yes rfl ?_⟩
              by_cases hz : z ∈ allL L
              · obtain ⟨e, he, hx⟩ := mem_all.mp hz
                have g1 : DGet G h (V.str z) (some (V.str e.1)) := .inl ⟨_, .inr z, .inl (s _ _ hh), rfl, (hm_val wf he hx).symm⟩
                exact ⟨_, rfl, _, rfl, h, _, rfl, g1, q G _ s (ef _ ⟨(fun e => by cases e), fun ⟨z2, e, _, h3⟩ => by injection e with e; subst e; exact absurd hz h3⟩)⟩
              · have g1 : DGet G h (V.str z) none := .inl ⟨_, .inr z, .inl (s _ _ hh), rfl, (hm_none hz).symm⟩
                exact ⟨_, rfl, _, rfl, h, _, rfl, g1, q G _ s (ef _ ⟨fun _ => ⟨z, rfl, hn, hz⟩, fun _ => rfl⟩)⟩
          · have ef : ∀ b : Bool, (b = true ↔ ∃ z, v = .str z ∧ z ∈ allL L) → (b = true ↔ FitV o L name v x to) := fun b hb => by
              unfold FitV
              rw [if_pos c, if_neg c1, if_neg c2, if_neg c3, hb]
            refine no (decide_eq_false c3) ⟨_, rfl, _, _, _, _, _, rfl, .ty _, dp_ty hd, kit_str d, _, rfl, ?_⟩
            cases hs : isStrD d with
            | false =>
              refine no rfl (q H false sR (ef _ ⟨(fun e => by cases e), fun ⟨z, e, _⟩ => ?_⟩))
              rw [(dp_strI hd z).mp e] at hs
              cases hs
            | true =>
              obtain ⟨z, rfl⟩ : ∃ z, d = .str z := by cases d <;> first | exact ⟨_, rfl⟩ | cases hs
              obtain rfl := (dp_strI hd z).mpr rfl
              refine yes rfl ?_
              by_cases hz : z ∈ allL L
              · obtain ⟨e, he, hx⟩ := mem_all.mp hz
                have g1 : DGet H h (V.str z) (some (V.str e.1)) := .inl ⟨_, .inr z, .inl hh, rfl, (hm_val wf he hx).symm⟩
                exact ⟨_, rfl, _, rfl, h, _, rfl, g1, q H _ sR (ef _ ⟨fun _ => ⟨z, rfl, hz⟩, fun _ => rfl⟩)⟩
              · have g1 : DGet H h (V.str z) none := .inl ⟨_, .inr z, .inl hh, rfl, (hm_none hz).symm⟩
                exact ⟨_, rfl, _, rfl, h, _, rfl, g1, q H _ sR (ef _ ⟨(fun e => by cases e), fun ⟨z2, e, h3⟩ => by injection e with e; subst e; exact absurd h3 hz⟩)⟩
    · refine yes (by rw [decide_eq_false c]; rfl) ⟨_, rfl, rfl, q H _ sR ?_⟩
      unfold FitV
      rw [if_neg c, decide_eq_true_eq]
/-- the arguments in their order, and the first that does not fit -/
def nth (x y to k : V) : Str → V := fun nm => if nm = "x" then x else if nm = "y" then y else if nm = "to" then to else k
def nms4 : List Str := ["x", "y", "to", "k"]
def Wrong (o : Str × List Str) (L : LL) (x y to k : V) (nm : Str) : Prop := ∃ i, nms4[i]? = some nm ∧ (∀ z ∈ nms4.take i, FitV o L z (nth x y to k z) x to) ∧ ¬ FitV o L nm (nth x y to k nm) x to
theorem ok_bci {f : Addr} {fd : FuncData} (F : FunD K "__init__" "BadCall.__init__" (defArgs sBCI) (defBody sBCI) (defScope sBCI) [] [] f fd) (B : ErBC K) : FnOk P w K mg base CX0 1 f fd ["self", "argument"] (spX1 (ga K "BadCall") "argument") := by
  refine F.ok (show FnScope ["self", "argument"] ["self", "argument"] (defScope sBCI) from ⟨rfl, rfl, rfl, by decide +kernel, rfl, by decide +kernel, by decide +kernel⟩) (fun vs H Q E h => ?_) (fun cdv A outer s H vs Q E hr h => ?_)
  · obtain ⟨a, x, H0, rfl, _⟩ := h
    rfl
  · obtain ⟨a, x, H0, rfl, rfl, ha, k⟩ := h
    refine ⟨_, PSs.nox (pss_one (ps_st (pv 0) (pv 1))), ?_⟩
    refine ⟨_, rfl, _, rfl, a, _, _, _, rfl, B.T, bsV, B.no _ List.mem_cons_self, .inl ⟨upd_same, fun d hd hda => ?_⟩⟩
    exact k d _ ((upd_ne hda).symm.trans hd) hda upd_same ((upd_ne hda).trans upd_same) (fun x n1 n2 => (upd_ne n1).trans ((upd_ne n2).trans (upd_ne n1)))
def spChkB (K : PySem.W.Frag) : Sp := fun vs H Q E => ∃ (o : Str × List Str) (h : Addr) (L : LL) (x y to k : V) (dx dy dt dk : PyData), vs = [.str o.1, .ref h, x, y, to, k] ∧ o ∈ args ∧ H h = some (.dK (hmL L)) ∧ WF L ∧ (allL L).length ≤ 2000 ∧ Dp K H x dx ∧ okN dx ∧ Dp K H y dy ∧ okN dy ∧ Dp K H to dt ∧ okN dt ∧ Dp K H k dk ∧ okN dk ∧ ∃ nm, Wrong o L x y to k nm ∧ Raised (ga K "BadCall") H [("argument", .str nm)] E
theorem ok_chkb {f fFi : Addr} {fd fdFi fdE : FuncData} (F : FnP K "check_call" sChk f fd) (BC : ErBC K) (gBC : mg "BadCall" = some (.ref (ga K "BadCall")))
    (FE : FunD K "__init__" "BadCall.__init__" (defArgs sBCI) (defBody sBCI) (defScope sBCI) [] [] (ma K (ga K "BadCall") "__init__") fdE)
    (GFi : FnOk P w K mg base CX0 2 fFi fdFi ["name", "worth", "op", "homes", "x", "to"] (spFitG K)) (bFi : Binds K fdFi ["name", "worth", "op", "homes", "x", "to"] []) (kFi : PySem.W.keepIn K (.ref fFi) = true) (gFi : mg "_fits" = some (.ref fFi)) :
    FnOk P w K mg base (L2N.CX P w) 3 f fd ["op", "homes", "x", "y", "to", "k"] (spChkB K) := by
  have GE : FnOk P w K mg base CX0 1 (ma K (ga K "BadCall") "__init__") fdE ["self", "argument"] (spX1 (ga K "BadCall") "argument") := ok_bci FE BC
  have bE : Binds K fdE ["self", "argument"] [] := FE.bindsN fun _ _ _ _ _ _ us hl => match us, hl with | [_, _], _ => rfl
  refine F.ok scChk (fun vs H Q E h => ?_) (fun cdv A outer s H vs Q E hr h => ?_)
  · obtain ⟨o, h, L, x, y, to, k, dx, dy, dt, dk, rfl, _⟩ := h
    rfl
  · obtain ⟨o, h, L, x, y, to, k, dx, dy, dt, dk, rfl, ho, hh, wf, hl, hx, ox, hy, oy, ht, ot, hk, ok, nm, ⟨iw, hiw, pre, bad⟩, ra⟩ := h
    have nd := scChk.nd
    have hr2 := hr.mono (j := 2) (by decide)
    refine ⟨_, (by exact (pss_one (ps_for (passes_of rfl) rfl (by exact (pi_tup (pe_tup (pa_cons (pe_tup (pa_cons pe_str (pa_cons (pv 2) pa_nil))) (pa_cons (pe_tup (pa_cons pe_str (pa_cons (pv 3) pa_nil))) (pa_cons (pe_tup (pa_cons pe_str (pa_cons (pv 4) pa_nil))) (pa_cons (pe_tup (pa_cons pe_str (pa_cons (pv 5) pa_nil))) pa_nil))))))) (pg_tup rfl (pgs_cons (pg_name (i := 6) nd rfl (Or.inl rfl)) (pgs_cons (pg_name (i := 7) nd rfl (Or.inl rfl)) pgs_nil))) (pss_one (ps_if (pt_not (pt_val (pe_call GFi hr2 (by rfl) gFi kFi bFi .nil pass0 (pa_cons (pv 6) (pa_cons (pv 7) (pa_cons (pv 0) (pa_cons (pv 1) (pa_cons (pv 2) (pa_cons (pv 4) pa_nil)))))))))
(pss_one (L2N.ps_raise rfl (L2N.takes_of rfl rfl rfl rfl) (by exact (pmk_x BC.T BC.ty bsV BC.iC BC.fn GE hr2 bE pass0 rfl gBC (pa_cons (pv 6) pa_nil)))))
pss_nil))))), ?_⟩
    have two : 2 ≤ sizeLine := by decide
    refine ⟨_, rfl, two, fun T1 n1 => ?_⟩
    have t1 : SqT K (upd H T1 (.tup [.str "x", x])) T1 [.str "x", x] := SqT.of upd_same
    have s1 := same_put (o := .tup [.str "x", x]) n1
    generalize upd H T1 (.tup [.str "x", x]) = G1 at t1 s1 ⊢
    refine ⟨_, rfl, two, fun T2 n2 => ?_⟩
    have t2 : SqT K (upd G1 T2 (.tup [.str "y", y])) T2 [.str "y", y] := SqT.of upd_same
    have s2 := same_put (o := .tup [.str "y", y]) n2
    generalize upd G1 T2 (.tup [.str "y", y]) = G2 at t2 s2 ⊢
    refine ⟨_, rfl, two, fun T3 n3 => ?_⟩
    have t3 : SqT K (upd G2 T3 (.tup [.str "to", to])) T3 [.str "to", to] := SqT.of upd_same
    have s3 := same_put (o := .tup [.str "to", to]) n3
    generalize upd G2 T3 (.tup [.str "to", to]) = G3 at t3 s3 ⊢
    refine ⟨_, rfl, two, fun T4 n4 => ?_⟩
    have t4 : SqT K (upd G3 T4 (.tup [.str "k", k])) T4 [.str "k", k] := SqT.of upd_same
    have s4 := same_put (o := .tup [.str "k", k]) n4
    generalize upd G3 T4 (.tup [.str "k", k]) = G4 at t4 s4 ⊢
    refine ⟨(by show 4 ≤ sizeLine; decide), fun T nT => ?_⟩
    have t5 : SqT K (upd G4 T (.tup [V.ref T1, V.ref T2, V.ref T3, V.ref T4])) T [V.ref T1, V.ref T2, V.ref T3, V.ref T4] := SqT.of upd_same
    have s5 := same_put (o := .tup [V.ref T1, V.ref T2, V.ref T3, V.ref T4]) nT
    generalize upd G4 T (.tup [V.ref T1, V.ref T2, V.ref T3, V.ref T4]) = G5 at t5 s5 ⊢
    have at5 : ∀ (i : Nat) (v : V), ([V.ref T1, V.ref T2, V.ref T3, V.ref T4] : List V)[i]? = some v → ∃ (T : Addr) (nm : Str) (d : PyData), v = V.ref T ∧ SqT K G5 T [.str nm, nth x y to k nm] ∧ nms4[i]? = some nm ∧ Dp K H (nth x y to k nm) d ∧ okN d ∧ (nm = "k" → i = 3) := by
      intro i v hi
      match i, hi with
      | 0, hi => exact ⟨T1, _, dx, (Option.some.inj hi).symm, (((t1.mv s2).mv s3).mv s4).mv s5, rfl, hx, ox, (by decide)⟩
      | 1, hi => exact ⟨T2, _, dy, (Option.some.inj hi).symm, ((t2.mv s3).mv s4).mv s5, rfl, hy, oy, (by decide)⟩
      | 2, hi => exact ⟨T3, _, dt, (Option.some.inj hi).symm, (t3.mv s4).mv s5, rfl, ht, ot, (by decide)⟩
      | 3, hi => exact ⟨T4, _, dk, (Option.some.inj hi).symm, t4.mv s5, rfl, hk, ok, fun _ => rfl⟩
      | n + 4, hi => exact nomatch hi
    have s5 : Same H G5 := (((s1.trans s2).trans s3).trans s4).trans s5
    have iw4 : iw < 4 := (List.getElem?_eq_some_iff.mp hiw).1
    refine ⟨T, rfl, ⟨_, t5⟩, ?_⟩
    refine for_it (walk_tup (K := K) (a := T) (xs := ([V.ref T1, V.ref T2, V.ref T3, V.ref T4] : List V))) (fun i σ G => ∃ y6 y7, σ = [some (.str o.1), some (.ref h), some x, some y, some to, some k, y6, y7] ∧ Same G5 G ∧ i ≤ iw) ⟨_, _, rfl, Same.refl _, Nat.zero_le _⟩ (fun i σ G _ h => by obtain ⟨_, _, _, s, _⟩ := h; exact t5.mv s) ?_ ?_
    · rintro i v σ G' G hi ⟨y6, y7, rfl, sG, li⟩ ⟨rfl, hv⟩
      obtain ⟨T', nm', d', rfl, tT, hnm, hd, okd, hk3⟩ := at5 i v hv
      refine ⟨_, _, rfl, tT.mv sG, rfl, _, _, rfl, _, _, rfl, rfl, ?_⟩
      dsimp only [gName, List.set]
      have preI : ∀ z ∈ nms4.take i, FitV o L z (nth x y to k z) x to := fun z hz => pre z ((List.take_subset_take_left nms4 li) hz)
      refine ⟨_, rfl, _, rfl, _, rfl, _, rfl, _, rfl, _, rfl, nm', o, h, L, _, x, to, d', rfl, ho, sG _ _ (s5 _ _ hh), wf, hl, hd.mv (s5.trans sG), okd, fun e hko => ?_, fun G2 b s2 hb => ?_⟩
      · obtain rfl := hk3 e
        have f1 := preI "x" (by decide)
        have f2 := preI "to" (by decide)
        have f1 : FitV o L "x" x x to := f1
        have f2 : FitV o L "to" to x to := f2
        have hto := (by decide +kernel : ∀ o ∈ args, ("k" : Str) ∈ o.2 → ("to" : Str) ∈ o.2) o ho hko
        unfold FitV at f1 f2
        rw [if_pos (arg_x o ho), if_neg (by decide), if_neg (by decide)] at f1
        rw [if_pos hto, if_pos rfl] at f2
        obtain ⟨ts, e2, _⟩ := f2
        have : ∃ xs, x = .str xs := by
          split at f1
          · obtain ⟨xs, e1, _⟩ := f1; exact ⟨xs, e1⟩
          · obtain ⟨xs, e1, _⟩ := f1; exact ⟨xs, e1⟩
        obtain ⟨xs, e1⟩ := this
        exact ⟨xs, ts, e1, e2⟩
      · rcases Nat.lt_or_eq_of_le li with lt | rfl
        · have fit : FitV o L nm' (nth x y to k nm') x to := pre nm' (List.mem_of_getElem? (i := i) (by rw [List.getElem?_take_of_lt lt]; exact hnm))
          obtain rfl := hb.mpr fit
          exact ⟨_, rfl, no rfl ⟨_, _, rfl, sG.trans s2, lt⟩⟩
        · obtain rfl : nm = nm' := Option.some.inj (hiw.symm.trans hnm)
          have eb : b = false := by
            cases b with
            | false => rfl
            | true => exact absurd (hb.mp rfl) bad
          subst eb
          exact ⟨_, rfl, yes rfl ⟨_, rfl, (by show 1 ≤ 1000; decide), fun e he => ⟨e, _, G2, rfl, rfl, he, fun d' H' hd' hde h1 h2 h3 => ⟨rfl, d', _, h1, h2, hd', raised_at (ra.mv ((s5.trans sG).trans s2)) he hd' hde h3⟩⟩⟩⟩
    · rintro σ G ⟨y6, y7, rfl, sG, li⟩
      exact absurd (show 4 ≤ iw from li) (by omega)
end
end K11

set_option Elab.async false
set_option maxRecDepth 100000
set_option maxHeartbeats 2000000
namespace K11
open PySem PySem.Spec PyProof.Rows L2 He KX StX
-- ["lists", "op", "x", "y", "to", "k", "rows", "homes", "after", "at", "lst", "row"]
/-- a call that is refused -/
def spAppB (K : PySem.W.Frag) : Sp := fun vs H Q E => ∃ (p : Addr) (u x y to k : V) (d : PyData), vs = [.ref p, u, x, y, to, k] ∧ Dp K H u d ∧ SeqAt.shaped d = true ∧
  ((inS ops d = false ∧ Raised (ga K "BadOperation") H [("op", u)] E) ∨ ∃ (o : Str × List Str) (L : LL) (dx dy dt dk : PyData) (nm : Str), o ∈ args ∧ d = .str o.1 ∧ DL H p L ∧ WF L ∧ (allL L).length ≤ 2000 ∧ Dp K H x dx ∧ okN dx ∧ Dp K H y dy ∧ okN dy ∧ Dp K H to dt ∧ okN dt ∧ Dp K H k dk ∧ okN dk ∧ Wrong o L x y to k nm ∧ Raised (ga K "BadCall") H [("argument", .str nm)] E)
section
variable {P : Program} {w : World} {K : PySem.W.Frag} {mg : Str → Option Value} {base : Heap}
theorem ok_appb {f fA fC : Addr} {fd fdA fdC : FuncData} (F : FunD K "apply" "apply" (defArgs sApp) (defBody sApp) (defScope sApp) [] [("x", .non), ("y", .non), ("to", .non), ("k", .non)] f fd)
    (GA : FnOk P w K mg base (L2N.CX P w) 3 fA fdA ["op"] (spArg K)) (bA : Binds K fdA ["op"] []) (kA : PySem.W.keepIn K (.ref fA) = true) (gA : mg "arguments_of" = some (.ref fA))
    (GC : FnOk P w K mg base (L2N.CX P w) 3 fC fdC ["op", "homes", "x", "y", "to", "k"] (spChkB K)) (bC : Binds K fdC ["op", "homes", "x", "y", "to", "k"] []) (kC : PySem.W.keepIn K (.ref fC) = true) (gC : mg "check_call" = some (.ref fC)) :
    FnOk P w K mg base (L2N.CX P w) 4 f fd ["lists", "op", "x", "y", "to", "k"] (spAppB K) := by
  refine F.ok scApp (fun vs H Q E h => ?_) (fun cdv A outer s H vs Q E hr h => ?_)
  · obtain ⟨p, u, x, y, to, k, d, rfl, _⟩ := h
    rfl
  · obtain ⟨p, u, x, y, to, k, d, rfl, hd, ds, cs⟩ := h
    have nd := scApp.nd
    have hr3 := hr.mono (j := 3) (by decide)
    have hr1 := hr.mono (j := 1) (by decide)
    have hu : (A.deeper (envOfC "apply" (defScope sApp) s.heap.objs.size f cdv)).units + 1 < cLine := by have := hr.un; omega
    refine ⟨_, (by exact (pss_cons (ps_expr (by exact (pe_callS GA hr3 (by rfl) gA kA bA (fun σ => L2N.passAt (L2N.takes_of rfl rfl rfl rfl) σ) (pa_cons (pv 1) pa_nil))))
(pss_cons (ps_lock (ps_setDc2 (j := 7) (own := [("lst", 10), ("rows", 6), ("row", 11)]) (vs' := [11]) (g := (gTup K 2 (gCons (gName 10) (gCons (gName 6) gNil)))) (g' := (gName 11)) (tt := tYes) (tt' := tYes) rfl nd rfl rfl (swd_true rfl rfl rfl (by decide +kernel)) (pi_items (pv 0)) (blkOk_by (own := [("lst", 10), ("rows", 6), ("row", 11)]) (N := ["lists", "op", "x", "y", "to", "k", "rows", "homes", "after", "at", "lst", "row"]) (sc := defScope sApp) (by decide +kernel)) (by decide) (fun _ _ _ _ _ => (pg_tup rfl (pgs_cons (pg_name (i := 10) nd rfl (Or.inl rfl) (.inr rfl)) (pgs_cons (pg_name (i := 6) nd rfl (Or.inl rfl) (.inr rfl)) pgs_nil)))) (fun _ _ _ _ _ => pts_nil) (fun _ _ _ _ _ => show PI _ _ _ (iList K (tVar 6)) from pi_list (pv 6)) (fun _ _ _ _ _ => pg_name (i := 11) nd rfl (Or.inl rfl)) (fun _ _ _ _ _ => pts_nil) (fun _ _ _ _ _ => pv 11) (fun _ _ _ _ _ => pv 10)))
(pss_cons (ps_expr (by exact (pe_callS GC hr3 (by rfl) gC kC bC (fun σ => L2N.passAt (L2N.takes_of rfl rfl rfl rfl) σ) (pa_cons (pv 1) (pa_cons (pv 7) (pa_cons (pv 2) (pa_cons (pv 3) (pa_cons (pv 4) (pa_cons (pv 5) pa_nil)))))))))
(pss_cons (ps_never)
(pss_cons (ps_never)
(pss_cons (ps_never)
(pss_cons (ps_never)
(pss_one (ps_never)))))))))), ?_⟩
    refine ⟨_, rfl, u, d, rfl, hd, ds, fun o2 ho2 e a ha => ?g1, fun hi => ?g2⟩
    case g2 =>
      rcases cs with ⟨_, ra⟩ | ⟨o, L, dx, dy, dt, dk, nm, ho, rfl, _⟩
      · exact ra
      · rw [(arg_shaped o ho).2] at hi; cases hi
    case g1 =>
    rcases cs with ⟨hi, _⟩ | ⟨o, _, dx, dy, dt, dk, nm, ho, rfl, ⟨T0, rfl, hT⟩, wf, hl, hx, ox, hy, oy, ht, ot, hk, ok, wr, ra⟩
    · rw [e, (arg_shaped o2 ho2).2] at hi; cases hi
    obtain rfl := dp_str hd
    dsimp only
    refine seq_by (fun σ G => ∃ h, σ = [some (.ref p), some (.str o.1), some x, some y, some to, some k, none, some (.ref h), none, none, none, none] ∧ Same H G ∧ G h = some (.dK (hmL (lT T0)))) ?_ (fun nxt => ?_)
    · rintro σ G ⟨h, rfl, sG, hh⟩
      refine ⟨_, rfl, _, rfl, _, rfl, _, rfl, _, rfl, _, rfl, o, h, lT T0, x, y, to, k, dx, dy, dt, dk, rfl, ho, hh, wf, hl, hx.mv sG, ox, hy.mv sG, oy, ht.mv sG, ot, hk.mv sG, ok, nm, wr, ?_⟩
      exact ra.mv sG
    · refine ⟨p, _, hT.at_, trivial, fun od => ?_⟩
      have fd0 : upd H p (.frz od (.dK (kvT T0))) p = some (.frz od (.dK (kvT T0))) := upd_same
      have back := fun G => frz_back (G := G) (od := od) hT.at_
      have lists : ∀ t ∈ T0, upd H p (.frz od (.dK (kvT T0))) t.2.2 = some (.lst (t.2.1.map V.str)) := fun t ht => by
        refine (upd_ne fun e => ?_).trans (hT.all t ht)
        have := hT.all t ht
        rw [e, hT.at_] at this
        cases this
      generalize upd H p (.frz od (.dK (kvT T0))) = Hf at fd0 back lists ⊢
      refine ⟨_, rfl, p, od, kvT T0, rfl, fd0, fun D nD => ?_⟩
      have npD : p ≠ D := ne_of_none fd0 nD
      refine dc2_it (walk_items (d := p) (o := od) (kvs := kvT T0)) (fun i G => G D = some (.dK (hmL (lT (T0.take i)))) ∧ Same Hf G) ⟨upd_same, same_put nD⟩ (fun i G _ h => h.2 _ _ fd0) ?_ ?_
      · rintro i v G' G hi ⟨hD, sG⟩ ⟨T, u, u2, rfl, nT, rfl, hu', hv'⟩
        obtain ⟨kv, hkv, hu2⟩ := Option.map_eq_some_iff.mp hu'
        obtain ⟨kv2, hkv2, hv2⟩ := Option.map_eq_some_iff.mp hv'
        rw [hkv] at hkv2
        obtain rfl := Option.some.inj hkv2
        obtain ⟨t, ht, rfl⟩ := Option.map_eq_some_iff.mp ((List.getElem?_map ..).symm.trans hkv)
        obtain rfl : V.str t.1 = u := hu2
        obtain rfl : V.ref t.2.2 = u2 := hv2
        have htm := List.mem_of_getElem? ht
        generalize e_G2 : upd _ T _ = G2
        have s_T := new_same e_G2 nT
        have f_T := new_at e_G2
        clear e_G2
        have hD := hD.mv s_T
        have sG := sG.mv s_T
        refine ⟨_, _, rfl, SqT.of f_T, rfl, _, _, rfl, _, _, rfl, rfl, rfl, ?_⟩
        dsimp only [tYes]
        rw [if_pos rfl]
        have hl2 : SqL K G2 t.2.2 (t.2.1.map V.str) := SqL.of (sG _ _ (lists t htm))
        refine ⟨_, rfl, _, rfl, ⟨_, hl2⟩, ?_⟩
        have eT : hmL (lT (T0.take (i + 1))) = hmL (lT (T0.take i)) ++ t.2.1.map fun r => ((Sum.inr r : Key), V.str t.1) := by
          rw [take_at ht, lT_app, hm_app]
          show _ ++ (t.2.1.map _ ++ []) = _
          rw [List.append_nil]
        refine ind_it (walk_list (K := K) (a := t.2.2) (xs := t.2.1.map V.str)) (fun j G => G D = some (.dK (hmL (lT (T0.take i)) ++ (t.2.1.take j).map fun r => ((Sum.inr r : Key), V.str t.1))) ∧ Same Hf G) ⟨by rw [List.take_zero, List.map_nil, List.append_nil]; exact hD, sG⟩ (fun j G _ h => SqL.of (h.2 _ _ (lists t htm))) ?_ ?_
        · rintro j v G3 G4 hj ⟨hD3, sG3⟩ ⟨rfl, hv⟩
          obtain ⟨r, hr, rfl⟩ := Option.map_eq_some_iff.mp ((List.getElem?_map ..).symm.trans hv)
          obtain ⟨p1, p2⟩ := hm_pre wf.rn ht hr
          refine ⟨rfl, ?_⟩
          dsimp only [tYes]
          rw [if_pos rfl]
          refine ⟨_, rfl, _, rfl, _, .inr r, rfl, hD3, by rw [sizeLine_eq]; omega, ?_, fun y o e => (upd_ne (ne_of_none e nD)).trans (sG3 _ _ e)⟩
          rw [upd_same, putK_new _ p1, take_at hr, List.map_append, List.append_assoc]
          rfl
        · rintro G3 ⟨hD3, sG3⟩
          rw [List.length_map, List.take_length, ← eT] at hD3
          exact ⟨hD3, sG3⟩
      · rintro G ⟨hD, sG⟩
        rw [List.take_of_length_le (by unfold kvT; rw [List.length_map]; exact Nat.le_refl _)] at hD
        exact ⟨sG _ _ fd0, nxt _ _ ⟨D, rfl, back G sG, (upd_ne npD.symm).trans hD⟩⟩
end
end K11

set_option Elab.async false
/-! Promises of defs that raise nothing serve where something may be raised; two promises are one. -/
namespace KX
open PySem PySem.Spec PyProof.Rows L2 He
theorem fnOk_lift {P : Program} {w : World} {K : PySem.W.Frag} {mg : Str → Option Value} {base : Heap} {CX : CXT} {k : Nat} {f : Addr} {fd : FuncData} {ps : List Str} {sp : Sp} (F : FnOk P w K mg base CX0 k f fd ps sp) : FnOk P w K mg base CX k f fd ps sp :=
  ⟨F.len, fun A outer s H args us vs Q E hr he hb hv h => codeAny_mono (F.run A outer s H args us vs Q E hr he hb hv h) fun r s' c => by
    match r, c with
    | .ok (.ret u), c => exact c
    | .error e, c => exact c.elim⟩
theorem fnOk_or {P : Program} {w : World} {K : PySem.W.Frag} {mg : Str → Option Value} {base : Heap} {CX : CXT} {k : Nat} {f : Addr} {fd : FuncData} {ps : List Str} {sp sp' : Sp} (F : FnOk P w K mg base CX k f fd ps sp) (F' : FnOk P w K mg base CX k f fd ps sp') : FnOk P w K mg base CX k f fd ps (fun vs H Q E => sp vs H Q E ∨ sp' vs H Q E) :=
  ⟨fun vs H Q E h => h.elim (F.len vs H Q E) (F'.len vs H Q E), fun A outer s H args us vs Q E hr he hb hv h => h.elim (F.run A outer s H args us vs Q E hr he hb hv) (F'.run A outer s H args us vs Q E hr he hb hv)⟩
end KX

set_option Elab.async false
set_option maxRecDepth 100000
set_option maxHeartbeats 2000000
namespace K11
open PySem PySem.Spec PyProof.Rows L2 He KX StX
abbrev sLIs : Stmt := top 32
abbrev sEx : Stmt := top 34
-- ["lists", "op", "one", "mate", "goal", "place", "needs", "home", "others", "row"]
/-- what an argument may be: a scalar, or a list or tuple of texts -/
def AV (b : Addr) (H : Hp) (v : V) (d : PyData) : Prop := (v = .non ∧ d = .none) ∨ (∃ c, v = .bl c ∧ d = .bool c) ∨ (∃ i, v = .int i ∧ d = .int i) ∨ (∃ z, v = .str z ∧ d = .str z ∧ z.length ≤ 1000) ∨
  (∃ (p : Addr) (zs : List Str), v = .ref p ∧ p ≠ b ∧ H p = some (.lst (zs.map V.str)) ∧ d = .list (zs.map PyData.str)) ∨ ∃ (p : Addr) (zs : List Str), v = .ref p ∧ p ≠ b ∧ H p = some (.tup (zs.map V.str)) ∧ d = .tuple (zs.map PyData.str)
theorem AV.dp {K : PySem.W.Frag} {b : Addr} {H : Hp} {v : V} {d : PyData} (h : AV b H v d) : Dp K H v d ∧ okN d := by
  rcases h with ⟨rfl, rfl⟩ | ⟨c, rfl, rfl⟩ | ⟨i, rfl, rfl⟩ | ⟨z, rfl, rfl, hz⟩ | ⟨p, zs, rfl, _, hp, rfl⟩ | ⟨p, zs, rfl, _, hp, rfl⟩
  · exact ⟨.non, fun z e => by cases e⟩
  · exact ⟨.bl c, fun z e => by cases e⟩
  · exact ⟨.int i, fun z e => by cases e⟩
  · exact ⟨.str z, fun y e => by injection e with e; subst e; exact hz⟩
  · exact ⟨.lst (SqL.of hp) (strs_dp zs), fun z e => by cases e⟩
  · exact ⟨.tup (SqT.of hp) (strs_dp zs), fun z e => by cases e⟩
theorem AV.keep {b : Addr} {H G : Hp} {v : V} {d : PyData} (h : AV b H v d) (k : Kept b H G) : AV b G v d := by
  rcases h with h | h | h | h | ⟨p, zs, e, n, hp, e2⟩ | ⟨p, zs, e, n, hp, e2⟩
  · exact .inl h
  · exact .inr (.inl h)
  · exact .inr (.inr (.inl h))
  · exact .inr (.inr (.inr (.inl h)))
  · exact .inr (.inr (.inr (.inr (.inl ⟨p, zs, e, n, k _ _ n hp, e2⟩))))
  · exact .inr (.inr (.inr (.inr (.inr ⟨p, zs, e, n, k _ _ n hp, e2⟩))))
/-- _law_expected: none if all fit, else the first that does not -/
def AllFit (o : Str × List Str) (L : LL) (x y to k : V) : Prop := ∀ z ∈ nms4, FitV o L z (nth x y to k z) x to
def spEx (K : PySem.W.Frag) : Sp := fun vs H Q _ => ∃ (p : Addr) (o : Str × List Str) (L : LL) (x y to k : V) (dx dy dt dk : PyData) (m : Nat), vs = [.ref p, .str o.1, x, y, to, k] ∧ o ∈ args ∧ DL H p L ∧ Br m L ∧ m ≤ 10 ∧ Dp K H x dx ∧ okN dx ∧ Dp K H y dy ∧ okN dy ∧ Dp K H to dt ∧ okN dt ∧ Dp K H k dk ∧ okN dk ∧
  (AllFit o L x y to k → ∀ G, Same H G → Q .non G) ∧ ∀ nm, Wrong o L x y to k nm → ∀ G, Same H G → Q (.str nm) G
section
variable {P : Program} {w : World} {K : PySem.W.Frag} {mg : Str → Option Value} {base : Heap}
theorem scLName : FnScope ["thing", "letter"] ["thing"] (defScope sLIs) := ⟨rfl, rfl, rfl, by decide +kernel, rfl, by decide +kernel, by decide +kernel⟩
theorem ok_lname {f : Addr} {fd : FuncData} (F : FnP K "_law_is_name" sLIs f fd) (n_isinstance : mg "isinstance" = none) (n_str : mg "str" = none) (n_len : mg "len" = none) (n_all : mg "all" = none) : FnOk P w K mg base CX0 1 f fd ["thing"] (spName K) := by
  refine F.ok scLName (fun vs H Q E h => ?_) (fun cdv A outer s H vs Q E hr h => ?_)
  · obtain ⟨x, t, rfl, _⟩ := h
    rfl
  · obtain ⟨x, d, rfl, hk, ho, k⟩ := h
    have nd := scLName.nd
    refine ⟨_, PSs.nox (pss_cons (ps_if (PW.pt (pw_or (pt_not (pt_val (pe_callB call_isi (by rfl) n_isinstance (by decide +kernel) (pa_cons (pv 0) (pa_cons (pe_bltn (v := .ty "str") (by rfl) n_str (by decide +kernel) rfl) pa_nil))))) (pw_or (pt_cmpR op_lt (pe_callB call_len_str (by rfl) n_len PySem.boot_len (pa_cons (pv 0) pa_nil)) pe_int (nomark _)) (pw_or1 (pt_cmpR op_gt (pe_callB call_len_str (by rfl) n_len PySem.boot_len (pa_cons (pv 0) pa_nil)) pe_int (nomark _))))))
(pss_one (ps_ret pe_bl))
pss_nil)
(pss_one (ps_ret (pe_callB (cr_all rfl) (by rfl) n_all (by decide +kernel) (pa_cons (pe_lc (own := [("letter", 1)]) (g := (gName 1)) (tt := tYes) rfl nd (pi_str (pv 0)) (blkOk_by (own := [("letter", 1)]) (N := ["thing", "letter"]) (sc := defScope sLIs) (by decide +kernel)) (fun _ _ _ _ _ => (pg_name (i := 1) nd rfl (Or.inl rfl))) (fun _ _ _ _ _ => pts_nil) (fun _ _ _ _ _ => (pe_cmpR op_in_sign (pv 1) pe_str rfl))) pa_nil))))), ?_⟩
    refine ⟨_, rfl, _, _, _, _, _, rfl, .ty _, dp_ty hk, kit_str d, _, rfl, ?_⟩
    by_cases hs : isStrD d = true
    · obtain ⟨z, rfl⟩ : ∃ z, d = .str z := by cases d <;> first | exact ⟨_, rfl⟩ | cases hs
      have hz := ho z rfl
      cases hk with
      | str =>
        have hzl : z.length ≤ sizeLine := by rw [sizeLine_eq]; omega
        refine ⟨_, rfl, _, rfl, hzl, _, _, rfl, rfl, _, rfl, ite2' (fun c1 => ?_) (fun c1 => ?_)⟩
        · have e := nm_short (z := z) (by have := of_decide_eq_true c1; omega)
          have q := k H (Same.refl H)
          rw [show nmD (.str z) = isNm z from rfl, e] at q
          exact q
        · have n1 : ¬ z.length < 1 := by have := of_decide_eq_false c1; omega
          refine ⟨_, rfl, _, rfl, hzl, _, _, rfl, rfl, _, rfl, ite2' (fun c2 => ?_) (fun c2 => ?_)⟩
          · have e := nm_long (z := z) (by have := of_decide_eq_true c2; omega)
            have q := k H (Same.refl H)
            rw [show nmD (.str z) = isNm z from rfl, e] at q
            exact q
          · have n2 : ¬ z.length > 8 := by have := of_decide_eq_false c2; omega
            refine ⟨_, rfl, z, rfl, fun D nD => ?_⟩
            refine lc_it (walk_str (z := z)) (fun i G => G D = some (.lst (((z.cps.toList.take i).map isLet).map V.bl)) ∧ Same H G) ⟨upd_same, same_put nD⟩ (fun _ _ _ _ => trivial) ?_ ?_
            · rintro i x G' G hi ⟨hD, s1⟩ ⟨rfl, c, hc, rfl⟩
              refine ⟨rfl, ?_⟩
              dsimp only [tYes]
              rw [if_pos rfl]
              have hcl : z.cps.toList[i]? = some c := by rw [Array.getElem?_toList]; exact hc
              refine ⟨_, rfl, c, _, rfl, rfl, ?_⟩
              rw [mem_letters]
              refine ⟨_, hD, ?_, ?_, fun y o e => ?_⟩
              · rw [List.length_map, List.length_map, List.length_take, sizeLine_eq]
                have e1 : z.cps.toList.length ≤ 1000 := by rw [Array.length_toList]; exact hz
                exact Nat.lt_of_le_of_lt (Nat.min_le_right _ _) (by omega)
              · rw [upd_same, take_at hcl, List.map_append, List.map_append]
                rfl
              · rw [upd_ne (ne_of_none e nD)]
                exact s1 _ _ e
            · rintro G ⟨hD, s1⟩
              have hsz : z.cps.toList.take z.cps.size = z.cps.toList := by rw [← Array.length_toList, List.take_length]
              rw [hsz] at hD
              refine ⟨D, z.cps.toList.map isLet, rfl, SqL.of hD, ?_⟩
              have q := k G s1
              rw [show nmD (.str z) = isNm z from rfl, nm_mid n1 n2] at q
              have e : (z.cps.toList.map isLet).all id = z.cps.toList.all isLet := by rw [List.all_map]; rfl
              rw [e]
              exact q
    · have e : isStrD d = false := Bool.eq_false_iff.mpr hs
      rw [e]
      have q := k H (Same.refl H)
      rw [nm_off e] at q
      exact q
theorem scEx : FnScope ["lists", "op", "one", "mate", "goal", "place", "needs", "home", "others", "row"] ["lists", "op", "one", "mate", "goal", "place"] (defScope sEx) := ⟨rfl, rfl, rfl, by decide +kernel, rfl, by decide +kernel, by decide +kernel⟩
theorem ok_ex {f fNd fH fIs : Addr} {fd fdNd fdH fdIs : FuncData} (F : FnP K "_law_expected" sEx f fd)
    (GNd : FnOk P w K mg base CX0 1 fNd fdNd ["op"] spNd) (bNd : Binds K fdNd ["op"] []) (kNd : PySem.W.keepIn K (.ref fNd) = true) (gNd : mg "_law_needs" = some (.ref fNd))
    (GH : FnOk P w K mg base CX0 1 fH fdH ["lists", "row"] spHo) (bH : Binds K fdH ["lists", "row"] []) (kH : PySem.W.keepIn K (.ref fH) = true) (gH : mg "_law_home" = some (.ref fH))
    (GIs : FnOk P w K mg base CX0 1 fIs fdIs ["thing"] (spName K)) (bIs : Binds K fdIs ["thing"] []) (kIs : PySem.W.keepIn K (.ref fIs) = true) (gIs : mg "_law_is_name" = some (.ref fIs))
    (n_isinstance : mg "isinstance" = none) (n_int : mg "int" = none) (n_bool : mg "bool" = none) (n_len : mg "len" = none) :
    FnOk P w K mg base CX0 2 f fd ["lists", "op", "one", "mate", "goal", "place"] (spEx K) := by
  refine F.ok scEx (fun vs H Q E h => ?_) (fun cdv A outer s H vs Q E hr h => ?_)
  · obtain ⟨p, o, L, x, y, to, k, dx, dy, dt, dk, m, rfl, _⟩ := h
    rfl
  · obtain ⟨p, o, L, x, y, to, k, dx, dy, dt, dk, m, rfl, ho, hL, br, hm, hx, ox, hy, oy, ht, ot, hk, ok, qn, qw⟩ := h
    have nd := scEx.nd
    have hr1 := hr.mono (j := 1) (by decide)
    have hu : (A.deeper (envOfC "_law_expected" (defScope sEx) s.heap.objs.size f cdv)).units + 1 < cLine := by have := hr.un; omega
    refine ⟨_, PSs.nox (pss_cons (ps_par (i := 6) (j := 7) (by rfl) nd rfl rfl (by decide) rfl rfl (pa_cons (pe_call GNd hr1 (by rfl) gNd kNd bNd .nil pass0 (pa_cons (pv 1) pa_nil)) (pa_cons (pe_ifExp (pt_val (pe_call GIs hr1 (by rfl) gIs kIs bIs .nil pass0 (pa_cons (pv 2) pa_nil))) (pe_call GH hr1 (by rfl) gH kH bH .nil pass0 (pa_cons (pv 0) (pa_cons (pv 2) pa_nil))) pe_non) pa_nil)) (by rfl))
(pss_cons (ps_if (PW.pt (pw_or (pt_not (pt_val (pe_call GIs hr1 (by rfl) gIs kIs bIs .nil pass0 (pa_cons (pv 2) pa_nil)))) (pw_or1 (pt_cmpR op_ne (pe_cmpR op_isN (pv 7) pe_non (nomark _)) (pe_cmpR op_in_seq (pv 1) (pe_tup (pa_cons pe_str (pa_cons pe_str pa_nil))) rfl) (nomark _)))))
(pss_one (ps_ret pe_str))
pss_nil)
(pss_cons (ps_if (PW.pt (pw_and (pt_cmpR op_in_seq pe_str (pv 6) rfl) (pw_and1 (PW.pt (pw_or (pt_not (pt_val (pe_call GIs hr1 (by rfl) gIs kIs bIs .nil pass0 (pa_cons (pv 3) pa_nil)))) (pw_or1 (pt_cmpR op_isN (pe_call GH hr1 (by rfl) gH kH bH .nil pass0 (pa_cons (pv 0) (pa_cons (pv 3) pa_nil))) pe_non (nomark _))))))))
(pss_one (ps_ret pe_str))
pss_nil)
(pss_cons (ps_if (PW.pt (pw_and (pt_cmpR op_notIn_seq pe_str (pv 6) rfl) (pw_and1 (pt_cmpR op_notN (pv 3) pe_non (nomark _)))))
(pss_one (ps_ret pe_str))
pss_nil)
(pss_cons (ps_if (PW.pt (pw_or (PW.pt (pw_and (pt_cmpR op_in_seq pe_str (pv 6) rfl) (pw_and1 (pt_not (pt_val (pe_call GIs hr1 (by rfl) gIs kIs bIs .nil pass0 (pa_cons (pv 4) pa_nil))))))) (pw_or1 (PW.pt (pw_and (pt_cmpR op_notIn_seq pe_str (pv 6) rfl) (pw_and1 (pt_cmpR op_notN (pv 4) pe_non (nomark _))))))))
(pss_one (ps_ret pe_str))
pss_nil)
(pss_cons (ps_if (pt_cmpR op_notIn_seq pe_str (pv 6) rfl)
(pss_one (ps_ret (pe_ifExp (pt_cmpR op_isN (pv 5) pe_non (nomark _)) pe_non pe_str)))
pss_nil)
(pss_cons (ps_if (PW.pt (pw_or (pt_not (pt_val (pe_callB call_isi (by rfl) n_isinstance (by decide +kernel) (pa_cons (pv 5) (pa_cons (pe_bltn (v := .ty "int") (by rfl) n_int (by decide +kernel) rfl) pa_nil))))) (pw_or1 (pt_val (pe_callB call_isi (by rfl) n_isinstance (by decide +kernel) (pa_cons (pv 5) (pa_cons (pe_bltn (v := .ty "bool") (by rfl) n_bool (by decide +kernel) rfl) pa_nil)))))))
(pss_one (ps_ret pe_str))
pss_nil)
(pss_cons (ps_setLc (i := 8) (own := [("row", 9)]) (g := (gName 9))  rfl nd rfl rfl (sw_true rfl rfl rfl (by decide +kernel)) (pi_list (pe_dget2 hu (pv 0) (pv 4) (pe_lst pa_nil) ⟨rfl, rfl, rfl, rfl⟩)) (blkOk_by (own := [("row", 9)]) (N := ["lists", "op", "one", "mate", "goal", "place", "needs", "home", "others", "row"]) (sc := defScope sEx) (by decide +kernel)) (fun _ _ _ _ _ => (pg_name (i := 9) nd rfl (Or.inl rfl))) (fun _ _ _ _ _ => (pts_one (pt_cmpR op_ne (pv 9) (pv 2) (nomark _)))) (fun _ _ _ _ _ => (pv 9)))
(pss_one (ps_ret (pe_ifExp (pt_chain op_le op_le pe_int (pv 5) (pe_op op_add (pe_callB call_len_seq (by rfl) n_len PySem.boot_len (pa_cons (pv 8) pa_nil)) pe_int)) pe_non pe_str))))))))))), ?_⟩
    have few : L.length < 64 := by have := br.few; omega
    have wx : ¬ FitV o L "x" x x to → ∀ G, Same H G → Q (.str "x") G := fun h => qw "x" ⟨0, rfl, (fun z hz => by cases hz), h⟩
    have wy : FitV o L "x" x x to → ¬ FitV o L "y" y x to → ∀ G, Same H G → Q (.str "y") G := fun h1 h => qw "y" ⟨1, rfl, (fun z hz => by rw [List.mem_singleton.mp hz]; exact h1), h⟩
    have wt : FitV o L "x" x x to → FitV o L "y" y x to → ¬ FitV o L "to" to x to → ∀ G, Same H G → Q (.str "to") G := fun h1 h2 h => qw "to" ⟨2, rfl, (fun z hz => by
      rcases List.mem_cons.mp hz with rfl | hz
      · exact h1
      · rw [List.mem_singleton.mp hz]; exact h2), h⟩
    have wk : FitV o L "x" x x to → FitV o L "y" y x to → FitV o L "to" to x to → ¬ FitV o L "k" k x to → ∀ G, Same H G → Q (.str "k") G := fun h1 h2 h3 h => qw "k" ⟨3, rfl, (fun z hz => by
      rcases List.mem_cons.mp hz with rfl | hz
      · exact h1
      rcases List.mem_cons.mp hz with rfl | hz
      · exact h2
      · rw [List.mem_singleton.mp hz]; exact h3), h⟩
    have wn : FitV o L "x" x x to → FitV o L "y" y x to → FitV o L "to" to x to → FitV o L "k" k x to → ∀ G, Same H G → Q .non G := fun h1 h2 h3 h4 => qn fun z hz => by
      rcases List.mem_cons.mp hz with rfl | hz
      · exact h1
      rcases List.mem_cons.mp hz with rfl | hz
      · exact h2
      rcases List.mem_cons.mp hz with rfl | hz
      · exact h3
      · rw [List.mem_singleton.mp hz]; exact h4
    have two : 2 ≤ sizeLine := by decide
    refine seq_by (fun σ G => ∃ (t : Addr) (hv : V), σ = [some (.ref p), some (.str o.1), some x, some y, some to, some k, some (.ref t), some hv, none, none] ∧ Same H G ∧ G t = some (.tup (o.2.map V.str)) ∧ ((∃ z, x = .str z ∧ dx = .str z ∧ isNm z = true ∧ hv = oV (hoL L z)) ∨ (nmD dx = false ∧ hv = .non))) ?_ (fun nxt => ?_)
    · rintro σ G ⟨t, hv, rfl, sG, hTt, hhv⟩
      have yin : ∀ (nm : Str) G', Same G G' → SqT K G' t (o.2.map V.str) := fun nm G' s => SqT.of (s _ _ hTt)
      refine seq_by (fun σ G' => σ = [some (.ref p), some (.str o.1), some x, some y, some to, some k, some (.ref t), some hv, none, none] ∧ Same G G' ∧ FitV o L "x" x x to) ?_ (fun nxt => ?_)
      · rintro σ G1 ⟨rfl, s1, fx⟩
        refine seq_by (fun σ G' => σ = [some (.ref p), some (.str o.1), some x, some y, some to, some k, some (.ref t), some hv, none, none] ∧ Same G G' ∧ (("y" : Str) ∈ o.2 → FitV o L "y" y x to)) ?_ (fun nxt => ?_)
        · rintro σ G2 ⟨rfl, s2, fy0⟩
          refine seq_by (fun σ G' => σ = [some (.ref p), some (.str o.1), some x, some y, some to, some k, some (.ref t), some hv, none, none] ∧ Same G G' ∧ FitV o L "y" y x to) ?_ (fun nxt => ?_)
          · rintro σ G3 ⟨rfl, s3, fy⟩
            refine seq_by (fun σ G' => σ = [some (.ref p), some (.str o.1), some x, some y, some to, some k, some (.ref t), some hv, none, none] ∧ Same G G' ∧ FitV o L "to" to x to) ?_ (fun nxt => ?_)
            · rintro σ G4 ⟨rfl, s4, ft⟩
              refine ⟨_, rfl, t, _, rfl, .inr (yin "" _ s4), rfl, flat_strs o.2, _, rfl, ?_⟩
              show if (!inV (V.str "k") (o.2.map V.str)) = true then _ else _
              rw [inV_str]
              by_cases ck : ("k" : Str) ∈ o.2
              · refine no (by rw [decide_eq_true ck]; rfl) ?_
                have hto := (by decide +kernel : ∀ o ∈ args, ("k" : Str) ∈ o.2 → ("to" : Str) ∈ o.2) o ho ck
                obtain ⟨ts, rfl, nts⟩ : ∃ ts, to = .str ts ∧ isNm ts = true := by
                  have f := ft
                  unfold FitV at f
                  rw [if_pos hto, if_pos rfl] at f
                  exact f
                obtain ⟨xs, rfl⟩ : ∃ xs, x = .str xs := by
                  have f := fx
                  unfold FitV at f
                  rw [if_pos (arg_x o ho), if_neg (by decide), if_neg (by decide)] at f
                  split at f
                  · obtain ⟨xs, e1, _⟩ := f; exact ⟨xs, e1⟩
                  · obtain ⟨xs, e1, _⟩ := f; exact ⟨xs, e1⟩
                have ek : FitV o L "k" k (.str xs) (.str ts) ↔ ∃ j : Nat, k = .int j ∧ 1 ≤ j ∧ j ≤ lpL L xs ts + 1 := by
                  unfold FitV
                  rw [if_pos ck, if_neg (by decide), if_pos rfl]
                  exact ⟨fun ⟨j, x2, t2, e, ex, et, k1, k2⟩ => by
                    obtain rfl : xs = x2 := by injection ex
                    obtain rfl : ts = t2 := by injection et
                    exact ⟨j, e, k1, k2⟩, fun ⟨j, e, k1, k2⟩ => ⟨j, xs, ts, e, rfl, rfl, k1, k2⟩⟩
                refine ⟨_, rfl, _, _, _, _, _, rfl, .ty _, dp_ty (hk.mv (sG.trans s4)), kit_int dk, _, rfl, ?_⟩
                cases hi : isIntD dk with
                | false =>
                  have nf : ¬ FitV o L "k" k (.str xs) (.str ts) := fun f => by
                    obtain ⟨j, e, _⟩ := ek.mp f
                    rw [(dp_intI hk j).mp e] at hi
                    cases hi
                  cases hb : isBoolD dk with
                  | false => exact yes rfl (yes rfl (wk fx fy ft nf _ (sG.trans s4)))
                  | true =>
                    refine no rfl ⟨_, rfl, _, _, _, _, _, rfl, .ty _, dp_ty (hk.mv (sG.trans s4)), kit_bool dk, _, rfl, ?_⟩
                    rw [hb]
                    exact yes rfl (wk fx fy ft nf _ (sG.trans s4))
                | true =>
                  obtain ⟨i, rfl⟩ : ∃ i, dk = .int i := by cases dk <;> first | exact ⟨_, rfl⟩ | cases hi
                  obtain rfl := (dp_intI hk i).mpr rfl
                  refine no rfl ⟨_, rfl, _, _, _, _, _, rfl, .ty _, dp_ty (hk.mv (sG.trans s4)), kit_bool (.int i), _, rfl, no rfl ?_⟩
                  dsimp only
                  refine ⟨_, rfl, p, rfl, (hL.mv (sG.trans s4)).isD, _, rfl, (by show 0 ≤ sizeLine; decide), fun l6 nl6 => ?_⟩
                  have s5 := (sG.trans s4).trans (same_put (o := .lst []) nl6)
                  have h6 : upd G4 l6 (.lst []) l6 = some (.lst []) := upd_same
                  generalize upd G4 l6 (.lst []) = G6 at s5 h6 ⊢
                  obtain ⟨o2, a2, ho2, ea, ha⟩ := (hL.mv s5).get2 br.wf.kn h6 ts
                  refine ⟨o2, ho2, ?_⟩
                  rw [ea]
                  have lr2 : (rowsL L ts).length ≤ 30 := Nat.le_trans (rows_le _ _) (by have := br.le; omega)
                  refine ⟨a2, rfl, ⟨_, SqL.of ha⟩, fun D nD => ?_⟩
                  refine lc_it (walk_list (K := K) (a := a2) (xs := (rowsL L ts).map V.str)) (fun j X => X D = some (.lst ((((rowsL L ts).take j).filter fun z => !decide (z = xs)).map V.str)) ∧ Same G6 X) ⟨upd_same, same_put nD⟩ (fun j X _ h => SqL.of (h.2 _ _ ha)) ?_ ?_
                  · rintro j v X' X hj ⟨hD, sX⟩ ⟨rfl, hv⟩
                    obtain ⟨z, hz, rfl⟩ := Option.map_eq_some_iff.mp ((List.getElem?_map ..).symm.trans hv)
                    have etk := flt_take (p := fun z => !decide (z = xs)) hz
                    have hle : (((rowsL L ts).take j).filter fun z => !decide (z = xs)).length ≤ 30 := Nat.le_trans (List.length_filter_le ..) (Nat.le_trans (by rw [List.length_take]; omega) lr2)
                    refine ⟨rfl, ?_⟩
                    refine ⟨_, rfl, _, rfl, rfl, _, rfl, ?_⟩
                    rw [str_dec]
                    cases c : (!decide (z = xs)) with
                    | true =>
                      rw [c, if_pos rfl] at etk
                      refine yes rfl ⟨_, rfl, _, hD, by rw [List.length_map, sizeLine_eq]; omega, ?_, fun y o e => (upd_ne (ne_of_none e nD)).trans (sX _ _ e)⟩
                      rw [upd_same, etk, List.map_append]
                      rfl
                    | false =>
                      rw [c, if_neg nofun, List.append_nil] at etk
                      refine no rfl ⟨?_, sX⟩
                      rw [etk]
                      exact hD
                  rintro X ⟨hD, sX⟩
                  rw [List.length_map, List.take_length] at hD
                  have s7 := s5.trans sX
                  dsimp only [gName, List.set]
                  refine ⟨_, rfl, _, _, rfl, rfl, _, rfl, ?_⟩
                  by_cases c3 : (1 : Int) ≤ i
                  · refine yes (decide_eq_true c3) ⟨_, rfl, D, _, rfl, .inl (SqL.of hD), _, _, rfl, rfl, _, _, rfl, rfl, _, rfl, ?_⟩
                    rw [List.length_map, ← lp_eq br.wf.kn]
                    by_cases c4 : i ≤ (lpL L xs ts : Int) + 1
                    · exact yes (decide_eq_true c4) (wn fx fy ft (ek.mpr ⟨i.toNat, by rw [show ((i.toNat : Nat) : Int) = i by omega], by omega, by omega⟩) _ s7)
                    · exact no (decide_eq_false c4) (wk fx fy ft (fun f => by
                        obtain ⟨j, e, _, k2⟩ := ek.mp f
                        have : i = (j : Int) := by injection e
                        omega) _ s7)
                  · exact no (decide_eq_false c3) ⟨_, rfl, no rfl (wk fx fy ft (fun f => by
                      obtain ⟨j, e, k1, _⟩ := ek.mp f
                      have : i = (j : Int) := by injection e
                      omega) _ s7)⟩
              · have ek : FitV o L "k" k x to ↔ k = .non := by
                  unfold FitV
                  rw [if_neg ck]
                refine yes (by rw [decide_eq_false ck]; rfl) ⟨_, rfl, rfl, _, rfl, ?_⟩
                by_cases ckn : k = .non
                · exact yes (decide_eq_true ckn) (wn fx fy ft (ek.mpr ckn) _ (sG.trans s4))
                · exact no (decide_eq_false ckn) (wk fx fy ft (fun f => ckn (ek.mp f)) _ (sG.trans s4))
            · refine ⟨_, rfl, t, _, rfl, .inr (yin "" _ s3), rfl, flat_strs o.2, _, rfl, ?_⟩
              show if inV (V.str "to") (o.2.map V.str) = true then _ else _
              rw [inV_str]
              by_cases c : ("to" : Str) ∈ o.2
              · have et : FitV o L "to" to x to ↔ nmD dt = true := by
                  unfold FitV
                  rw [if_pos c, if_pos rfl]
                  exact ⟨fun ⟨z, e, hz⟩ => by rw [(dp_strI ht z).mp e]; exact hz, fun e => by
                    cases dt with
                    | str z => exact ⟨z, (dp_strI ht z).mpr rfl, e⟩
                    | _ => cases e⟩
                refine yes (decide_eq_true c) ⟨_, rfl, to, dt, rfl, ht.mv (sG.trans s3), ot, fun G4 s4 => ⟨_, rfl, ?_⟩⟩
                cases hn : nmD dt with
                | false => exact yes rfl (yes rfl (wt fx fy (fun f => by rw [et.mp f] at hn; cases hn) _ ((sG.trans s3).trans s4)))
                | true =>
                  refine no rfl ⟨_, rfl, t, _, rfl, .inr (yin "" _ (s3.trans s4)), rfl, flat_strs o.2, _, rfl, ?_⟩
                  show if (!inV (V.str "to") (o.2.map V.str)) = true then _ else _
                  rw [inV_str]
                  exact no (by rw [decide_eq_true c]; rfl) (no rfl (nxt _ _ ⟨rfl, s3.trans s4, et.mpr hn⟩))
              · have et : FitV o L "to" to x to ↔ to = .non := by
                  unfold FitV
                  rw [if_neg c]
                refine no (decide_eq_false c) (no rfl ⟨_, rfl, t, _, rfl, .inr (yin "" _ s3), rfl, flat_strs o.2, _, rfl, ?_⟩)
                show if (!inV (V.str "to") (o.2.map V.str)) = true then _ else _
                rw [inV_str]
                refine yes (by rw [decide_eq_false c]; rfl) ⟨_, rfl, rfl, _, rfl, ?_⟩
                by_cases cn : to = .non
                · exact no (by rw [decide_eq_true cn]; rfl) (nxt _ _ ⟨rfl, s3, et.mpr cn⟩)
                · exact yes (by rw [decide_eq_false cn]; rfl) (wt fx fy (fun f => cn (et.mp f)) _ (sG.trans s3))
          · refine ⟨_, rfl, t, _, rfl, .inr (yin "" _ s2), rfl, flat_strs o.2, _, rfl, ?_⟩
            show if (!inV (V.str "y") (o.2.map V.str)) = true then _ else _
            rw [inV_str]
            by_cases c : ("y" : Str) ∈ o.2
            · exact no (by rw [decide_eq_true c]; rfl) (no rfl (nxt _ _ ⟨rfl, s2, fy0 c⟩))
            · have ey : FitV o L "y" y x to ↔ y = .non := by
                unfold FitV
                rw [if_neg c]
              refine yes (by rw [decide_eq_false c]; rfl) ⟨_, rfl, rfl, _, rfl, ?_⟩
              by_cases cn : y = .non
              · exact no (by rw [decide_eq_true cn]; rfl) (nxt _ _ ⟨rfl, s2, ey.mpr cn⟩)
              · exact yes (by rw [decide_eq_false cn]; rfl) (wy fx (fun f => cn (ey.mp f)) _ (sG.trans s2))
        · refine ⟨_, rfl, t, _, rfl, .inr (yin "" _ s1), rfl, flat_strs o.2, _, rfl, ?_⟩
          show if inV (V.str "y") (o.2.map V.str) = true then _ else _
          rw [inV_str]
          by_cases c : ("y" : Str) ∈ o.2
          · have osw := (by decide +kernel : ∀ o ∈ args, ("y" : Str) ∈ o.2 → o.1 = "swap") o ho c
            have ey : FitV o L "y" y x to ↔ ∃ z, y = .str z ∧ z ∈ allL L := by
              unfold FitV
              rw [if_pos c, if_neg (by decide), if_neg (by decide), if_neg (by rw [osw]; decide)]
            refine yes (decide_eq_true c) ⟨_, rfl, y, dy, rfl, hy.mv (sG.trans s1), oy, fun G2 s2 => ⟨_, rfl, ?_⟩⟩
            cases hn : nmD dy with
            | false => exact yes rfl (yes rfl (wy fx (fun f => by
                obtain ⟨z, e, hz⟩ := ey.mp f
                rw [(dp_strI hy z).mp e, show nmD (.str z) = isNm z from rfl, br.nm z hz] at hn
                cases hn) _ ((sG.trans s1).trans s2)))
            | true =>
              obtain ⟨z, rfl⟩ : ∃ z, dy = .str z := by cases dy <;> first | exact ⟨_, rfl⟩ | cases hn
              obtain rfl := (dp_strI hy z).mpr rfl
              refine no rfl ⟨_, rfl, _, rfl, p, L, z, rfl, hL.mv ((sG.trans s1).trans s2), br.wf, few, br.kn, fun G3 s3 => ⟨rfl, _, rfl, ?_⟩⟩
              by_cases hz : z ∈ allL L
              · exact no (by unfold hoL; rw [if_pos hz]; rfl) (nxt _ _ ⟨rfl, (s1.trans s2).trans s3, fun _ => ey.mpr ⟨z, rfl, hz⟩⟩)
              · exact yes (by unfold hoL; rw [if_neg hz]; rfl) (wy fx (fun f => by
                  obtain ⟨z2, e, h2⟩ := ey.mp f
                  injection e with e
                  subst e
                  exact hz h2) _ (((sG.trans s1).trans s2).trans s3))
          · exact no (decide_eq_false c) (no rfl (nxt _ _ ⟨rfl, s1, fun q => absurd q c⟩))
      · refine ⟨_, rfl, x, dx, rfl, hx.mv sG, ox, fun G1 s1 => ⟨_, rfl, ?_⟩⟩
        rcases hhv with ⟨z, rfl, rfl, hz, rfl⟩ | ⟨hn, rfl⟩
        · have ex : FitV o L "x" (.str z) (.str z) to ↔ (o.1 ∈ newL ↔ z ∉ allL L) := by
            unfold FitV
            rw [if_pos (arg_x o ho), if_neg (by decide), if_neg (by decide)]
            by_cases hN : o.1 ∈ newL
            · rw [if_pos hN]
              exact ⟨fun ⟨z2, e, _, h2⟩ => by injection e with e; subst e; exact ⟨fun _ => h2, fun _ => hN⟩, fun h => ⟨z, rfl, hz, h.mp hN⟩⟩
            · rw [if_neg hN]
              exact ⟨fun ⟨z2, e, h2⟩ => by injection e with e; subst e; exact ⟨fun q => absurd q hN, fun q => absurd h2 q⟩, fun h => ⟨z, rfl, Classical.byContradiction fun q => hN (h.mpr q)⟩⟩
          refine no (by show (!isNm z) = false; rw [hz]; rfl) ⟨_, rfl, rfl, _, rfl, two, fun T1 nT1 => ?_⟩
          have s2 := s1.trans (same_put (o := .tup [V.str "put", V.str "add"]) nT1)
          refine ⟨T1, _, rfl, .inr (SqT.of upd_same), rfl, flat_strs newL, rfl, _, rfl, ?_⟩
          show if (!decide (V.bl (decide (oV (hoL L z) = V.non)) = V.bl (inV (V.str o.1) (newL.map V.str)))) = true then _ else _
          rw [inV_str]
          by_cases hN : o.1 ∈ newL <;> by_cases hm : z ∈ allL L
          · refine yes (by unfold hoL; rw [if_pos hm, decide_eq_true hN]; rfl) (wx (fun f => ((ex.mp f).mp hN) hm) _ (sG.trans s2))
          · refine no (by unfold hoL; rw [if_neg hm, decide_eq_true hN]; rfl) (nxt _ _ ⟨rfl, s2, ex.mpr ⟨fun _ => hm, fun _ => hN⟩⟩)
          · refine no (by unfold hoL; rw [if_pos hm, decide_eq_false hN]; rfl) (nxt _ _ ⟨rfl, s2, ex.mpr ⟨fun q => absurd q hN, fun q => absurd hm q⟩⟩)
          · refine yes (by unfold hoL; rw [if_neg hm, decide_eq_false hN]; rfl) (wx (fun f => hN ((ex.mp f).mpr hm)) _ (sG.trans s2))
        · refine yes (by rw [hn]; rfl) (yes rfl (wx (fun f => ?_) _ (sG.trans s1)))
          unfold FitV at f
          rw [if_pos (arg_x o ho), if_neg (by decide), if_neg (by decide)] at f
          split at f
          · obtain ⟨z, e, hz, _⟩ := f
            rw [(dp_strI hx z).mp e, show nmD (.str z) = isNm z from rfl, hz] at hn
            cases hn
          · obtain ⟨z, e, hz⟩ := f
            rw [(dp_strI hx z).mp e, show nmD (.str z) = isNm z from rfl, br.nm z hz] at hn
            cases hn
    · refine ⟨_, rfl, o, ho, rfl, fun t Gt nt st hTt => ⟨_, rfl, x, dx, rfl, hx.mv st, ox, fun G1 s1 => ⟨_, rfl, ?_⟩⟩⟩
      cases hn : nmD dx with
      | false => exact no rfl ⟨_, _, rfl, nxt _ _ ⟨t, _, rfl, st.trans s1, s1 _ _ hTt, .inr ⟨hn, rfl⟩⟩⟩
      | true =>
        obtain ⟨z, rfl⟩ : ∃ z, dx = .str z := by cases dx <;> first | exact ⟨_, rfl⟩ | cases hn
        obtain rfl := (dp_strI hx z).mpr rfl
        exact yes rfl ⟨_, rfl, _, rfl, p, L, z, rfl, hL.mv (st.trans s1), br.wf, few, br.kn, fun G2 s2 => ⟨_, _, rfl, nxt _ _ ⟨t, _, rfl, (st.trans s1).trans s2, s2 _ _ (s1 _ _ hTt), .inl ⟨z, rfl, rfl, hn, rfl⟩⟩⟩⟩
end
end K11

set_option Elab.async false
set_option maxRecDepth 100000
set_option maxHeartbeats 2000000
namespace K11
open PySem PySem.Spec PyProof.Rows L2 He KX StX
abbrev sOd : Stmt := top 33
-- ["bag", "lists", "left", "many", "name", "sorts"]
def spOd : Sp := fun vs H Q _ => ∃ (b p F : Addr) (n : Int) (T : TT) (zs : List Str) (m many : Nat), vs = [.ref b, .ref p, .ref F, .int many] ∧ Bag H b n ∧ n < 900000 ∧ p ≠ b ∧ F ≠ b ∧ (∀ t ∈ T, t.2.2 ≠ b) ∧ DT H p T ∧ Br m (lT T) ∧ m ≤ 10 ∧ H F = some (.lst (zs.map V.str)) ∧ 0 < zs.length ∧ zs.length ≤ 100 ∧ (∀ z ∈ zs, isNm z = true) ∧ ∀ v d G, Kept b H G → Bag G b (n + 2) → AV b G v d → (∀ p, v = .ref p → H p = none) → Q v G
section
variable {P : Program} {w : World} {K : PySem.W.Frag} {mg : Str → Option Value} {base : Heap}
theorem scOd : FnScope ["bag", "lists", "left", "many", "name", "sorts"] ["bag", "lists", "left", "many"] (defScope sOd) := ⟨rfl, rfl, rfl, by decide +kernel, rfl, by decide +kernel, by decide +kernel⟩
theorem ok_od {f fO fA : Addr} {fd fdO fdA : FuncData} (F : FnP K "_law_odd" sOd f fd)
    (GO : FnOk P w K mg base CX0 2 fO fdO ["bag", "some"] (spOf K)) (bO : Binds K fdO ["bag", "some"] []) (kO : PySem.W.keepIn K (.ref fO) = true) (gO : mg "_law_of" = some (.ref fO))
    (GA : FnOk P w K mg base CX0 1 fA fdA ["lists"] spAll) (bA : Binds K fdA ["lists"] []) (kA : PySem.W.keepIn K (.ref fA) = true) (gA : mg "_law_all" = some (.ref fA))
    (n_sorted : mg "sorted" = none) (n_list : mg "list" = none) :
    FnOk P w K mg base CX0 3 f fd ["bag", "lists", "left", "many"] spOd := by
  refine F.ok scOd (fun vs H Q E h => ?_) (fun cdv A outer s H vs Q E hr h => ?_)
  · obtain ⟨b, p, F, n, T, zs, m, many, rfl, _⟩ := h
    rfl
  · obtain ⟨b, p, F, n, T, zs, m, many, rfl, hB, hn, pb, Fb, tb, hT, br, hm, hF, z1, z2, nmz, q⟩ := h
    have nd := scOd.nd
    have hr2 := hr.mono (j := 2) (by decide)
    have hr1 := hr.mono (j := 1) (by decide)
    refine ⟨_, PSs.nox (pss_cons (ps_set (i := 4) nd rfl (Or.inl rfl) (pe_call GO hr2 (by rfl) gO kO bO .nil pass0 (pa_cons (pv 0) (pa_cons (pe_op op_cat (pe_op op_cat (pv 2) (pe_call GA hr1 (by rfl) gA kA bA .nil pass0 (pa_cons (pv 1) pa_nil))) (pe_callB cr_sortedS (by rfl) n_sorted (by decide +kernel) (pa_cons (pe_callTy (call_listD rfl) (by rfl) n_list (by decide +kernel) (pa_cons (pv 1) pa_nil)) pa_nil))) pa_nil))))
(pss_cons (ps_set (i := 5) nd rfl (Or.inl rfl) (pe_lst (pa_cons pe_non (pa_cons (pv 4) (pa_cons (pv 4) (pa_cons pe_int (pa_cons (pv 3) (pa_cons (pe_op op_add (pv 3) pe_int) (pa_cons (pe_op op_add (pv 3) pe_int) (pa_cons (pe_un un_neg pe_int) (pa_cons (pe_op op_pow pe_int pe_int) (pa_cons pe_bl (pa_cons pe_bl (pa_cons pe_str (pa_cons pe_str pa_nil)))))))))))))))
(pss_one (ps_ret (pe_call GO hr2 (by rfl) gO kO bO .nil pass0 (pa_cons (pv 0) (pa_cons (pe_op op_cat (pv 5) (pe_lst (pa_cons (pe_op op_add_str (pv 4) pe_str) (pa_cons pe_str (pa_cons (pe_op op_add_str (pv 4) pe_str) (pa_cons (pe_lst (pa_cons (pv 4) pa_nil)) (pa_cons (pe_tup (pa_cons (pv 4) pa_nil)) (pa_cons (pe_lst pa_nil) (pa_cons pe_int (pa_cons pe_str pa_nil)))))))))) pa_nil))))))), ?_⟩
    have few : (lT T).length < 64 := by have := br.few; omega
    have cn : Cn b p F H H T zs n := ⟨hB, hT, hF, Kept.refl b H, pb, Fb, tb⟩
    refine ⟨_, rfl, _, rfl, _, rfl, p, lT T, rfl, ⟨T, rfl, hT⟩, br.wf, few, by have := br.le; omega, fun Fa rs G1 nFa s1 hFa ndr memr => ?_⟩
    have lrs : rs.length ≤ 30 := by
      have : rs.Perm (allL (lT T)) := (List.perm_ext_iff_of_nodup ndr br.wf.rn).mpr memr
      rw [this.length_eq]; have := br.le; omega
    have nmr : ∀ z ∈ rs, isNm z = true := fun z hz => br.nm z ((memr z).mp hz)
    have cn := cn.same s1
    refine ⟨F, Fa, _, _, rfl, rfl, cn.lf, hFa, by rw [List.length_map, List.length_map, sizeLine_eq]; omega, fun c1 nc1 => ?_⟩
    have cn := cn.same (same_put (o := .lst (zs.map V.str ++ rs.map V.str)) nc1)
    have hc1 : upd G1 c1 (.lst (zs.map V.str ++ rs.map V.str)) c1 = some (.lst (zs.map V.str ++ rs.map V.str)) := upd_same
    generalize upd G1 c1 (.lst (zs.map V.str ++ rs.map V.str)) = G2 at cn hc1 ⊢
    have hk : (kvT T).map (fun kv => kV kv.1) = (keysL (lT T)).map V.str := by
      unfold kvT keysL lT
      rw [List.map_map, List.map_map, List.map_map]
      rfl
    have lks : (keysL (lT T)).length ≤ 14 := by have := br.few; rw [len_keys]; omega
    refine ⟨_, rfl, p, _, rfl, .inl cn.dt.at_, fun l nl => ?_⟩
    rw [hk]
    have cn := cn.same (same_put (o := .lst ((keysL (lT T)).map V.str)) nl)
    have hc1 := same_put (o := .lst ((keysL (lT T)).map V.str)) nl _ _ hc1
    refine ⟨l, keysL (lT T), rfl, SqL.of upd_same, by omega, fun ys s1 perm _ ns1 => ?_⟩
    have cn := cn.same (same_put (o := .lst (ys.map V.str)) ns1)
    have hc1 := same_put (o := .lst (ys.map V.str)) ns1 _ _ hc1
    have hs1 : upd (upd G2 l (.lst ((keysL (lT T)).map V.str))) s1 (.lst (ys.map V.str)) s1 = some (.lst (ys.map V.str)) := upd_same
    generalize upd (upd G2 l (.lst ((keysL (lT T)).map V.str))) s1 (.lst (ys.map V.str)) = G3 at cn hs1 hc1 ⊢
    have lys : ys.length ≤ 14 := by rw [perm.length_eq]; exact lks
    refine ⟨c1, s1, _, _, rfl, rfl, hc1, hs1, by rw [List.length_append, List.length_map, List.length_map, List.length_map, sizeLine_eq]; omega, fun c2 nc2 => ?_⟩
    have c2b := cn.bag.ne nc2
    rw [← List.map_append, ← List.map_append]
    have cn := cn.same (same_put (o := .lst ((zs ++ rs ++ ys).map V.str)) nc2)
    refine ⟨b, c2, _, _, rfl, cn.bag, by omega, c2b, SqL.of upd_same, by rw [List.length_map, List.length_append, List.length_append]; omega, by rw [List.length_map, List.length_append, List.length_append]; omega, fun j v G4 hv bt hB4 => ?_⟩
    have cn := cn.draw bt hB4
    obtain ⟨nm, hnm, rfl⟩ := Option.map_eq_some_iff.mp ((List.getElem?_map ..).symm.trans hv)
    have nnm : isNm nm = true := by
      rcases List.mem_append.mp (List.mem_of_getElem? hnm) with h | h
      · rcases List.mem_append.mp h with h | h
        · exact nmz nm h
        · exact nmr nm h
      · exact br.kn nm (perm.mem_iff.mp h)
    have nl8 := (nm_inv nnm).2.1
    clear hv hs1 hc1 bt hB4
    dsimp only [gName, List.set, L2.start]
    refine ⟨_, rfl, _, rfl, _, rfl, _, rfl, _, _, rfl, rfl, _, rfl, _, _, rfl, rfl, _, rfl, _, _, rfl, rfl, ⟨by decide, by decide, by omega⟩, (by show 13 ≤ sizeLine; decide), fun S nS => ?_⟩
    have cn := cn.same (same_put (o := .lst [V.non, V.str nm, V.str nm, V.int 0, V.int many, V.int (many + 1), V.int (many + 2), V.int (-1), V.int (10 ^ (29 : Int).toNat), V.bl true, V.bl false, V.str "", V.str "1"]) nS)
    have hS : upd G4 S (.lst [V.non, V.str nm, V.str nm, V.int 0, V.int many, V.int (many + 1), V.int (many + 2), V.int (-1), V.int (10 ^ (29 : Int).toNat), V.bl true, V.bl false, V.str "", V.str "1"]) S = some (.lst [V.non, V.str nm, V.str nm, V.int 0, V.int many, V.int (many + 1), V.int (many + 2), V.int (-1), V.int (10 ^ (29 : Int).toNat), V.bl true, V.bl false, V.str "", V.str "1"]) := upd_same
    generalize upd G4 S (.lst [V.non, V.str nm, V.str nm, V.int 0, V.int many, V.int (many + 1), V.int (many + 2), V.int (-1), V.int (10 ^ (29 : Int).toNat), V.bl true, V.bl false, V.str "", V.str "1"]) = G5 at cn hS ⊢
    have lsp : (" " : Str).length = 1 := by decide
    have lab : ("abcdefgh" : Str).length = 8 := by decide
    refine ⟨_, rfl, _, rfl, _, rfl, _, _, rfl, rfl, by rw [lsp, sizeLine_eq]; omega, _, rfl, _, _, rfl, rfl, by rw [lab, sizeLine_eq]; omega, _, rfl, (by show 1 ≤ sizeLine; decide), fun a1 na1 => ?_⟩
    have a1b := cn.bag.ne na1
    have lw : ∀ {G : Hp} {z : Addr}, Kept b H G → z ≠ b → G z = none → H z = none := fun {G z} kk nz e => by
      cases e2 : H z with
      | none => rfl
      | some o => rw [kk _ _ nz e2] at e; cases e
    have lw1 := lw cn.kept a1b na1
    have s6 := same_put (o := .lst [V.str nm]) na1
    have cn := cn.same s6
    have ha1 : upd G5 a1 (.lst [V.str nm]) a1 = some (.lst (([nm] : List Str).map V.str)) := upd_same
    have hS := s6 _ _ hS
    generalize upd G5 a1 (.lst [V.str nm]) = G6 at cn hS ha1 ⊢
    refine ⟨_, rfl, (by show 1 ≤ sizeLine; decide), fun t1 nt1 => ?_⟩
    have t1b := cn.bag.ne nt1
    have lw2 := lw cn.kept t1b nt1
    have s7 := same_put (o := .tup [V.str nm]) nt1
    have cn := cn.same s7
    have ht1 : upd G6 t1 (.tup [V.str nm]) t1 = some (.tup (([nm] : List Str).map V.str)) := upd_same
    have hS := s7 _ _ hS
    have ha1 := s7 _ _ ha1
    generalize upd G6 t1 (.tup [V.str nm]) = G7 at cn hS ha1 ht1 ⊢
    refine ⟨(by show 0 ≤ sizeLine; decide), fun a2 na2 => ?_⟩
    have a2b := cn.bag.ne na2
    have lw3 := lw cn.kept a2b na2
    have s8 := same_put (o := .lst []) na2
    have cn := cn.same s8
    have ha2 : upd G7 a2 (.lst []) a2 = some (.lst (([] : List Str).map V.str)) := upd_same
    have hS := s8 _ _ hS
    have ha1 := s8 _ _ ha1
    have ht1 := s8 _ _ ht1
    generalize upd G7 a2 (.lst []) = G8 at cn hS ha1 ht1 ha2 ⊢
    refine ⟨(by show 8 ≤ sizeLine; decide), fun l8 nl8 => ?_⟩
    have s9 := same_put (o := .lst [V.str (nm ++ " "), V.str "Ab", V.str (nm ++ "abcdefgh"), V.ref a1, V.ref t1, V.ref a2, V.int 1, V.str "x"]) nl8
    have cn := cn.same s9
    have hl8 : upd G8 l8 (.lst [V.str (nm ++ " "), V.str "Ab", V.str (nm ++ "abcdefgh"), V.ref a1, V.ref t1, V.ref a2, V.int 1, V.str "x"]) l8 = some (.lst [V.str (nm ++ " "), V.str "Ab", V.str (nm ++ "abcdefgh"), V.ref a1, V.ref t1, V.ref a2, V.int 1, V.str "x"]) := upd_same
    have hS := s9 _ _ hS
    have ha1 := s9 _ _ ha1
    have ht1 := s9 _ _ ht1
    have ha2 := s9 _ _ ha2
    generalize upd G8 l8 (.lst [V.str (nm ++ " "), V.str "Ab", V.str (nm ++ "abcdefgh"), V.ref a1, V.ref t1, V.ref a2, V.int 1, V.str "x"]) = G9 at cn hS ha1 ht1 ha2 hl8 ⊢
    refine ⟨S, l8, _, _, rfl, rfl, hS, hl8, (by show 21 ≤ sizeLine; decide), fun C nC => ?_⟩
    have Cb := cn.bag.ne nC
    have s10 := same_put (o := .lst ([V.non, V.str nm, V.str nm, V.int 0, V.int many, V.int (many + 1), V.int (many + 2), V.int (-1), V.int (10 ^ (29 : Int).toNat), V.bl true, V.bl false, V.str "", V.str "1"] ++ [V.str (nm ++ " "), V.str "Ab", V.str (nm ++ "abcdefgh"), V.ref a1, V.ref t1, V.ref a2, V.int 1, V.str "x"])) nC
    have cn := cn.same s10
    have ha1 := s10 _ _ ha1
    have ht1 := s10 _ _ ht1
    have ha2 := s10 _ _ ha2
    refine ⟨b, C, _, _, rfl, cn.bag, by omega, Cb, SqL.of upd_same, (by show 0 < 21; decide), (by show 21 ≤ 1000; decide), fun j v GA hv bt hBA => ?_⟩
    have cn := cn.draw bt hBA
    have ha1 := (bt _ a1b).trans ha1
    have ht1 := (bt _ t1b).trans ht1
    have ha2 := (bt _ a2b).trans ha2
    have fin : ∀ d, AV b GA v d → (∀ p, v = .ref p → H p = none) → Q v GA := fun d h h2 => q v d GA cn.kept (cn.bag.mono (by omega)) h h2
    have fS : ∀ z : Str, z.length ≤ 1000 → v = .str z → Q v GA := fun z hz e => fin (.str z) (.inr (.inr (.inr (.inl ⟨z, e, rfl, hz⟩)))) (fun p e2 => by rw [e] at e2; cases e2)
    have fI : ∀ z : Int, v = .int z → Q v GA := fun z e => fin (.int z) (.inr (.inr (.inl ⟨z, e, rfl⟩))) (fun p e2 => by rw [e] at e2; cases e2)
    have fB : ∀ z : Bool, v = .bl z → Q v GA := fun z e => fin (.bool z) (.inr (.inl ⟨z, e, rfl⟩)) (fun p e2 => by rw [e] at e2; cases e2)
    have mem := List.mem_of_getElem? hv
    clear hv nC hl8
    rcases List.mem_append.mp mem with h | h
    · rcases List.mem_cons.mp h with e | h
      · exact fin .none (.inl ⟨e, rfl⟩) (fun p e2 => by rw [e] at e2; cases e2)
      rcases List.mem_cons.mp h with e | h
      · exact fS nm (by omega) e
      rcases List.mem_cons.mp h with e | h
      · exact fS nm (by omega) e
      rcases List.mem_cons.mp h with e | h
      · exact fI _ e
      rcases List.mem_cons.mp h with e | h
      · exact fI _ e
      rcases List.mem_cons.mp h with e | h
      · exact fI _ e
      rcases List.mem_cons.mp h with e | h
      · exact fI _ e
      rcases List.mem_cons.mp h with e | h
      · exact fI _ e
      rcases List.mem_cons.mp h with e | h
      · exact fI _ e
      rcases List.mem_cons.mp h with e | h
      · exact fB _ e
      rcases List.mem_cons.mp h with e | h
      · exact fB _ e
      rcases List.mem_cons.mp h with e | h
      · exact fS "" (by decide) e
      · exact fS "1" (by decide) (List.mem_singleton.mp h)
    · rcases List.mem_cons.mp h with e | h
      · exact fS (nm ++ " ") (by rw [Str.length_append, lsp]; omega) e
      rcases List.mem_cons.mp h with e | h
      · exact fS "Ab" (by decide) e
      rcases List.mem_cons.mp h with e | h
      · exact fS (nm ++ "abcdefgh") (by rw [Str.length_append, lab]; omega) e
      rcases List.mem_cons.mp h with e | h
      · exact fin (.list (([nm] : List Str).map PyData.str)) (.inr (.inr (.inr (.inr (.inl ⟨a1, [nm], e, a1b, ha1, rfl⟩))))) (fun p e2 => by rw [e] at e2; injection e2 with e2; rw [← e2]; exact lw1)
      rcases List.mem_cons.mp h with e | h
      · exact fin (.tuple (([nm] : List Str).map PyData.str)) (.inr (.inr (.inr (.inr (.inr ⟨t1, [nm], e, t1b, ht1, rfl⟩))))) (fun p e2 => by rw [e] at e2; injection e2 with e2; rw [← e2]; exact lw2)
      rcases List.mem_cons.mp h with e | h
      · exact fin (.list (([] : List Str).map PyData.str)) (.inr (.inr (.inr (.inr (.inl ⟨a2, [], e, a2b, ha2, rfl⟩))))) (fun p e2 => by rw [e] at e2; injection e2 with e2; rw [← e2]; exact lw3)
      rcases List.mem_cons.mp h with e | h
      · exact fI _ e
      · exact fS "x" (by decide) (List.mem_singleton.mp h)
end
end K11

set_option Elab.async false
set_option maxRecDepth 100000
set_option maxHeartbeats 2000000
/-! f(e, .., name = v, ..) in a try: what f raises may be told by the slots at that moment. -/
namespace KX
open PySem PySem.Spec PyProof.Rows L2
def tCallNS (n m : Nat) (sp : Sp) (gV : List V → List V → List V) (E : L2.St → XK) (ta tk : TA) : TE := fun σ H Q => ta σ H fun vs H1 => tk σ H1 fun zs H2 => vs.length = n ∧ zs.length = m ∧ sp (gV vs zs) H2 Q (E σ)
section
variable {X : Cx} {CX : CXT} {lv n : Nat} {f : Addr} {fd : FuncData} {ps names : List Str} {sp : Sp} {x : Str} {p pos : Pos} {e : Expr} {es : List Expr} {kws : List Keyword} {t tk : TA} {g : List Value → List Value → List Value} {gV : List V → List V → List V}
theorem pe_callNS {E : L2.St → XK} (F : FnOk X.prog X.w X.K X.mg X.base CX lv f fd ps sp) (hr : Room lv X.A) (hg : Gl X x) (hm : X.mg x = some (.ref f)) (hk : PySem.W.keepIn X.K (.ref f) = true) (hb : KBn X.K fd ps n names g gV)
    (hx : ∀ σ, PassesAt CX X σ (E σ)) (ha : PA X (e :: es) t) (hkw : PK X kws tk)
    (some_ : (backToKw pos (keywordEach kws X.env)).all (·.1.isSome) = true := by rfl) (nms : (backToKw pos (keywordEach kws X.env)).filterMap (·.1) = names := by rfl) (nodb : (x == ("__debug__" : Str)) = false := by decide)
    (first : starEach (e :: es) X.env = (false, eval e X.env) :: starEach es X.env := by rfl) (plain : ((backTo pos (starEach (e :: es) X.env)).any (·.1) || (backToKw pos (keywordEach kws X.env)).any (·.1.isNone)) = false := by rfl) :
    PE X (.Call (.Name x p) (e :: es) kws pos) (tCallNS n names.length sp gV E t tk) := by
  constructor
  intro pins s σ H Q I h
  apply wpAny_Call_Name_kw (ld_glob I hg hm ?_ nodb)
  refine PySem.W.callWith_KW (h₀ := X.base) I.ok.mod.kin hk some_ ?_ plain first
  refine thn (ha.run pos pins s σ H _ I h) ?_
  rintro us s1 ⟨vs, H1, I1, r, q⟩
  refine thn (hkw.run pos pins s1 σ H1 _ I1 q) ?_
  rintro ws s2 ⟨zs, H2, I2, rz, n1, n2, q2⟩
  refine ⟨I2.kIn, ?_⟩
  rw [nms]
  refine wpAny_call (codeAny_mono (F.run X.A X.stack s2 H2 ⟨us, names.zip ws⟩ (g us ws) _ Q (E σ) hr I2.env0 (hb.to s2 us ws I2.kIn (r.length.symm.trans n1) (rz.length.symm.trans n2)) (hb.rel r rz) q2) fun res s' z => ?_)
  match res, z with
  | .error er, z => exact hx σ pins H2 s2 er s' I2 z
  | .ok (.ret u), z => exact I2.after z
  | .ok .next, z => exact False.elim z
  | .ok .brk, z => exact False.elim z
  | .ok .cont, z => exact False.elim z
end
end KX

set_option Elab.async false
set_option maxRecDepth 100000
set_option maxHeartbeats 2000000
/-! try with several handlers, each `except X as n`, one of which takes what is raised. -/
namespace KX
open PySem PySem.Spec PyProof.Rows L2 L2N
abbrev Hdl := Value × (Addr → Value → Option Addr → TS)
/-- behind a suite the name is gone -/
def gone (i : Nat) (D : Ends) : Ends := { nx := fun σ H => D.nx (σ.set i none) H, rt := D.rt, bk := fun σ H => D.bk (σ.set i none) H, ct := fun σ H => D.ct (σ.set i none) H }
def wAss (K : PySem.W.Frag) (i : Nat) (D : Ends) : List Hdl → WX
  | [] => fun _ _ _ _ => False
  | h :: r => fun cls d σ H => ∃ b, PySem.W.exmOne K cls h.1 = some b ∧ (b = true → ∀ a, H a = none → h.2 a cls d (gone i D) (σ.set i (some (.ref a))) H) ∧ (b = false → wAss K i D r cls d σ H)
inductive HdsAs (X : Cx) (n : Str) : List ExceptHandler → List Hdl → Prop
  | nil : HdsAs X n [] []
  | cons {x : Str} {c : Value} {ts : Addr → Value → Option Addr → TS} {b : Stmt} {bs : List Stmt} {p q : Pos} {hs : List ExceptHandler} {l : List Hdl} (nm : L2.Names X x c)
      (su : ∀ (a : Addr) (oe : Obj) (cls : Value) (d : Option Addr) (pn : List (Addr × Obj)), Zn cls d oe → (∃ vs, oe.data = .fields vs) → PSs (X.suite a ((a, oe) :: pn)) (b :: bs) (ts a cls d)) (r : HdsAs X n hs l) :
      HdsAs X n (.ExceptHandler (some (.Name x p)) (some n) (b :: bs) q :: hs) ((c, ts) :: l)
section
variable {X : Cx} {n : Str} {i : Nat} {body : List Stmt} {h₀ : ExceptHandler} {hds : List ExceptHandler} {l : List Hdl} {pos : Pos} {tb : WX → TS}
theorem ps_try_ass (hs : X.stack = X.env :: X.outer) (hf : X.env.frame = some X.env.locals) (hN : X.N.Nodup) (hi : X.N[i]? = some n) (hln : X.env.kindOf n = some .local)
    (hb : ∀ (W : WX) (pn : List (Addr × Obj)) (xe : Value → Shared → Prop), L2N.Takes (X.tr pn xe) W → PassesOwn (model X.prog X.w) X.A X.env xe → PSs (X.tr pn xe) body (tb W))
    (hh : HdsAs X n (h₀ :: hds) l) : PS X (.Try body (h₀ :: hds) [] [] pos) (fun D σ H => tb (wAss X.K i D l) D σ H) := by
  refine ⟨fun pins s σ H D I h => ?_⟩
  have ok := I.ok
  have hfr : X.A.frames = some (X.env :: X.outer) := by rw [ok.frames, hs]
  refine wpAny_Try_except (wpAny_mono ((hb (wAss X.K i D l) (X.pn ++ pins) (fun e s₁ => wpAny (model X.prog X.w) X.A (noteFrame e X.env) (fun _ s₂ => wpAny (model X.prog X.w) X.A (setFlight e none) (fun _ s₃ =>
    wpAny (model X.prog X.w) X.A (handleBy e X.env (h₀ :: hds)) (SP X pins D) X.xe s₃) X.xe s₂) X.xe s₁) (fun u s' xx => ?_) PassesOwn.looking).run [] s σ H D (I.toTry _) h) (fun f s1 hsp => ?_) (fun e s1 he => he))
  case refine_2 =>
    cases f with
    | next => exact wpAny_execs_nil (let ⟨σ', H', J', q⟩ := hsp; ⟨σ', H', J'.ofTry ok, q⟩)
    | brk => exact let ⟨σ', H', J', q⟩ := hsp; ⟨σ', H', J'.ofTry ok, q⟩
    | cont => exact let ⟨σ', H', J', q⟩ := hsp; ⟨σ', H', J'.ofTry ok, q⟩
    | ret u => exact let ⟨v, σ', H', J', r, q⟩ := hsp; ⟨v, σ', H', J'.ofTry ok, r, q⟩
  case refine_1 =>
    obtain ⟨a, B, sI, pins', σ', H', cls, d, rfl, J', nb, up, sky, na, os, ag, w⟩ := xx
    have J : Inv X pins σ' H' sI := J'.ofTry ok
    show wpAny (model X.prog X.w) X.A (noteFrame (.ref a) X.env) _ _ _
    refine Sky.land Zn.steady hfr hf (by rw [← hs]; exact sky) fun h3 fl3 up3 => ?_
    have J3 : Inv X pins σ' H' { s' with heap := h3 } := J.landed nb fl3.1 (up.trans up3) os ag
    obtain ⟨oe3, vs3, he3, hz3, hd3⟩ := fl3.there
    have nfr : a ∉ frs (X.env :: X.outer) := fun hm => by
      obtain ⟨_, o', e', hnf⟩ := fl3.2.2.1.mem hm
      rw [he3] at e'
      cases e'
      exact hnf _ hd3
    have nL : a ≠ X.env.locals := fun z => nfr (List.mem_filterMap.mpr ⟨X.env, List.mem_cons_self, by rw [hf, z]⟩)
    have nF : a ∉ X.fs := fun hm => by
      obtain ⟨e, he, q⟩ := List.mem_filterMap.mp hm
      exact nfr (List.mem_filterMap.mpr ⟨e, List.mem_cons_of_mem _ he, q⟩)
    have S3 := J3.suite he3 hd3 na nL nF
    suffices go : ∀ {hs' : List ExceptHandler} {l' : List Hdl}, HdsAs X n hs' l' → wAss X.K i D l' cls d σ' H' → wpAny (model X.prog X.w) X.A (handleBy (.ref a) X.env hs') (SP X pins D) X.xe { s' with heap := h3 } from go hh w
    intro hs' l' hk
    induction hk with
    | nil => exact fun w => w.elim
    | @cons x c ts b0 bs p q hs2 l2 nm su r ih =>
      rintro ⟨b, hb1, hyes, hno⟩
      refine wpAny_handleBy_cons (codeAny_handlers_test ?_) (by intro q; cases q)
      have LT : PySem.W.Looks (model X.prog X.w) h3 (typeOf (.ref a)) cls := fun A Q E s k q => wpAny_typeOf_ref (k _ _ he3) (by rw [hz3.1]; exact q)
      have LM := PySem.W.exm_one (M := model X.prog X.w) (J3.kIn) LT hb1
      have name : ∀ {Q : Value → Shared → Prop} {E : Value → Shared → Prop}, Q c { s' with heap := h3 } → wpAny (model X.prog X.w) (X.A.mark (some (.ref a))) (eval (.Name x p) X.env) Q E { s' with heap := h3 } := fun {Q E} q => by
        obtain ⟨hg, hdbg, hm | ⟨hm, hv, hnn⟩⟩ := nm
        · exact ld_glob (X := X.suite a ((a, oe3) :: (X.pn ++ pins))) S3 hg hm q hdbg
        · exact ld_blt (X := X.suite a ((a, oe3) :: (X.pn ++ pins))) S3 hg hm hv q hnn hdbg
      refine name (LM.here ?_)
      cases b with
      | false => exact ih (hno rfl)
      | true =>
        refine codeAny_handlers_suite_as (HandSPX.lands_againZ fl3 fun h4 fl4 up4 => ?_)
        have J4 : Inv X pins σ' H' { s' with heap := h4 } := J.landed nb fl4.1 ((up.trans up3).trans up4) os ag
        obtain ⟨oe4, vs4, he4, hz4, hd4⟩ := fl4.there
        refine store_ok (X := X.suite a ((a, oe4) :: (X.pn ++ pins))) (v := .ref a) (J4.suite he4 hd4 na nL nF) hN hi (.inl hln) rfl (fun s5 S5 => ?_) (.inr hln)
        refine wpAny_mono ((su a oe4 cls d (X.pn ++ pins) hz4 ⟨_, hd4⟩).run [] s5 _ H' _ S5 (hyes rfl a na)) (fun f s6 hsp => ?_) (fun _ _ z => False.elim z)
        have fin : ∀ {σ6 : L2.St} {H6 : Hp} {Q : Shared → Prop}, Inv (X.suite a ((a, oe4) :: (X.pn ++ pins))) [] σ6 H6 s6 → (∀ s7, Inv X pins (σ6.set i none) H6 s7 → Q s7) →
            wpAny (model X.prog X.w) X.A (do bindName X.env n .none; unbindBehindTheSuite X.env n q) (fun _ s7 => Q s7) X.xe s6 := fun {σ6 H6 Q} S6 hq => gone_ok (S6.unsuite ok) hN hi hln hq
        cases f with
        | next => exact let ⟨σ6, H6, S6, q6⟩ := hsp; fin S6 fun s7 J7 => ⟨_, _, J7, q6⟩
        | brk => exact let ⟨σ6, H6, S6, q6⟩ := hsp; fin S6 fun s7 J7 => ⟨_, _, J7, q6⟩
        | cont => exact let ⟨σ6, H6, S6, q6⟩ := hsp; fin S6 fun s7 J7 => ⟨_, _, J7, q6⟩
        | ret u => exact let ⟨v6, σ6, H6, S6, r6, q6⟩ := hsp; fin S6 fun s7 J7 => ⟨_, _, _, J7, r6, q6⟩
end
end KX

set_option Elab.async false
set_option maxRecDepth 100000
set_option maxHeartbeats 2000000
namespace K11
open PySem PySem.Spec PyProof.Rows L2 He KX StX
abbrev sOut : Stmt := top 35
-- ["lists", "op", "one", "mate", "goal", "place", "found", "e"]
def spAppG (K : PySem.W.Frag) : Sp := fun vs H Q E => spApp vs H Q E ∨ spAppB K vs H Q E
/-- _law_outcome -/
def spOut (K : PySem.W.Frag) : Sp := fun vs H Q _ => ∃ (p : Addr) (o : Str × List Str) (L : LL) (x y to k : V), vs = [.ref p, .str o.1, x, y, to, k] ∧ o ∈ args ∧ DL H p L ∧ WF L ∧ (allL L).length ≤ 2000 ∧
  ((∃ (xs : Str) (ys ts : Option Str) (ks : Option Nat), x = .str xs ∧ y = oV ys ∧ to = oV ts ∧ k = oI ks ∧ Call o L xs ys ts ks ∧ ∀ q G, H q = none → Same H G → DLF H G q (apL o.1 xs ys ts ks L) → Q (.ref q) G) ∨
   ∃ (dx dy dt dk : PyData) (nm : Str), Dp K H x dx ∧ okN dx ∧ Dp K H y dy ∧ okN dy ∧ Dp K H to dt ∧ okN dt ∧ Dp K H k dk ∧ okN dk ∧ Wrong o L x y to k nm ∧ ∀ T G, Same H G → G T = some (.tup [.str "call", .str nm]) → Q (.ref T) G)
section
variable {P : Program} {w : World} {K : PySem.W.Frag} {mg : Str → Option Value} {base : Heap}
theorem scOut : FnScope ["lists", "op", "one", "mate", "goal", "place", "found", "e"] ["lists", "op", "one", "mate", "goal", "place"] (defScope sOut) := ⟨rfl, rfl, rfl, by decide +kernel, rfl, by decide +kernel, by decide +kernel⟩
theorem ok_out {f fAp : Addr} {fd fdAp : FuncData} (F : FnP K "_law_outcome" sOut f fd) (BC : ErBC K)
    {g5 : List Value → List Value → List Value} (GAp : FnOk P w K mg base (L2N.CX P w) 4 fAp fdAp apP (spAppG K)) (kb5 : KBn K fdAp apP 2 (["x", "y", "to", "k"] : List Str) g5 (fun vs zs => vs ++ zs)) (kAp : PySem.W.keepIn K (.ref fAp) = true) (gAp : mg "apply" = some (.ref fAp))
    (hME : PySem.W.kitAny K (.ref (ga K "BadCall")) [.ref (ga K "BadOperation"), .ref (ga K "MissingError")] = some false)
    (gPE : mg "PlaceError" = some (.ref (ga K "PlaceError"))) (gBO : mg "BadOperation" = some (.ref (ga K "BadOperation"))) (gBC : mg "BadCall" = some (.ref (ga K "BadCall"))) (gME : mg "MissingError" = some (.ref (ga K "MissingError"))) (n_isinstance : mg "isinstance" = none) :
    FnOk P w K mg base CX0 5 f fd ["lists", "op", "one", "mate", "goal", "place"] (spOut K) := by
  refine F.ok scOut (fun vs H Q E h => ?_) (fun cdv A outer s H vs Q E hr h => ?_)
  · obtain ⟨p, o, L, x, y, to, k, rfl, _⟩ := h
    rfl
  · obtain ⟨p, o, L, x, y, to, k, rfl, ho, hL, wf, hl, cs⟩ := h
    have nd := scOut.nd
    have hr4 := hr.mono (j := 4) (by decide)
    refine ⟨_, (by exact (pss_cons (ps_try_ass (i := 7) (tb := fun W => tAsg (tCallNS 2 4 (spAppG K) (fun vs zs => vs ++ zs) (WE W) (tCons (tVar 0) (tCons (tVar 1) tNil)) (tCons (tVar 2) (tCons (tVar 3) (tCons (tVar 4) (tCons (tVar 5) tNil))))) (gName 6)) rfl rfl nd rfl rfl
      (fun W pn xe tk _ => by exact (pss_one (ps_set (i := 6) nd rfl (Or.inl rfl) (pe_callNS GAp hr4 (by rfl) gAp kAp kb5 (fun σ => L2N.passAt tk σ) (pa_cons (pv 0) (pa_cons (pv 1) pa_nil)) (pk_cons (pv 2) (pk_cons (pv 3) (pk_cons (pv 4) (pk_cons (pv 5) pk_nil))))))))
      (HdsAs.cons (ts := tsAt _ (excBody (defBody sOut))) ⟨rfl, by decide, Or.inl gBC⟩ (fun a oe cls d pn hz hf => tsAt_ok hz hf) .nil)) (pss_one (ps_ret (pv 6))))), ?_⟩
    refine ⟨_, rfl, _, rfl, _, rfl, _, rfl, _, rfl, _, rfl, rfl, rfl, ?_⟩
    rcases cs with ⟨xs, ys, ts, ks, rfl, rfl, rfl, rfl, call, q⟩ | ⟨dx, dy, dt, dk, nm, hx, ox, hy, oy, ht, ot, hk, ok, wr, q⟩
    · refine .inl (call.spF hL fun q1 G n s h => ?_)
      exact ⟨_, rfl, q q1 G n s h⟩
    · refine .inr ⟨p, .str o.1, x, y, to, k, .str o.1, rfl, .str o.1, (arg_shaped o ho).1, .inr ⟨o, L, dx, dy, dt, dk, nm, ho, rfl, hL, wf, hl, hx, ox, hy, oy, ht, ot, hk, ok, wr, fun d' H' s1 hd' => ?_⟩⟩
      refine ⟨true, BC.ex ("BadCall", true) (by simp), fun _ e ne => ?_, fun z => nomatch z⟩
      apply Exists.intro
      refine And.intro (fun oe pn hz hf => ?t1) ?t2
      case t1 =>
        show PSs _ (_ :: _) _
        exact (pss_cons (ps_if (PW.pt (pw_or (pt_val (pe_callB (call_isEdT (a := e) (oe := oe) (pn := pn) BC.T BC.sp BC.tk hz.zc hf) (by rfl) n_isinstance (by decide +kernel) (pa_cons (pv 7) (pa_cons (pe_tup (pa_cons (pe_glob (v := .ref (ga K "BadOperation")) rfl gBO rfl) (pa_cons (pe_glob (v := .ref (ga K "MissingError")) rfl gME rfl) pa_nil))) pa_nil)))) (pw_or1 (pt_not (pt_val (pe_callB (call_isEd (a := e) (oe := oe) (pn := pn) BC.T BC.sp BC.tk hz.zc hf) (by rfl) n_isinstance (by decide +kernel) (pa_cons (pv 7) (pa_cons (pe_glob (v := .ref (ga K "PlaceError")) rfl gPE rfl) pa_nil)))))))) (pss_one (ps_ret pe_non)) pss_nil) (pss_one (ps_ret (pe_tup (pa_cons pe_str (pa_cons (pe_xf (a := e) (oe := oe) (pn := pn) BC.X (BC.no _ List.mem_cons_self) hz.zc hf (pv 7)) pa_nil))))))
      case t2 =>
        refine ⟨_, rfl, (by show 2 ≤ sizeLine; decide), fun T nT => ⟨⟨_, (upd_ne (ne_of_none hd' nT)).trans hd'⟩, T, _, _, false, rfl, upd_same, .cons (.own _) (.cons (.own _) .nil), hME, _, rfl, no rfl ?_⟩⟩
        have s2 := same_put (o := .tup [V.ref (ga K "BadOperation"), V.ref (ga K "MissingError")]) nT
        have hd2 := s2 _ _ hd'
        generalize upd H' T (.tup [V.ref (ga K "BadOperation"), V.ref (ga K "MissingError")]) = G2 at s2 hd2 ⊢
        refine ⟨_, rfl, ⟨_, hd2⟩, _, _, _, rfl, (fun _ r => r), BC.kO ("PlaceError", true) (by simp), _, rfl, no rfl ?_⟩
        refine ⟨_, rfl, rfl, rfl, d', _, _, rfl, hd2, rfl, (by show 2 ≤ sizeLine; decide), fun T2 nT2 => ?_⟩
        exact q T2 _ ((s1.trans s2).trans (same_put nT2)) upd_same
end
end K11

set_option Elab.async false
set_option maxRecDepth 100000
set_option maxHeartbeats 2000000
namespace K11
open PySem PySem.Spec PyProof.Rows L2 He KX StX
abbrev sUn : Stmt := top 36
-- ["op", "told", "e"]
def spUn (K : PySem.W.Frag) : Sp := fun vs H Q _ => ∃ (v : V) (d : PyData), vs = [v] ∧ Dp K H v d ∧ SeqAt.shaped d = true ∧ inS ops d = false ∧ Small d 8 2000 ∧ ∀ F G, H F = none → Same H G → G F = some (.lst [.str d.shown, .str d.shown]) → Q (.ref F) G
section
variable {P : Program} {w : World} {K : PySem.W.Frag} {mg : Str → Option Value} {base : Heap}
theorem scUn : FnScope ["op", "told", "e"] ["op"] (defScope sUn) := ⟨rfl, rfl, rfl, by decide +kernel, rfl, by decide +kernel, by decide +kernel⟩
theorem ok_un {f fAp fAg : Addr} {fd fdAp fdAg : FuncData} (F : FnP K "_law_unknown" sUn f fd) (BO : ErBO K)
    {g7 : List Value → List Value → List Value} (GAp : FnOk P w K mg base (L2N.CX P w) 4 fAp fdAp apP (spAppG K)) (kb7 : KBn K fdAp apP 2 (["x", "k"] : List Str) g7 (fun vs zs => vs ++ (zs.take 1 ++ ([.non, .non] ++ zs.drop 1)))) (kAp : PySem.W.keepIn K (.ref fAp) = true) (gAp : mg "apply" = some (.ref fAp))
    (GAg : FnOk P w K mg base (L2N.CX P w) 3 fAg fdAg ["op"] (spArg K)) (bAg : Binds K fdAg ["op"] []) (kAg : PySem.W.keepIn K (.ref fAg) = true) (gAg : mg "arguments_of" = some (.ref fAg))
    (gBO : mg "BadOperation" = some (.ref (ga K "BadOperation"))) (n_repr : mg "repr" = none) :
    FnG P w K mg base CX0 5 f fd ["op"] (spUn K) := by
  refine fnG_ok F scUn (fun vs H Q E h => ?_) (fun cdv A outer s H vs Q E gg hr h => ?_)
  · obtain ⟨v, d, rfl, _⟩ := h
    rfl
  · obtain ⟨v, d, rfl, hd, ds, hi, dm, q⟩ := h
    have nd := scUn.nd
    have hr4 := hr.mono (j := 4) (by decide)
    have hr3 := hr.mono (j := 3) (by decide)
    have hu10 : (A.deeper (envOfC "_law_unknown" (defScope sUn) s.heap.objs.size f cdv)).units + 10 < cLine := Nat.lt_of_le_of_lt (Nat.add_le_add_left (by decide) _) hr.units
    refine ⟨_, (by exact (pss_cons (ps_set (i := 1) nd rfl (Or.inl rfl) (pe_lst pa_nil)) (pss_cons (ps_try_ass (i := 2) (tb := fun W => tDrop (tCallNS 2 2 (spAppG K) (fun vs zs => vs ++ (zs.take 1 ++ ([.non, .non] ++ zs.drop 1))) (WE W) (tCons tDNewK (tCons (tVar 0) tNil)) (tCons (tC (.bl true)) (tCons (tC (.str "a")) tNil)))) rfl rfl nd rfl rfl
      (fun W pn xe tk _ => by exact (pss_one (ps_expr (pe_callNS GAp hr4 (by rfl) gAp kAp kb7 (fun σ => L2N.passAt tk σ) (pa_cons pe_dnewK (pa_cons (pv 0) pa_nil)) (pk_cons pe_bl (pk_cons pe_str pk_nil))))))
      (HdsAs.cons (ts := tsAt _ (excBody ((defBody sUn).drop 1))) ⟨rfl, by decide, Or.inl gBO⟩ (fun a oe cls d pn hz hf => tsAt_ok hz hf) .nil))
      (pss_cons (ps_try_ass (i := 2) (tb := fun W => tDrop (tCallS (spArg K) (WE W) (tCons (tVar 0) tNil))) rfl rfl nd rfl rfl
      (fun W pn xe tk _ => by exact (pss_one (ps_expr (pe_callS GAg hr3 (by rfl) gAg kAg bAg (fun σ => L2N.passAt tk σ) (pa_cons (pv 0) pa_nil)))))
      (HdsAs.cons (ts := tsAt _ (excBody ((defBody sUn).drop 2))) ⟨rfl, by decide, Or.inl gBO⟩ (fun a oe cls d pn hz hf => tsAt_ok hz hf) .nil)) (pss_one (ps_ret (pv 1))))))), ?_⟩
    refine ⟨(by show 0 ≤ sizeLine; decide), fun F0 nF => ?_⟩
    have s1 := same_put (o := .lst []) nF
    have hF : upd H F0 (.lst []) F0 = some (.lst []) := upd_same
    generalize upd H F0 (.lst []) = G1 at s1 hF ⊢
    refine fun e0 ne0 => ⟨_, rfl, rfl, rfl, .inr ⟨e0, v, .bl true, .non, .non, .str "a", d, rfl, hd.mv (s1.trans (same_put ne0)), ds, .inl ⟨hi, fun d' H' s2 hd' => ?_⟩⟩⟩
    have s12 := (s1.trans (same_put ne0)).trans s2
    have hF2 := s2 _ _ (same_put (o := .dK []) ne0 _ _ hF)
    refine ⟨true, BO.ex ("BadOperation", true) (by simp), fun _ e ne => ?_, fun z => nomatch z⟩
    apply Exists.intro
    refine And.intro (fun oe pn hz hf => ?t1) ?t2
    case t1 =>
      show PSs _ [.Expr (.Call (.Attribute _ _ _) [.Call _ [.Attribute _ _ _] [] _] [] _) _] _
      exact (pss_one (ps_expr (show PE _ _ (tBM K "list" rAppend (tVar 1) (tCons (tCB (rReprD K) (tCons (tXf e (Value.ref (ga K "BadOperation")) (some d') (ga K "BadOperation") "op" (tVar 2)) tNil)) tNil)) from pe_bm PySem.F.plainAttrs_list PySem.F.slot_list_append PySem.F.type_list_append mt_append (pv 1) (pa_cons (pe_callB (show CallR _ (.builtin "repr") (rReprD K) from call_reprD gg hu10) (by rfl) n_repr (by decide +kernel) (pa_cons (pe_xf (a := e) (oe := oe) (pn := pn) BO.X (BO.no _ List.mem_cons_self) hz.zc hf (pv 2)) pa_nil)) pa_nil))))
    case t2 =>
      refine ⟨_, rfl, .inl ⟨rfl, _, SqL.of hF2⟩, _, rfl, rfl, rfl, d', _, _, rfl, hd', rfl, v, d, rfl, hd.mv s12, dm.mono (by decide) (by decide), F0, [], _, rfl, rfl, hF2, (by decide), ?_⟩
      have s13 : Same H (upd H' F0 (.lst ([] ++ [V.str d.shown]))) := fun z w e => (upd_ne (ne_of_none e nF)).trans (s12 _ _ e)
      have hF3 : upd H' F0 (.lst ([] ++ [V.str d.shown])) F0 = some (.lst [V.str d.shown]) := upd_same
      generalize upd H' F0 (.lst ([] ++ [V.str d.shown])) = G3 at s13 hF3 ⊢
      dsimp only [gone, List.set, L2.start]
      refine ⟨_, rfl, v, d, rfl, hd.mv s13, ds, fun o2 ho2 e a ha => (by rw [e, (arg_shaped o2 ho2).2] at hi; cases hi), fun _ d2 H2 s4 hd2 => ?_⟩
      have hF4 := s4 _ _ hF3
      have s14 := s13.trans s4
      refine ⟨true, BO.ex ("BadOperation", true) (by simp), fun _ e ne => ?_, fun z => nomatch z⟩
      apply Exists.intro
      refine And.intro (fun oe pn hz hf => ?t1) ?t2
      case t1 =>
        show PSs _ [.Expr (.Call (.Attribute _ _ _) [.Call _ [.Attribute _ _ _] [] _] [] _) _] _
        exact (pss_one (ps_expr (show PE _ _ (tBM K "list" rAppend (tVar 1) (tCons (tCB (rReprD K) (tCons (tXf e (Value.ref (ga K "BadOperation")) (some d2) (ga K "BadOperation") "op" (tVar 2)) tNil)) tNil)) from pe_bm PySem.F.plainAttrs_list PySem.F.slot_list_append PySem.F.type_list_append mt_append (pv 1) (pa_cons (pe_callB (show CallR _ (.builtin "repr") (rReprD K) from call_reprD gg hu10) (by rfl) n_repr (by decide +kernel) (pa_cons (pe_xf (a := e) (oe := oe) (pn := pn) BO.X (BO.no _ List.mem_cons_self) hz.zc hf (pv 2)) pa_nil)) pa_nil))))
      case t2 =>
        refine ⟨_, rfl, .inl ⟨rfl, _, SqL.of hF4⟩, _, rfl, rfl, rfl, d2, _, _, rfl, hd2, rfl, v, d, rfl, hd.mv s14, dm.mono (by decide) (by decide), F0, _, _, rfl, rfl, hF4, (by show 1 < sizeLine; decide), ?_⟩
        exact ⟨_, rfl, q F0 _ nF (fun z w e => (upd_ne (ne_of_none e nF)).trans (s14 _ _ e)) upd_same⟩
end
end K11

set_option Elab.async false
set_option maxRecDepth 100000
set_option maxHeartbeats 2000000
namespace K11
open PySem PySem.Spec PyProof.Rows L2 He KX StX
-- ["script", "at", "bag", "lists", "left", "turn", "op", "call", "many", "change", "one", "mate", "goal", "place", "wrong", "held", "found", "odd"]
theorem ne_self (v : V) : (!decide (v = v)) = false := by rw [decide_eq_true rfl]; rfl
/-- what is on a board behind a call -/
theorem ap_mem {o : Str × List Str} {L : LL} {x : Str} {y to : Option Str} {k : Option Nat} (wf : WF L) (hx : o.1 = "swap" → x ∈ allL L ∧ ∃ z, y = some z ∧ z ∈ allL L) {z : Str} (h : z ∈ allL (apL o.1 x y to k L)) : z = x ∨ z ∈ allL L := by
  unfold apL at h
  by_cases c : o.1 = "swap"
  · rw [if_pos c] at h
    obtain ⟨h1, z2, rfl, h2⟩ := hx c
    exact .inr ((sw_mem h1 h2).mp h)
  rw [if_neg c] at h
  by_cases d : o.1 = "take"
  · rw [if_pos d] at h
    exact .inr ((take_mem wf).mp h).2
  rw [if_neg d] at h
  rcases List.mem_cons.mp ((into_perm (wf_take wf x).kn _ x _).mem_iff.mp h) with e | e
  · exact .inl e
  · exact .inr ((take_mem wf).mp e).2
/-- a board behind a call -/
theorem Br.ap {n : Nat} {o : Str × List Str} {L : LL} {x : Str} {y to : Option Str} {k : Option Nat} (h : Br n L) (c : Call o L x y to k) (nx : isNm x = true) (nt : ∀ t, to = some t → isNm t = true) (hx : o.1 ∉ newL → x ∈ allL L) (hy : o.1 = "swap" → ∃ z, y = some z ∧ z ∈ allL L) : Br (n + 1) (apL o.1 x y to k L) := by
  unfold apL
  by_cases c1 : o.1 = "swap"
  · rw [if_pos c1]
    obtain ⟨z, rfl, hz⟩ := hy c1
    exact (h.swap (hx (by rw [c1]; decide)) hz).up (by omega)
  rw [if_neg c1]
  by_cases d : o.1 = "take"
  · rw [if_pos d]
    exact (h.take x).up (by omega)
  rw [if_neg d]
  refine (h.take x).into _ (fun q => ((take_mem h.wf).mp q).1 rfl) nx ?_
  cases to with
  | some t => exact nt t rfl
  | none =>
    have ft := c.ft
    have hnt : ("to" : Str) ∉ o.2 := fun hm => by
      unfold FitV at ft
      rw [if_pos hm, if_pos rfl] at ft
      obtain ⟨z, e, _⟩ := ft
      cases e
    have hN : o.1 ∉ newL := fun hm => hnt ((by decide +kernel : ∀ o ∈ args, o.1 ∈ newL → ("to" : Str) ∈ o.2) o c.ho hm)
    exact h.kn _ (in_home h.wf (hx hN)).2.2.1
/-- the row of a call -/
theorem Call.row {o : Str × List Str} {L : LL} {x : Str} {y to : Option Str} {k : Option Nat} (c : Call o L x y to k) (nm : ∀ z ∈ allL L, isNm z = true) : isNm x = true ∧ (o.1 ∈ newL → x ∉ allL L) ∧ (o.1 ∉ newL → x ∈ allL L) := by
  have fx := c.fx
  unfold FitV at fx
  rw [if_pos (arg_x o c.ho), if_neg (by decide), if_neg (by decide)] at fx
  by_cases hN : o.1 ∈ newL
  · rw [if_pos hN] at fx
    obtain ⟨z, e, h1, h2⟩ := fx
    obtain rfl : x = z := by injection e
    exact ⟨h1, fun _ => h2, fun q => absurd hN q⟩
  · rw [if_neg hN] at fx
    obtain ⟨z, e, h1⟩ := fx
    obtain rfl : x = z := by injection e
    exact ⟨nm _ h1, fun q => absurd q hN, fun _ => h1⟩
theorem Call.mate {o : Str × List Str} {L : LL} {x : Str} {y to : Option Str} {k : Option Nat} (c : Call o L x y to k) (h : o.1 = "swap") : ∃ z, y = some z ∧ z ∈ allL L := by
  have fy := c.fy
  unfold FitV at fy
  rw [if_pos (arg_y o c.ho h), if_neg (by decide), if_neg (by decide), if_neg (by rw [h]; decide)] at fy
  obtain ⟨z, e, hz⟩ := fy
  refine ⟨z, ?_, hz⟩
  cases y with
  | none => cases e
  | some y' => injection e with e; rw [e]
theorem Cn.put {b p F C : Addr} {H G : Hp} {T : TT} {zs : List Str} {m0 m : Int} {o : HO} (h0 : Cn b p F H H T zs m0) (h : Cn b p F H G T zs m) (Cb : C ≠ b) (hC : H C = none) : Cn b p F H (upd G C o) T zs m :=
  ⟨h.bag.put Cb, h.dt.away (ne_of_none h0.dt.at_ hC) (fun u hu => ne_of_none (h0.dt.all u hu) hC), (upd_ne (ne_of_none h0.lf hC)).trans h.lf, fun x o2 n e => (upd_ne (ne_of_none e hC)).trans (h.kept _ _ n e), h.pb, h.fb, h.tb⟩
theorem AV.put {b C : Addr} {H : Hp} {v : V} {d : PyData} {o : HO} (h : AV b H v d) (n : ∀ q, v = .ref q → q ≠ C) : AV b (upd H C o) v d := by
  rcases h with h | h | h | h | ⟨p, zs, e, n2, hp, e2⟩ | ⟨p, zs, e, n2, hp, e2⟩
  · exact .inl h
  · exact .inr (.inl h)
  · exact .inr (.inr (.inl h))
  · exact .inr (.inr (.inr (.inl h)))
  · exact .inr (.inr (.inr (.inr (.inl ⟨p, zs, e, n2, (upd_ne (n p e)).trans hp, e2⟩))))
  · exact .inr (.inr (.inr (.inr (.inr ⟨p, zs, e, n2, (upd_ne (n p e)).trans hp, e2⟩))))
/-- the four arguments of a call as they stand -/
structure Cs (b C : Addr) (G : Hp) (ws : List V) : Prop where
  ne : C ≠ b
  at_ : G C = some (.lst ws)
  len : ws.length = 4
  av : ∀ v ∈ ws, (∃ d, AV b G v d) ∧ ∀ q, v = .ref q → q ≠ C
theorem Cs.keep {b C : Addr} {G G' : Hp} {ws : List V} (h : Cs b C G ws) (k : Kept b G G') : Cs b C G' ws :=
  ⟨h.ne, k _ _ h.ne h.at_, h.len, fun v hv => by obtain ⟨⟨d, hd⟩, n⟩ := h.av v hv; exact ⟨⟨d, hd.keep k⟩, n⟩⟩
theorem Cs.set {b C : Addr} {G : Hp} {ws : List V} (h : Cs b C G ws) (j : Nat) {v : V} {d : PyData} (hv : AV b G v d) (n : ∀ q, v = .ref q → q ≠ C) : Cs b C (upd G C (.lst (ws.set j v))) (ws.set j v) :=
  ⟨h.ne, upd_same, by rw [List.length_set]; exact h.len, fun w hw => by
    rcases List.mem_or_eq_of_mem_set hw with hw | rfl
    · obtain ⟨⟨d, hd⟩, n⟩ := h.av w hw
      exact ⟨⟨d, hd.put n⟩, n⟩
    · exact ⟨⟨d, hv.put n⟩, n⟩⟩
theorem av_str {b : Addr} {H : Hp} {z : Str} (h : isNm z = true) : ∃ d, AV b H (.str z) d := ⟨.str z, .inr (.inr (.inr (.inl ⟨z, rfl, rfl, by have := (nm_inv h).2.1; omega⟩)))⟩
theorem av_opt {b : Addr} {H : Hp} {y : Option Str} (h : ∀ t, y = some t → isNm t = true) : ∃ d, AV b H (oV y) d := by
  cases y with
  | none => exact ⟨.none, .inl ⟨rfl, rfl⟩⟩
  | some t => exact av_str (h t rfl)
theorem av_int {b : Addr} {H : Hp} {k : Option Nat} : ∃ d, AV b H (oI k) d := by
  cases k with
  | none => exact ⟨.none, .inl ⟨rfl, rfl⟩⟩
  | some k => exact ⟨.int k, .inr (.inr (.inl ⟨k, rfl, rfl⟩))⟩
theorem Call.matn {o : Str × List Str} {L : LL} {x : Str} {y to : Option Str} {k : Option Nat} (c : Call o L x y to k) (nm : ∀ z ∈ allL L, isNm z = true) : ∀ t, y = some t → isNm t = true := by
  rintro t rfl
  have fy := c.fy
  unfold FitV at fy
  by_cases h : ("y" : Str) ∈ o.2
  · rw [if_pos h, if_neg (by decide), if_neg (by decide)] at fy
    by_cases hN : o.1 ∈ newL
    · rw [if_pos hN] at fy
      obtain ⟨z, e, h1, _⟩ := fy
      obtain rfl : t = z := by injection e
      exact h1
    · rw [if_neg hN] at fy
      obtain ⟨z, e, h1⟩ := fy
      obtain rfl : t = z := by injection e
      exact nm _ h1
  · rw [if_neg h] at fy
    cases fy
/-- all fit, or one is the first that does not -/
theorem fit_or (o : Str × List Str) (L : LL) (x y to k : V) : AllFit o L x y to k ∨ ∃ nm, Wrong o L x y to k nm := by
  by_cases c0 : FitV o L "x" (nth x y to k "x") x to
  · by_cases c1 : FitV o L "y" (nth x y to k "y") x to
    · by_cases c2 : FitV o L "to" (nth x y to k "to") x to
      · by_cases c3 : FitV o L "k" (nth x y to k "k") x to
        · refine .inl fun z hz => ?_
          rcases List.mem_cons.mp hz with rfl | hz
          · exact c0
          rcases List.mem_cons.mp hz with rfl | hz
          · exact c1
          rcases List.mem_cons.mp hz with rfl | hz
          · exact c2
          · rw [List.mem_singleton.mp hz]; exact c3
        · refine .inr ⟨"k", 3, rfl, fun z hz => ?_, c3⟩
          rcases List.mem_cons.mp hz with rfl | hz
          · exact c0
          rcases List.mem_cons.mp hz with rfl | hz
          · exact c1
          · rw [List.mem_singleton.mp hz]; exact c2
      · refine .inr ⟨"to", 2, rfl, fun z hz => ?_, c2⟩
        rcases List.mem_cons.mp hz with rfl | hz
        · exact c0
        · rw [List.mem_singleton.mp hz]; exact c1
    · refine .inr ⟨"y", 1, rfl, fun z hz => ?_, c1⟩
      rw [List.mem_singleton.mp hz]; exact c0
  · exact .inr ⟨"x", 0, rfl, fun z hz => (by cases hz), c0⟩
/-- a call whose arguments all fit is allowed -/
theorem call_of {o : Str × List Str} {L : LL} {n : Nat} {x y to k : V} (br : Br n L) (hn : n ≤ 10) (ho : o ∈ args) (h : AllFit o L x y to k) : ∃ (xs : Str) (ys ts : Option Str) (ks : Option Nat), x = .str xs ∧ y = oV ys ∧ to = oV ts ∧ k = oI ks ∧ Call o L xs ys ts ks ∧ ∀ t, ts = some t → isNm t = true := by
  have fx : FitV o L "x" x x to := h "x" (by decide)
  have fy : FitV o L "y" y x to := h "y" (by decide)
  have ft : FitV o L "to" to x to := h "to" (by decide)
  have fk : FitV o L "k" k x to := h "k" (by decide)
  obtain ⟨xs, rfl⟩ : ∃ xs, x = .str xs := by
    unfold FitV at fx
    rw [if_pos (arg_x o ho), if_neg (by decide), if_neg (by decide)] at fx
    by_cases hN : o.1 ∈ newL
    · rw [if_pos hN] at fx
      obtain ⟨z, e, _⟩ := fx
      exact ⟨z, e⟩
    · rw [if_neg hN] at fx
      obtain ⟨z, e, _⟩ := fx
      exact ⟨z, e⟩
  obtain ⟨ys, rfl⟩ : ∃ ys, y = oV ys := by
    unfold FitV at fy
    by_cases c : ("y" : Str) ∈ o.2
    · rw [if_pos c, if_neg (by decide), if_neg (by decide)] at fy
      by_cases hN : o.1 ∈ newL
      · rw [if_pos hN] at fy
        obtain ⟨z, e, _⟩ := fy
        exact ⟨some z, e⟩
      · rw [if_neg hN] at fy
        obtain ⟨z, e, _⟩ := fy
        exact ⟨some z, e⟩
    · rw [if_neg c] at fy
      exact ⟨none, fy⟩
  obtain ⟨ts, rfl, nt⟩ : ∃ ts, to = oV ts ∧ ∀ t, ts = some t → isNm t = true := by
    unfold FitV at ft
    by_cases c : ("to" : Str) ∈ o.2
    · rw [if_pos c, if_pos rfl] at ft
      obtain ⟨z, e, hz⟩ := ft
      exact ⟨some z, e, fun t e2 => by injection e2 with e2; rw [← e2]; exact hz⟩
    · rw [if_neg c] at ft
      exact ⟨none, ft, fun t e2 => by cases e2⟩
  obtain ⟨ks, rfl⟩ : ∃ ks, k = oI ks := by
    unfold FitV at fk
    by_cases c : ("k" : Str) ∈ o.2
    · rw [if_pos c, if_neg (by decide), if_pos rfl] at fk
      obtain ⟨z, _, _, e, _⟩ := fk
      exact ⟨some z, e⟩
    · rw [if_neg c] at fk
      exact ⟨none, fk⟩
  exact ⟨xs, ys, ts, ks, rfl, rfl, rfl, rfl, br.call hn ho fx fy ft fk, nt⟩
/-- what is called an operation and is none -/
def oddD (op : Str) : List PyData := [.none, .bool true, .int 0, .str "", .str "Put", .str "put ", .list [.str op], .tuple [.str op], .str (op ++ op), .str (cutS op (some 1) none ++ "s"), .list []]
theorem odd_ok : ∀ o ∈ args, ∀ d ∈ oddD o.1, SeqAt.shaped d = true ∧ SeqAt.shaped (.list [.str d.shown, .str d.shown]) = true ∧ inS ops d = false := by decide +kernel
theorem odd_sm : ∀ o ∈ args, ∀ d ∈ oddD o.1, Small d 8 2000 := fun o ho d hd => by
  obtain ⟨h1, h2, h3, h4⟩ := (by decide +kernel : ∀ o ∈ args, ∀ d ∈ oddD o.1, d.showable = true ∧ d.hasDict = false ∧ d.depth ≤ 8 ∧ d.shown.length ≤ 2000) o ho d hd
  exact ⟨h1, h2, h3, h4⟩
/-- _law_of of a tuple -/
def spOfT (K : PySem.W.Frag) : Sp := fun vs H Q _ => ∃ (b l : Addr) (n : Int) (xs : List V), vs = [.ref b, .ref l] ∧ Bag H b n ∧ n < 1000000 ∧ l ≠ b ∧ H l = some (.tup xs) ∧ 0 < xs.length ∧ xs.length ≤ 1000 ∧
  ∀ (i : Nat) (v : V) (H' : Hp), xs[i]? = some v → But b H H' → Bag H' b (n + 1) → Q v H'
def spLaw (K : PySem.W.Frag) : Sp := fun vs H Q _ => ∃ (a : Addr) (ns : List Int), vs = [.ref a] ∧ SqL K H a (ns.map V.int) ∧ ns.length ≤ 63 ∧ ∀ H', Q (.bl true) H'
section
variable {P : Program} {w : World} {K : PySem.W.Frag} {mg : Str → Option Value} {base : Heap}
theorem ok_ofT {f fD : Addr} {fd fdD : FuncData} (F : FnP K "_law_of" sOf f fd) (FD : FnP K "_law_draw" sDraw fD fdD) (gD : mg "_law_draw" = some (.ref fD)) (gLen : mg "len" = none) (gInt : mg "int" = none) : FnOk P w K mg base CX0 2 f fd ["bag", "some"] (spOfT K) := by
  have GD : FnOk P w K mg base CX0 1 fD fdD ["bag", "many"] spDraw := ok_draw FD gInt
  have bD : Binds K fdD ["bag", "many"] [] := FD.bindsN fun _ _ _ _ _ _ us hl => match us, hl with | [_, _], _ => rfl
  refine F.ok scOf (fun vs H Q E h => ?_) (fun cdv A outer s H vs Q E hr h => ?_)
  · obtain ⟨b, l, n, xs, rfl, _⟩ := h
    rfl
  · obtain ⟨b, l, n, xs, rfl, hB, hn, nlb, hS, h0, h1, k⟩ := h
    refine ⟨_, PSs.nox (pss_one (ps_ret (pe_ix ix_tup (pv 1) (pe_call GD hr rfl gD FD.kp bD .nil pass0 (pa_cons (pv 0) (pa_cons (pe_callB call_len_seq (by rfl) gLen PySem.boot_len (pa_cons (pv 1) pa_nil)) pa_nil))) (fun _ _ => rfl)))), ?_⟩
    refine ⟨_, rfl, _, rfl, _, rfl, _, _, rfl, .inr (SqT.of hS), b, n, _, rfl, hB, hn, by omega, ?_, fun r H' r0 r1 hk hB' => ?_⟩
    · have e : ((xs.length : Nat) : Int).natAbs = xs.length := by simp
      rw [e]
      exact Nat.lt_of_le_of_lt h1 (by decide)
    · obtain ⟨i, rfl⟩ : ∃ i : Nat, r = i := ⟨r.toNat, by omega⟩
      have hi : i < xs.length := by omega
      have hx : xs[i]? = some xs[i] := List.getElem?_eq_getElem hi
      exact ⟨_, _, _, _, rfl, rfl, SqT.of (hk.kept _ _ nlb hS), atI_nat hx, k i _ H' hx hk hB'⟩
theorem scLaw : FnScope ["script", "at", "bag", "lists", "left", "turn", "op", "call", "many", "change", "one", "mate", "goal", "place", "wrong", "held", "found", "odd"] ["script"] (defScope sLaw) := ⟨rfl, rfl, rfl, by decide +kernel, rfl, by decide +kernel, by decide +kernel⟩
theorem ok_law {f fB fLs fD fO fCl fOd fEx fOu fAf fUn : Addr} {fd fdB fdLs fdD fdO fdCl fdOd fdEx fdOu fdAf fdUn : FuncData} (F : FnP K "law" sLaw f fd)
    (GB : FnOk P w K mg base CX0 1 fB fdB ["script", "at"] (spBag K)) (bB : Binds K fdB ["script", "at"] []) (kB : PySem.W.keepIn K (.ref fB) = true) (gB : mg "_law_bag" = some (.ref fB))
    (GLs : FnOk P w K mg base CX0 4 fLs fdLs ["bag", "most"] spLLs) (bLs : Binds K fdLs ["bag", "most"] []) (kLs : PySem.W.keepIn K (.ref fLs) = true) (gLs : mg "_law_lists" = some (.ref fLs))
    (GD : FnOk P w K mg base CX0 1 fD fdD ["bag", "many"] spDraw) (bD : Binds K fdD ["bag", "many"] []) (kD : PySem.W.keepIn K (.ref fD) = true) (gD : mg "_law_draw" = some (.ref fD))
    (GO : FnOk P w K mg base CX0 2 fO fdO ["bag", "some"] (spOf K)) (GOT : FnOk P w K mg base CX0 2 fO fdO ["bag", "some"] (spOfT K)) (bO : Binds K fdO ["bag", "some"] []) (kO : PySem.W.keepIn K (.ref fO) = true) (gO : mg "_law_of" = some (.ref fO))
    (GCl : FnOk P w K mg base CX0 3 fCl fdCl ["bag", "lists", "left", "op"] spCl) (bCl : Binds K fdCl ["bag", "lists", "left", "op"] []) (kCl : PySem.W.keepIn K (.ref fCl) = true) (gCl : mg "_law_call" = some (.ref fCl))
    (GOd : FnOk P w K mg base CX0 3 fOd fdOd ["bag", "lists", "left", "many"] spOd) (bOd : Binds K fdOd ["bag", "lists", "left", "many"] []) (kOd : PySem.W.keepIn K (.ref fOd) = true) (gOd : mg "_law_odd" = some (.ref fOd))
    (GEx : FnOk P w K mg base CX0 2 fEx fdEx ["lists", "op", "one", "mate", "goal", "place"] (spEx K)) (bEx : Binds K fdEx ["lists", "op", "one", "mate", "goal", "place"] []) (kEx : PySem.W.keepIn K (.ref fEx) = true) (gEx : mg "_law_expected" = some (.ref fEx))
    (GOu : FnOk P w K mg base CX0 5 fOu fdOu ["lists", "op", "one", "mate", "goal", "place"] (spOut K)) (bOu : Binds K fdOu ["lists", "op", "one", "mate", "goal", "place"] []) (kOu : PySem.W.keepIn K (.ref fOu) = true) (gOu : mg "_law_outcome" = some (.ref fOu))
    (GAf : FnOk P w K mg base CX0 2 fAf fdAf ["lists", "op", "one", "mate", "goal", "place"] spAf) (bAf : Binds K fdAf ["lists", "op", "one", "mate", "goal", "place"] []) (kAf : PySem.W.keepIn K (.ref fAf) = true) (gAf : mg "_law_after" = some (.ref fAf))
    (GUn : FnG P w K mg base CX0 5 fUn fdUn ["op"] (spUn K)) (bUn : Binds K fdUn ["op"] []) (kUn : PySem.W.keepIn K (.ref fUn) = true) (gUn : mg "_law_unknown" = some (.ref fUn))
    (n_max : mg "max" = none) (n_min : mg "min" = none) (n_len : mg "len" = none) (n_range : mg "range" = none) (n_list : mg "list" = none) (n_repr : mg "repr" = none) : FnG P w K mg base CX0 6 f fd ["script"] (spLaw K) := by
  refine fnG_ok F scLaw (fun vs H Q E h => ?_) (fun cdv A outer s H vs Q E gg hr h => ?_)
  · obtain ⟨a, ns, rfl, _⟩ := h
    rfl
  · obtain ⟨a, ns, rfl, hS, hl, k⟩ := h
    have hr1 := hr.mono (j := 1) (by decide)
    have hr2 := hr.mono (j := 2) (by decide)
    have hr3 := hr.mono (j := 3) (by decide)
    have hr4 := hr.mono (j := 4) (by decide)
    have hr5 := hr.mono (j := 5) (by decide)
    have hu64 := hr.units
    have hu65 : (A.deeper (envOfC "law" (defScope sLaw) s.heap.objs.size f cdv)).units + 65 < cLine := by have := hr.un; omega
    have hu10 : (A.deeper (envOfC "law" (defScope sLaw) s.heap.objs.size f cdv)).units + 10 < cLine := by have := hr.un; omega
    have hu : (A.deeper (envOfC "law" (defScope sLaw) s.heap.objs.size f cdv)).units + 1 < cLine := by have := hr.un; omega
    have nd := scLaw.nd
    refine ⟨_, PSs.nox (pss_cons (ps_for PassesOwn.never rfl (pi_range1 (by rfl) n_range (pa_cons (pe_callB (call_max2 rfl) (by rfl) n_max (by decide +kernel) (pa_cons pe_int (pa_cons (pe_callB (call_min2 rfl) (by rfl) n_min (by decide +kernel) (pa_cons pe_int (pa_cons (pe_callB call_len_seq (by rfl) n_len PySem.boot_len (pa_cons (pv 0) pa_nil)) pa_nil))) pa_nil))) pa_nil)) (pg_name (i := 1) nd rfl (Or.inl rfl))
(pss_cons (ps_set (i := 2) nd rfl (Or.inl rfl) (pe_call GB hr1 (by rfl) gB kB bB .nil pass0 (pa_cons (pv 0) (pa_cons (pv 1) pa_nil))))
(pss_cons (ps_asg (pe_call GLs hr4 (by rfl) gLs kLs bLs .nil pass0 (pa_cons (pv 2) (pa_cons pe_int pa_nil))) (pg_tup rfl (pgs_cons (pg_name (i := 3) nd rfl (Or.inl rfl)) (pgs_cons (pg_name (i := 4) nd rfl (Or.inl rfl)) pgs_nil))))
(pss_one (ps_for PassesOwn.never rfl (pi_range1 (by rfl) n_range (pa_cons (pe_op op_add pe_int (pe_call GD hr1 (by rfl) gD kD bD .nil pass0 (pa_cons (pv 2) (pa_cons pe_int pa_nil)))) pa_nil)) (pg_name (i := 5) nd rfl (Or.inl rfl))
(pss_cons (ps_set (i := 6) nd rfl (Or.inl rfl) (pe_call GOT hr2 (by rfl) gO kO bO .nil pass0 (pa_cons (pv 2) (pa_cons (pe_tup (pa_cons pe_str (pa_cons pe_str (pa_cons pe_str (pa_cons pe_str (pa_cons pe_str (pa_cons pe_str (pa_cons pe_str (pa_cons pe_str (pa_cons pe_str (pa_cons pe_str pa_nil))))))))))) pa_nil))))
(pss_cons (ps_set (i := 7) nd rfl (Or.inl rfl) (pe_call GCl hr3 (by rfl) gCl kCl bCl .nil pass0 (pa_cons (pv 2) (pa_cons (pv 3) (pa_cons (pv 4) (pa_cons (pv 6) pa_nil))))))
(pss_cons (ps_set (i := 7) nd rfl (Or.inl rfl) (pe_ifExp (pt_cmpR op_notN (pv 7) pe_non (nomark _)) (pe_callTy call_list_of (by rfl) n_list (by decide +kernel) (pa_cons (pv 7) pa_nil)) (pe_lst (pa_cons pe_non (pa_cons pe_non (pa_cons pe_non (pa_cons pe_non pa_nil)))))))
(pss_cons (ps_set (i := 8) nd rfl (Or.inl rfl) (pe_callB call_len_seq (by rfl) n_len PySem.boot_len (pa_cons (pe_bm PySem.F.plainAttrs_dict PySem.F.slot_dict_get PySem.F.type_dict_get (mt_getN hu) (pv 3) (pa_cons (pe_ix ix_list (pv 7) pe_int (fun _ _ => rfl)) (pa_cons (pe_lst pa_nil) pa_nil))) pa_nil)))
(pss_cons (ps_for PassesOwn.never rfl (pi_range1 (by rfl) n_range (pa_cons (pe_call GD hr1 (by rfl) gD kD bD .nil pass0 (pa_cons (pv 2) (pa_cons pe_int pa_nil))) pa_nil)) (pg_name (i := 9) nd rfl (Or.inl rfl))
(pss_one (ps_asg (pe_call GOd hr3 (by rfl) gOd kOd bOd .nil pass0 (pa_cons (pv 2) (pa_cons (pv 3) (pa_cons (pv 4) (pa_cons (pv 8) pa_nil))))) (pg_sub (pv 7) (pe_call GD hr1 (by rfl) gD kD bD .nil pass0 (pa_cons (pv 2) (pa_cons pe_int pa_nil))) set_list))))
(pss_cons (ps_asg (pv 7) (pg_unl rfl (pgs_cons (pg_name (i := 10) nd rfl (Or.inl rfl)) (pgs_cons (pg_name (i := 11) nd rfl (Or.inl rfl)) (pgs_cons (pg_name (i := 12) nd rfl (Or.inl rfl)) (pgs_cons (pg_name (i := 13) nd rfl (Or.inl rfl)) pgs_nil))))))
(pss_cons (ps_par (i := 14) (j := 15) (by rfl) nd rfl rfl (by decide) rfl rfl (pa_cons (pe_call GEx hr2 (by rfl) gEx kEx bEx .nil pass0 (pa_cons (pv 3) (pa_cons (pv 6) (pa_cons (pv 10) (pa_cons (pv 11) (pa_cons (pv 12) (pa_cons (pv 13) pa_nil))))))) (pa_cons (pe_callB (call_repT gg hu10) (by rfl) n_repr (by decide +kernel) (pa_cons (pv 3) pa_nil)) pa_nil)) (by rfl))
(pss_cons (ps_set (i := 16) nd rfl (Or.inl rfl) (pe_call GOu hr5 (by rfl) gOu kOu bOu .nil pass0 (pa_cons (pv 3) (pa_cons (pv 6) (pa_cons (pv 10) (pa_cons (pv 11) (pa_cons (pv 12) (pa_cons (pv 13) pa_nil))))))))
(pss_cons (ps_if (pt_cmpR op_isN (pv 14) pe_non (nomark _))
(pss_one (ps_if (pt_cmpR (op_ne_dictD hu65) (pv 16) (pe_call GAf hr2 (by rfl) gAf kAf bAf .nil pass0 (pa_cons (pv 3) (pa_cons (pv 6) (pa_cons (pv 10) (pa_cons (pv 11) (pa_cons (pv 12) (pa_cons (pv 13) pa_nil))))))) (nomark _))
(pss_one (ps_ret pe_bl))
pss_nil))
(pss_one (ps_if (pt_cmpR (op_neD hu64) (pv 16) (pe_tup (pa_cons pe_str (pa_cons (pv 14) pa_nil))) (nomark _))
(pss_one (ps_ret pe_bl))
pss_nil)))
(pss_cons (ps_set (i := 17) nd rfl (Or.inl rfl) (pe_call GO hr2 (by rfl) gO kO bO .nil pass0 (pa_cons (pv 2) (pa_cons (pe_lst (pa_cons pe_non (pa_cons pe_bl (pa_cons pe_int (pa_cons pe_str (pa_cons pe_str (pa_cons pe_str (pa_cons (pe_lst (pa_cons (pv 6) pa_nil)) (pa_cons (pe_tup (pa_cons (pv 6) pa_nil)) (pa_cons (pe_op op_add_str (pv 6) (pv 6)) (pa_cons (pe_op op_add_str (pe_slice sl_str (pv 6) (po_some pe_int) po_none) pe_str) (pa_cons (pe_lst pa_nil) pa_nil)))))))))))) pa_nil))))
(pss_one (ps_if (PW.pt (pw_or (pt_cmpR (op_neD hu64) (pe_callG GUn gg hr5 (by rfl) gUn kUn bUn .nil pass0 (pa_cons (pv 17) pa_nil)) (pe_op op_rep (pe_lst (pa_cons (pe_callB (call_reprD gg hu10) (by rfl) n_repr (by decide +kernel) (pa_cons (pv 17) pa_nil)) pa_nil)) pe_int) (nomark _)) (pw_or1 (pt_cmpR op_ne (pe_callB (call_repT gg hu10) (by rfl) n_repr (by decide +kernel) (pa_cons (pv 3) pa_nil)) (pv 15) (nomark _)))))
(pss_one (ps_ret pe_bl))
pss_nil)))))))))))))))))
(pss_one (ps_ret pe_bl))), ?_⟩
    refine ⟨_, rfl, a, _, rfl, .inl hS, _, _, rfl, _, _, rfl, _, rfl, ?_, ?_, ?_⟩
    · rw [List.length_map]; split <;> (try split) <;> omega
    · rw [List.length_map]; split <;> (try split) <;> omega
    rw [List.length_map]
    have hn3 : (if (if (ns.length : Int) < 2 then (ns.length : Int) else 2) > 1 then (if (ns.length : Int) < 2 then (ns.length : Int) else 2) else 1).toNat ≤ 3 := by
      split <;> (try split) <;> omega
    generalize (if (if (ns.length : Int) < 2 then (ns.length : Int) else 2) > 1 then (if (ns.length : Int) < 2 then (ns.length : Int) else 2) else 1).toNat = nn at hn3
    refine for_it (walk_rng (n := nn)) (fun _ σ G => ∃ v1 v2 v3 v4 v5 v6 v7 v8 v9 v10 v11 v12 v13 v14 v15 v16 v17, σ = [some (.ref a), v1, v2, v3, v4, v5, v6, v7, v8, v9, v10, v11, v12, v13, v14, v15, v16, v17] ∧ Same H G)
      ⟨none, none, none, none, none, none, none, none, none, none, none, none, none, none, none, none, none, rfl, Same.refl H⟩ (fun _ _ _ _ _ => trivial) ?_ (fun σ G _ => k _)
    rintro i x σ G' G hi ⟨v1, v2, v3, v4, v5, v6, v7, v8, v9, v10, v11, v12, v13, v14, v15, v16, v17, rfl, sG⟩ ⟨rfl, rfl⟩
    refine ⟨_, rfl, _, rfl, a, ns, i, rfl, sG.seq hS, hl, by omega, fun b G2 nb kb eb hB => ?_⟩
    dsimp only [gName, List.set]
    have hbX : H b = none := low sG nb
    refine ⟨_, rfl, b, _, 12, rfl, hB, by omega, by decide, fun R p F T zs G3 k3 hB3 pb Fb tb hR hT br hF zs1 zs2 ndz hzs => ?_⟩
    refine ⟨R, _, rfl, SqT.of hR, rfl, _, _, rfl, _, _, rfl, rfl, ?_⟩
    have keepX : ∀ {G'}, Kept b G3 G' → Same H G' := fun {G'} kk x o e => kk _ _ (ne_of_none e hbX) (k3 _ _ (ne_of_none e hbX) (kb _ _ (ne_of_none e hbX) (sG _ _ e)))
    dsimp only [gName, List.set]
    have cn : Cn b p F G3 G3 T zs 700 := ⟨hB3.mono (by omega), hT, hF, Kept.refl b G3, pb, Fb, tb⟩
    refine ⟨_, rfl, b, _, 8, rfl, cn.bag, by omega, by decide, by decide, fun r G4 r0 r1 bt hB4 => ⟨_, _, rfl, rfl, ?_⟩⟩
    have cn := cn.draw bt hB4
    refine ⟨_, rfl, by omega, by omega, ?_⟩
    have hn8 : (1 + r).toNat ≤ 8 := by omega
    generalize (1 + r).toNat = nt at hn8
    refine for_it (walk_rng (n := nt)) (fun j σ G => ∃ v5 v6 v7 v8 v9 v10 v11 v12 v13 v14 v15 v16 v17, σ = [some (.ref a), some (.int i), some (.ref b), some (.ref p), some (.ref F), v5, v6, v7, v8, v9, v10, v11, v12, v13, v14, v15, v16, v17] ∧ Cn b p F G3 G T zs (800 + 60 * j))
      ⟨_, _, _, _, _, _, _, _, _, _, _, _, _, rfl, cn.le (by omega)⟩ (fun _ _ _ _ _ => trivial) ?_ (fun σ G h => ?_)
    · clear cn hB4 bt
      rintro j x σ G' G hj ⟨v5, v6, v7, v8, v9, v10, v11, v12, v13, v14, v15, v16, v17, rfl, cn⟩ ⟨rfl, rfl⟩
      have hj8 : j < 8 := by omega
      dsimp only [gName, List.set]
      refine ⟨_, rfl, (by show 10 ≤ sizeLine; decide), fun T1 nT1 => ?_⟩
      have cn0 : Cn b p F G3 G3 T zs 700 := ⟨hB3.mono (by omega), hT, hF, Kept.refl b G3, pb, Fb, tb⟩
      have T1b := cn.bag.ne nT1
      have cn := cn.same (same_put (o := .tup (ops.map V.str)) nT1)
      refine ⟨b, T1, _, _, rfl, cn.bag, by omega, T1b, upd_same, (by show 0 < 10; decide), (by show 10 ≤ 1000; decide), fun j2 v G5 hv bt hB5 => ?_⟩
      have cn := cn.draw bt hB5
      obtain ⟨op, hop, rfl⟩ : ∃ op ∈ ops, V.str op = v := by
        obtain ⟨z, hz, rfl⟩ := List.mem_map.mp (show v ∈ ops.map V.str from List.mem_of_getElem? hv)
        exact ⟨z, hz, rfl⟩
      obtain ⟨o, ho, rfl⟩ := ops_args op hop
      clear hv hB5 bt
      dsimp only [gName, List.set]
      refine seq_by (fun σ G => ∃ cv, σ = [some (.ref a), some (.int i), some (.ref b), some (.ref p), some (.ref F), some (.int j), some (.str o.1), some cv, v8, v9, v10, v11, v12, v13, v14, v15, v16, v17] ∧ Cn b p F G3 G T zs (830 + 60 * j) ∧ (cv = .non ∨ ∃ (R : Addr) (x : Str) (y to : Option Str) (k : Option Nat), cv = .ref R ∧ G R = some (.tup [.str x, oV y, oV to, oI k]) ∧ isNm x = true ∧ (∀ t, y = some t → isNm t = true) ∧ ∀ t, to = some t → isNm t = true)) ?_ (fun nxt => ?_)
      · clear cn
        rintro σ G ⟨cv, rfl, cn, hcv⟩
        refine seq_by (fun σ G => ∃ (C : Addr) (ws : List V), σ = [some (.ref a), some (.int i), some (.ref b), some (.ref p), some (.ref F), some (.int j), some (.str o.1), some (.ref C), v8, v9, v10, v11, v12, v13, v14, v15, v16, v17] ∧ Cn b p F G3 G T zs (830 + 60 * j) ∧ Cs b C G ws ∧ G3 C = none ∧ ∃ t, ws[2]? = some (oV t)) ?_ (fun nxt => ?_)
        · clear cn hcv cv
          rintro σ G ⟨C, ws, rfl, cn, cs, nC, to, hto⟩
          refine seq_by (fun σ G => ∃ (many : Nat), σ = [some (.ref a), some (.int i), some (.ref b), some (.ref p), some (.ref F), some (.int j), some (.str o.1), some (.ref C), some (.int many), v9, v10, v11, v12, v13, v14, v15, v16, v17] ∧ Cn b p F G3 G T zs (830 + 60 * j) ∧ Cs b C G ws) ?_ (fun nxt => ?_)
          · clear cn cs hto
            rintro σ G ⟨many, rfl, cn, cs⟩
            refine seq_by (fun σ G => ∃ (v9 : Option V) (ws : List V), σ = [some (.ref a), some (.int i), some (.ref b), some (.ref p), some (.ref F), some (.int j), some (.str o.1), some (.ref C), some (.int many), v9, v10, v11, v12, v13, v14, v15, v16, v17] ∧ Cn b p F G3 G T zs (850 + 60 * j) ∧ Cs b C G ws) ?_ (fun nxt => ?_)
            · clear cn cs ws
              rintro σ G ⟨v9, ws, rfl, cn, cs⟩
              obtain ⟨x, y, to, k, rfl⟩ : ∃ x y to k, ws = [x, y, to, k] := by
                have := cs.len
                match ws, this with
                | [x, y, to, k], _ => exact ⟨x, y, to, k, rfl⟩
              refine ⟨_, rfl, C, _, rfl, SqL.of cs.at_, rfl, _, _, rfl, _, _, rfl, _, _, rfl, _, _, rfl, rfl, ?_⟩
              dsimp only [gName, List.set]
              obtain ⟨⟨dx, hx⟩, _⟩ := cs.av x (by simp)
              obtain ⟨⟨dy, hy⟩, _⟩ := cs.av y (by simp)
              obtain ⟨⟨dt, ht⟩, _⟩ := cs.av to (by simp)
              obtain ⟨⟨dk, hk⟩, _⟩ := cs.av k (by simp)
              have sht := br.sht (by decide)
              refine seq_by (fun σ G' => ∃ wv, σ = [some (.ref a), some (.int i), some (.ref b), some (.ref p), some (.ref F), some (.int j), some (.str o.1), some (.ref C), some (.int many), v9, some x, some y, some to, some k, some wv, some (.str (dTxt (T.map fun t => (t.1, t.2.1)))), v16, v17] ∧ Cn b p F G3 G' T zs (850 + 60 * j) ∧ Kept b G G' ∧ ((AllFit o (lT T) x y to k ∧ wv = .non) ∨ ∃ nm, Wrong o (lT T) x y to k nm ∧ wv = .str nm)) ?_ (fun nxt => ?_)
              · clear cn
                rintro σ G1 ⟨wv, rfl, cn, k1, hwv⟩
                refine seq_by (fun σ G' => ∃ fv, σ = [some (.ref a), some (.int i), some (.ref b), some (.ref p), some (.ref F), some (.int j), some (.str o.1), some (.ref C), some (.int many), v9, some x, some y, some to, some k, some wv, some (.str (dTxt (T.map fun t => (t.1, t.2.1)))), some fv, v17] ∧ Cn b p F G3 G' T zs (850 + 60 * j) ∧ ((∃ (q : Addr) (xs : Str) (ys ts : Option Str) (ks : Option Nat), x = .str xs ∧ y = oV ys ∧ to = oV ts ∧ k = oI ks ∧ Call o (lT T) xs ys ts ks ∧ (∀ t, ts = some t → isNm t = true) ∧ wv = .non ∧ fv = .ref q ∧ DL G' q (apL o.1 xs ys ts ks (lT T))) ∨ ∃ (T2 : Addr) (nm : Str), wv = .str nm ∧ nm ∈ nms4 ∧ fv = .ref T2 ∧ G' T2 = some (.tup ((["call", nm] : List Str).map V.str)))) ?_ (fun nxt => ?_)
                · clear cn k1 hwv
                  rintro σ G2 ⟨fv, rfl, cn, hfv⟩
                  refine seq_by (fun σ G' => σ = [some (.ref a), some (.int i), some (.ref b), some (.ref p), some (.ref F), some (.int j), some (.str o.1), some (.ref C), some (.int many), v9, some x, some y, some to, some k, some wv, some (.str (dTxt (T.map fun t => (t.1, t.2.1)))), some fv, v17] ∧ Cn b p F G3 G' T zs (850 + 60 * j)) ?_ (fun nxt => ?_)
                  · clear cn hfv
                    rintro σ G2 ⟨rfl, cn⟩
                    have l6 : o.1.length ≤ 8 := (by decide +kernel : ∀ o ∈ args, o.1.length ≤ 8) o ho
                    have l1s : ("s" : Str).length = 1 := by decide
                    have lcut : (cutS o.1 (some 1) none).length ≤ 8 := (by decide +kernel : ∀ o ∈ args, (cutS o.1 (some 1) none).length ≤ 8) o ho
                    have hoo := odd_ok o ho
                    have hos := odd_sm o ho
                    refine ⟨_, rfl, _, rfl, (by show 1 ≤ sizeLine; decide), fun a1 na1 => ?_⟩
                    have a1b := cn.bag.ne na1
                    have s6 := same_put (o := .lst [V.str o.1]) na1
                    have cn := cn.same s6
                    have ha1 : upd G2 a1 (.lst [V.str o.1]) a1 = some (.lst (([o.1] : List Str).map V.str)) := upd_same
                    generalize upd G2 a1 (.lst [V.str o.1]) = G6 at cn ha1 ⊢
                    refine ⟨_, rfl, (by show 1 ≤ sizeLine; decide), fun t1 nt1 => ?_⟩
                    have t1b := cn.bag.ne nt1
                    have s7 := same_put (o := .tup [V.str o.1]) nt1
                    have cn := cn.same s7
                    have ht1 : upd G6 t1 (.tup [V.str o.1]) t1 = some (.tup (([o.1] : List Str).map V.str)) := upd_same
                    have ha1 := s7 _ _ ha1
                    generalize upd G6 t1 (.tup [V.str o.1]) = G7 at cn ha1 ht1 ⊢
                    refine ⟨_, rfl, _, rfl, _, _, rfl, rfl, by rw [sizeLine_eq]; omega, _, rfl, 1, rfl, _, rfl, by rw [sizeLine_eq]; omega, _, _, rfl, rfl, by rw [l1s, sizeLine_eq]; omega, (by show 0 ≤ sizeLine; decide), fun a2 na2 => ?_⟩
                    have a2b := cn.bag.ne na2
                    have s8 := same_put (o := .lst []) na2
                    have cn := cn.same s8
                    have ha2 : upd G7 a2 (.lst []) a2 = some (.lst (([] : List Str).map V.str)) := upd_same
                    have ha1 := s8 _ _ ha1
                    have ht1 := s8 _ _ ht1
                    generalize upd G7 a2 (.lst []) = G8 at cn ha1 ht1 ha2 ⊢
                    refine ⟨(by show 11 ≤ sizeLine; decide), fun S nS => ?_⟩
                    have Sb := cn.bag.ne nS
                    have s9 := same_put (o := .lst [V.non, V.bl true, V.int 0, V.str "", V.str "Put", V.str "put ", V.ref a1, V.ref t1, V.str (o.1 ++ o.1), V.str (cutS o.1 (some 1) none ++ "s"), V.ref a2]) nS
                    have cn := cn.same s9
                    have ha1 := s9 _ _ ha1
                    have ht1 := s9 _ _ ht1
                    have ha2 := s9 _ _ ha2
                    refine ⟨b, S, _, _, rfl, cn.bag, by omega, Sb, SqL.of upd_same, (by show 0 < 11; decide), (by show 11 ≤ 1000; decide), fun j3 v GA hv bt hBA => ?_⟩
                    have cn := cn.draw bt hBA
                    have ha1 := (bt _ a1b).trans ha1
                    have ht1 := (bt _ t1b).trans ht1
                    have ha2 := (bt _ a2b).trans ha2
                    have mem := List.mem_of_getElem? hv
                    clear hv bt hBA s9 nS
                    dsimp only [gName, List.set]
                    obtain ⟨d, hd, hdp⟩ : ∃ d ∈ oddD o.1, Dp K GA v d := by
                      rcases List.mem_cons.mp mem with rfl | h
                      · exact ⟨.none, List.mem_cons_self, .non⟩
                      rcases List.mem_cons.mp h with rfl | h
                      · exact ⟨.bool true, .tail _ List.mem_cons_self, .bl true⟩
                      rcases List.mem_cons.mp h with rfl | h
                      · exact ⟨.int 0, .tail _ (.tail _ List.mem_cons_self), .int 0⟩
                      rcases List.mem_cons.mp h with rfl | h
                      · exact ⟨.str "", .tail _ (.tail _ (.tail _ List.mem_cons_self)), .str ""⟩
                      rcases List.mem_cons.mp h with rfl | h
                      · exact ⟨.str "Put", .tail _ (.tail _ (.tail _ (.tail _ List.mem_cons_self))), .str "Put"⟩
                      rcases List.mem_cons.mp h with rfl | h
                      · exact ⟨.str "put ", .tail _ (.tail _ (.tail _ (.tail _ (.tail _ List.mem_cons_self)))), .str "put "⟩
                      rcases List.mem_cons.mp h with rfl | h
                      · exact ⟨.list [.str o.1], .tail _ (.tail _ (.tail _ (.tail _ (.tail _ (.tail _ List.mem_cons_self))))), .lst (SqL.of ha1) (strs_dp [o.1])⟩
                      rcases List.mem_cons.mp h with rfl | h
                      · exact ⟨.tuple [.str o.1], .tail _ (.tail _ (.tail _ (.tail _ (.tail _ (.tail _ (.tail _ List.mem_cons_self)))))), .tup (SqT.of ht1) (strs_dp [o.1])⟩
                      rcases List.mem_cons.mp h with rfl | h
                      · exact ⟨.str (o.1 ++ o.1), .tail _ (.tail _ (.tail _ (.tail _ (.tail _ (.tail _ (.tail _ (.tail _ List.mem_cons_self))))))), .str _⟩
                      rcases List.mem_cons.mp h with rfl | h
                      · exact ⟨.str (cutS o.1 (some 1) none ++ "s"), .tail _ (.tail _ (.tail _ (.tail _ (.tail _ (.tail _ (.tail _ (.tail _ (.tail _ List.mem_cons_self)))))))), .str _⟩
                      · rw [List.mem_singleton.mp h]
                        exact ⟨.list [], .tail _ (.tail _ (.tail _ (.tail _ (.tail _ (.tail _ (.tail _ (.tail _ (.tail _ (.tail _ List.mem_cons_self))))))))), .lst (SqL.of ha2) (strs_dp [])⟩
                    obtain ⟨sh1, sh2, hin⟩ := hoo d hd
                    have sm := hos d hd
                    refine ⟨_, rfl, v, d, rfl, hdp, sh1, hin, sm, fun F2 GB nF2 sB hF2 => ?_⟩
                    have cn := cn.same sB
                    refine ⟨_, rfl, v, d, rfl, hdp.mv sB, sm.mono (by decide) (by decide), (by show 1 ≤ sizeLine; decide), fun l nl => ?_⟩
                    have sl := same_put (o := .lst [V.str d.shown]) nl
                    have cn := cn.same sl
                    have hF2 := sl _ _ hF2
                    have hl0 : upd GB l (.lst [V.str d.shown]) l = some (.lst [V.str d.shown]) := upd_same
                    generalize upd GB l (.lst [V.str d.shown]) = GC at cn hF2 hl0 ⊢
                    refine ⟨l, 2, _, rfl, rfl, hl0, by decide, by decide, (by show 2 ≤ sizeLine; decide), fun m nm => ?_⟩
                    have sm2 := same_put (o := .lst (List.replicate (2 : Int).toNat [V.str d.shown]).flatten) nm
                    have cn := cn.same sm2
                    have hF2 := sm2 _ _ hF2
                    have hm2 : upd GC m (.lst (List.replicate (2 : Int).toNat [V.str d.shown]).flatten) m = some (.lst (([d.shown, d.shown] : List Str).map V.str)) := upd_same
                    refine ⟨.list [.str d.shown, .str d.shown], .list [.str d.shown, .str d.shown], .lst (SqL.of (show _ = some (HO.lst (([d.shown, d.shown] : List Str).map V.str)) from hF2)) (strs_dp [d.shown, d.shown]), .lst (SqL.of hm2) (strs_dp [d.shown, d.shown]), sh2, sh2, _, rfl, no (by rw [SeqAt.eqv_refl _ (Bool.and_eq_true_iff.mp sh2).1]; rfl) ?_⟩
                    exact ⟨_, rfl, p, T, rfl, cn.dt.at_, cn.dt.all, sht, _, rfl, rfl, _, rfl, no (ne_self _) ⟨_, _, _, _, _, _, _, _, _, _, _, _, _, rfl, cn.le (by omega)⟩⟩
                  · rcases hfv with ⟨q, xs, ys, ts, ks, rfl, rfl, rfl, rfl, call, nto, rfl, rfl, hq⟩ | ⟨T2, nm, rfl, hnm, rfl, hT2⟩
                    · obtain ⟨nx, xn1, xn2⟩ := call.row br.nm
                      have brU : Br (0 + 1) (apL o.1 xs ys ts ks (lT T)) := br.ap call nx nto xn2 call.mate
                      refine ⟨_, rfl, rfl, _, rfl, yes (decide_eq_true rfl) ?_⟩
                      refine ⟨_, rfl, _, rfl, _, rfl, _, rfl, _, rfl, _, rfl, _, rfl, p, T, o, xs, ys, ts, ks, rfl, cn.dt, by have := br.few; omega, by have := br.le; omega, br.kn, call, fun q2 G7 n2 s7 h2 => ?_⟩
                      obtain ⟨U2, eU2, dU2, _⟩ := h2
                      have hd1 : DDat K G7 q (dL (apL o.1 xs ys ts ks (lT T))) := DL.data (hq.mv s7) brU.nm
                      have hd2 : DDat K G7 q2 (dL (apL o.1 xs ys ts ks (lT T))) := DL.data ⟨U2, eU2, dU2⟩ brU.nm
                      have dq := deq_self brU.wf.kn brU.nm
                      exact ⟨q, q2, _, _, rfl, rfl, hd1, hd2, _, rfl, no (by rw [if_pos rfl, dq]; rfl) (nxt _ _ ⟨rfl, cn.same s7⟩)⟩
                    · refine ⟨_, rfl, rfl, _, rfl, no (decide_eq_false nofun) ?_⟩
                      refine ⟨_, rfl, _, rfl, (by show 2 ≤ sizeLine; decide), fun T3 nT3 => ?_⟩
                      have sh : SeqAt.shaped (.tuple ((["call", nm] : List Str).map PyData.str)) = true := (by decide +kernel : ∀ nm ∈ nms4, SeqAt.shaped (.tuple ((["call", nm] : List Str).map PyData.str)) = true) nm hnm
                      refine ⟨_, _, .tup (SqT.of (same_put nT3 _ _ hT2)) (strs_dp _), .tup (SqT.of (upd_same.trans (show _ = some (HO.tup ((["call", nm] : List Str).map V.str)) from rfl))) (strs_dp _), sh, sh, _, rfl, no (by rw [SeqAt.eqv_refl _ (Bool.and_eq_true_iff.mp sh).1]; rfl) (nxt _ _ ⟨rfl, cn.same (same_put nT3)⟩)⟩
                · refine ⟨_, rfl, _, rfl, _, rfl, _, rfl, _, rfl, _, rfl, p, o, lT T, x, y, to, k, rfl, ho, cn.dl, br.wf, by have := br.le; omega, ?_⟩
                  rcases hwv with ⟨af, rfl⟩ | ⟨nm, wr, rfl⟩
                  · obtain ⟨xs, ys, ts, ks, e1, e2, e3, e4, call, nto⟩ := call_of br (by decide) ho af
                    exact .inl ⟨xs, ys, ts, ks, e1, e2, e3, e4, call, fun q G7 n7 s7 h7 => nxt _ _ ⟨_, rfl, cn.same s7, .inl ⟨q, xs, ys, ts, ks, e1, e2, e3, e4, call, nto, rfl, rfl, by obtain ⟨U, eU, dU, _⟩ := h7; exact ⟨U, eU, dU⟩⟩⟩⟩
                  · have hx := (hx.keep k1).dp (K := K)
                    have hy := (hy.keep k1).dp (K := K)
                    have ht := (ht.keep k1).dp (K := K)
                    have hk := (hk.keep k1).dp (K := K)
                    refine .inr ⟨dx, dy, dt, dk, nm, hx.1, hx.2, hy.1, hy.2, ht.1, ht.2, hk.1, hk.2, wr, fun T2 G7 s7 h7 => nxt _ _ ⟨_, rfl, cn.same s7, .inr ⟨T2, nm, rfl, ?_, rfl, h7⟩⟩⟩
                    obtain ⟨i2, hi2, _⟩ := wr
                    exact List.mem_of_getElem? hi2
              · have hx := hx.dp (K := K)
                have hy := hy.dp (K := K)
                have ht := ht.dp (K := K)
                have hk := hk.dp (K := K)
                refine ⟨_, rfl, _, rfl, _, rfl, _, rfl, _, rfl, _, rfl, p, o, lT T, x, y, to, k, dx, dy, dt, dk, 0, rfl, ho, cn.dl, br, by decide, hx.1, hx.2, hy.1, hy.2, ht.1, ht.2, hk.1, hk.2, fun af G7 s7 => ?_, fun nm wr G7 s7 => ?_⟩
                · have cn := cn.same s7
                  exact ⟨_, rfl, p, T, rfl, cn.dt.at_, cn.dt.all, sht, _, _, rfl, nxt _ _ ⟨_, rfl, cn, fun z w _ e => s7 z w e, .inl ⟨af, rfl⟩⟩⟩
                · have cn := cn.same s7
                  exact ⟨_, rfl, p, T, rfl, cn.dt.at_, cn.dt.all, sht, _, _, rfl, nxt _ _ ⟨_, rfl, cn, fun z w _ e => s7 z w e, .inr ⟨nm, wr, rfl⟩⟩⟩
            · refine ⟨_, rfl, b, _, 4, rfl, cn.bag, by omega, by decide, by decide, fun r G6 r0 r1 bt hB6 => ?_⟩
              have cs := cs.keep bt.kept
              have cn := cn.draw bt hB6
              obtain ⟨r, rfl⟩ : ∃ r' : Nat, r = r' := ⟨r.toNat, by omega⟩
              refine ⟨_, rfl, by omega, by omega, ?_⟩
              refine for_it (walk_rng (n := ((r : Nat) : Int).toNat)) (fun c σ G => ∃ (v9 : Option V) (ws : List V), σ = [some (.ref a), some (.int i), some (.ref b), some (.ref p), some (.ref F), some (.int j), some (.str o.1), some (.ref C), some (.int many), v9, v10, v11, v12, v13, v14, v15, v16, v17] ∧ Cn b p F G3 G T zs (831 + 60 * j + 4 * c) ∧ Cs b C G ws)
                ⟨_, ws, rfl, cn.le (by omega), cs⟩ (fun _ _ _ _ _ => trivial) ?_ (fun σ G h => ?_)
              · skip
                rintro c x σ G' G hc ⟨v9, ws, rfl, cn, cs⟩ ⟨rfl, rfl⟩
                have hc4 : c < 4 := by omega
                dsimp only [gName, List.set]
                refine ⟨_, rfl, _, rfl, _, rfl, _, rfl, b, p, F, _, T, zs, 0, many, rfl, cn.bag, by omega, cn.pb, cn.fb, cn.tb, cn.dt, br, by decide, cn.lf, by omega, by omega, (fun z hz => (hzs z hz).1), fun v d G7 k7 hB7 av fr => ?_⟩
                have fr : ∀ q, v = .ref q → q ≠ C := fun q e => (ne_of_none cs.at_ (fr q e)).symm
                have cs := cs.keep k7
                have cn := cn.keep k7 hB7
                refine ⟨_, rfl, _, rfl, b, _, 4, rfl, cn.bag, by omega, by decide, by decide, fun r2 G8 r0 r1 bt hB8 => ?_⟩
                have cs := cs.keep bt.kept
                have av := av.keep bt.kept
                have cn := cn.draw bt hB8
                obtain ⟨r2, rfl⟩ : ∃ r' : Nat, r2 = r' := ⟨r2.toNat, by omega⟩
                refine ⟨C, ws, _, r2, rfl, rfl, cs.at_, ixN_nat (by rw [cs.len]; omega), ?_⟩
                exact ⟨_, _, rfl, (cn0.put cn cs.ne nC).le (by omega), cs.set r2 av fr⟩
              · obtain ⟨v9, ws, rfl, cn, cs⟩ := h
                exact nxt _ _ ⟨_, _, rfl, cn.le (by omega), cs⟩
          · refine ⟨_, rfl, .inr (.inr (.inl ⟨rfl, .inl ⟨_, cn.dt.at_⟩⟩)), _, rfl, C, ws, 2, _, rfl, rfl, SqL.of cs.at_, (by rw [show (2 : Int) = ((2 : Nat) : Int) from rfl]; exact atI_nat hto), (by show 0 ≤ sizeLine; decide), fun l nl => ?_⟩
            have cs := cs.keep (G' := upd G l (.lst [])) fun x o _ e => (upd_ne (ne_of_none e nl)).trans e
            have cn := cn.same (same_put (o := .lst []) nl)
            have hl0 : upd G l (.lst []) l = some (.lst []) := upd_same
            generalize upd G l (.lst []) = G6 at cn cs hl0 ⊢
            have next : ∀ (Q' : VK), (∀ (q : Addr) (xs : List V), G6 q = some (.lst xs) → Q' (.ref q) G6) → rGetN (.ref p) [oV to, .ref l] G6 Q' := fun Q' q' => ⟨p, kvT T, oV to, .ref l, rfl, rfl, .inl cn.dt.at_, by
              cases to with
              | none => exact .inl ⟨rfl, q' l _ hl0⟩
              | some t =>
                refine .inr ⟨.inr t, rfl, ?_⟩
                by_cases ht : t ∈ keysL (lT T)
                · obtain ⟨e, he, ee⟩ := List.mem_map.mp ht
                  obtain ⟨u, hu, rfl⟩ := List.mem_map.mp he
                  obtain rfl : u.1 = t := ee
                  rw [kv_val br.wf.kn hu]
                  exact q' _ _ (cn.dt.all u hu)
                · rw [kv_none ht]
                  exact q' l _ hl0⟩
            dsimp only [tNil]
            refine next _ fun q xs hq => ?_
            exact ⟨q, xs, rfl, .inl (SqL.of hq), nxt _ _ ⟨_, rfl, cn, cs⟩⟩
        · refine ⟨_, rfl, rfl, _, rfl, ?_⟩
          rcases hcv with rfl | ⟨R, x, y, to, k, rfl, hR, nx, ny, nto⟩
          · refine no rfl ⟨(by show 4 ≤ sizeLine; decide), fun C nC => ?_⟩
            have Cb := cn.bag.ne nC
            have lC : G3 C = none := by
              cases e : G3 C with
              | none => rfl
              | some o => rw [cn.kept _ _ Cb e] at nC; cases nC
            refine nxt _ _ ⟨C, _, rfl, cn.same (same_put nC), ⟨Cb, upd_same, rfl, fun v hv => ?_⟩, lC, none, rfl⟩
            rw [List.eq_of_mem_replicate (show v ∈ List.replicate 4 V.non from hv)]
            exact ⟨⟨.none, .inl ⟨rfl, rfl⟩⟩, fun q e => by cases e⟩
          · refine yes rfl ⟨_, rfl, R, _, rfl, .inr (SqT.of hR), fun C nC => ?_⟩
            have Cb := cn.bag.ne nC
            have lC : G3 C = none := by
              cases e : G3 C with
              | none => rfl
              | some o => rw [cn.kept _ _ Cb e] at nC; cases nC
            refine nxt _ _ ⟨C, _, rfl, cn.same (same_put nC), ⟨Cb, upd_same, rfl, fun v hv => ?_⟩, lC, to, rfl⟩
            rcases List.mem_cons.mp hv with rfl | hv
            · exact ⟨av_str nx, fun q e => by cases e⟩
            rcases List.mem_cons.mp hv with rfl | hv
            · exact ⟨av_opt ny, fun q e => by cases y <;> cases e⟩
            rcases List.mem_cons.mp hv with rfl | hv
            · exact ⟨av_opt nto, fun q e => by cases to <;> cases e⟩
            · rw [List.mem_singleton.mp hv]
              exact ⟨av_int, fun q e => by cases k <;> cases e⟩
      · refine ⟨_, rfl, _, rfl, _, rfl, _, rfl, b, p, F, _, T, zs, o, 0, rfl, ho, cn.bag, by omega, cn.pb, cn.fb, cn.tb, cn.dt, br, by decide, cn.lf, by omega, hzs, fun _ => by omega, fun hN he G6 k6 hB6 => ?_, fun R x y to kk G6 Rb k6 hB6 hR call hx1 hto => ?_⟩
        · exact nxt _ _ ⟨_, rfl, (cn.keep k6 hB6).le (by omega), .inl rfl⟩
        · exact nxt _ _ ⟨_, rfl, (cn.keep k6 hB6).le (by omega), .inr ⟨R, x, y, to, kk, rfl, hR, (call.row br.nm).1, call.matn br.nm, hto⟩⟩
    · obtain ⟨v5, v6, v7, v8, v9, v10, v11, v12, v13, v14, v15, v16, v17, rfl, cn⟩ := h
      exact ⟨_, _, _, _, _, _, _, _, _, _, _, _, _, _, _, _, _, rfl, keepX cn.kept⟩
end
end K11

set_option Elab.async false
set_option maxRecDepth 100000
set_option maxHeartbeats 0
namespace K11
open PySem PySem.Spec PyProof.Rows L2 He KX
structure Fs (K : PySem.W.Frag) : Prop where
  fre : ∀ x ∈ frees, (Fa.free x).ok K = true
  glo : ∀ x ∈ gls, (Fa.glo x).ok K = true
  bo : ErBO K
  bc : ErBC K
  me : PySem.W.kitAny K (.ref (ga K "BadCall")) [.ref (ga K "BadOperation"), .ref (ga K "MissingError")] = some false
  tO : tupB K (ga K "OPERATIONS") ops = true
  tN : tupB K (ga K "NEW") ["put", "add"] = true
  ar : ∀ o ∈ args, argB K o = true
theorem ba9 {a b : Bool} (h : (a && b) = true) : a = true ∧ b = true := Bool.and_eq_true_iff.mp h
theorem vals_app {xs ys : List V} {us ws : List Value} (h : Vals xs us) (k : Vals ys ws) : Vals (xs ++ ys) (us ++ ws) := by
  induction h with
  | nil => exact k
  | cons r _ ih => exact .cons r ih
theorem vals_take {xs : List V} {us : List Value} (h : Vals xs us) : Vals (xs.take 1) (us.take 1) := by
  cases h with
  | nil => exact .nil
  | cons r _ => exact .cons r .nil
theorem vals_drop {xs : List V} {us : List Value} (h : Vals xs us) : Vals (xs.drop 1) (us.drop 1) := by
  cases h with
  | nil => exact .nil
  | cons _ r => exact r
theorem vals_rev {xs : List V} {us : List Value} (h : Vals xs us) : Vals xs.reverse us.reverse := by
  induction h with
  | nil => exact .nil
  | cons r _ ih =>
    rw [List.reverse_cons, List.reverse_cons]
    exact vals_app ih (.cons r .nil)
theorem arg_of {K : PySem.W.Frag} {w : World} (c : SaysD chk fn dics w K) (ar : ∀ o ∈ args, argB K o = true) : ∀ o ∈ args, ∃ a, KDct K w (ga K "ARGUMENTS") o.1 (.ref a) ∧ ∀ G, SqT K G a (o.2.map V.str) := fun o ho => by
  obtain ⟨es, n, h1, h2, _⟩ := c.dic 0 (d := ("ARGUMENTS", ops)) rfl
  have h3 := ar o ho
  unfold argB at h3
  cases e : PySem.W.nsIn K (ga K "ARGUMENTS") o.1 with
  | none => rw [e] at h3; cases h3
  | some r =>
    cases r with
    | none => rw [e] at h3; cases h3
    | some u =>
      cases u with
      | ref a =>
        rw [e] at h3
        exact ⟨a, ⟨es, n, .ref a, h1, h2, e, rfl⟩, fun G => tupB_ok h3⟩
      | _ => rw [e] at h3; cases h3
theorem facts_of {K : PySem.W.Frag} (h : chk K = true) : Fs K := by
  unfold chk errB conB at h
  obtain ⟨h1, h⟩ := ba9 h
  obtain ⟨h2, h⟩ := ba9 h
  obtain ⟨h4, h5⟩ := ba9 h
  obtain ⟨e1, e2⟩ := ba9 h1
  obtain ⟨e3, e4⟩ := ba9 e2
  obtain ⟨t1, t⟩ := ba9 h2
  obtain ⟨t2, t3⟩ := ba9 t
  exact ⟨List.all_eq_true.mp h4, List.all_eq_true.mp h5, er_of e1, er_of e3, of_decide_eq_true e4, t1, t2, List.all_eq_true.mp t3⟩
theorem all_ok {P : Program} {w : World} {K : PySem.W.Frag} {h : Heap} {mg : Str → Option Value} {f : Addr} (X : K.In h) (G : h.Ns mainGlobals mg) (hfa : mg ("law" : Str) = some (.ref f)) (c : SaysD chk fn dics w K) :
    ∃ fd : FuncData, (∀ (s : Shared) (u : Value), BindsTo s fd ⟨[u], []⟩ [("script", u)]) ∧ ∀ base : Heap, K.In base → base.Ns mainGlobals mg → FnG P w K mg base CX0 6 f fd ["script"] (spLaw K) := by
  have cx := c.1
  have S := facts_of cx.1
  have g : ∀ x ∈ gls, mg x = some (.ref (ga K x)) := fun x hx => glo_ok X G (S.glo x hx)
  have fr : ∀ x ∈ frees, mg x = none := fun x hx => free_ok X G (S.fre x hx)
  obtain ⟨fd2, F2⟩ := cx.fd 2
  replace F2 : FnP K "is_integer" sInt (ga K "is_integer") fd2 := F2
  obtain ⟨fd3, F3⟩ := cx.fd 3
  replace F3 : FnP K "is_name" sName (ga K "is_name") fd3 := F3
  obtain ⟨fd4, F4⟩ := cx.fd 4
  replace F4 : FnP K "arguments_of" sArg (ga K "arguments_of") fd4 := F4
  obtain ⟨fd6, F6⟩ := cx.fd 6
  replace F6 : FnP K "check_call" sChk (ga K "check_call") fd6 := F6
  obtain ⟨fd7, F7⟩ := cx.fd 7
  replace F7 : FnP K "_fits" sFit (ga K "_fits") fd7 := F7
  obtain ⟨fd8, F8⟩ := cx.fd 8
  replace F8 : FnP K "_last_place" sLp (ga K "_last_place") fd8 := F8
  obtain ⟨fd9, F9⟩ := cx.fd 9
  replace F9 : FnP K "_taken_out" sTak (ga K "_taken_out") fd9 := F9
  obtain ⟨fd10, F10⟩ := cx.fd 10
  replace F10 : FnP K "_index" sIdx (ga K "_index") fd10 := F10
  obtain ⟨fd11, F11⟩ := cx.fd 11
  replace F11 : FnP K "_exchange" sExc (ga K "_exchange") fd11 := F11
  obtain ⟨fd12, F12⟩ := cx.fd 12
  replace F12 : FnP K "_law_bag" sBag (ga K "_law_bag") fd12 := F12
  obtain ⟨fd13, F13⟩ := cx.fd 13
  replace F13 : FnP K "_law_draw" sDraw (ga K "_law_draw") fd13 := F13
  obtain ⟨fd14, F14⟩ := cx.fd 14
  replace F14 : FnP K "_law_of" sOf (ga K "_law_of") fd14 := F14
  obtain ⟨fd15, F15⟩ := cx.fd 15
  replace F15 : FnP K "_law_name" sLNm (ga K "_law_name") fd15 := F15
  obtain ⟨fd16, F16⟩ := cx.fd 16
  replace F16 : FnP K "_law_names" sLNms (ga K "_law_names") fd16 := F16
  obtain ⟨fd17, F17⟩ := cx.fd 17
  replace F17 : FnP K "_law_lists" sLLs (ga K "_law_lists") fd17 := F17
  obtain ⟨fd18, F18⟩ := cx.fd 18
  replace F18 : FnP K "_law_all" sLAll (ga K "_law_all") fd18 := F18
  obtain ⟨fd19, F19⟩ := cx.fd 19
  replace F19 : FnP K "_law_needs" sNd (ga K "_law_needs") fd19 := F19
  obtain ⟨fd20, F20⟩ := cx.fd 20
  replace F20 : FnP K "_law_home" sLHom (ga K "_law_home") fd20 := F20
  obtain ⟨fd21, F21⟩ := cx.fd 21
  replace F21 : FnP K "_law_call" sCl (ga K "_law_call") fd21 := F21
  obtain ⟨fd22, F22⟩ := cx.fd 22
  replace F22 : FnP K "_law_after" sAf (ga K "_law_after") fd22 := F22
  obtain ⟨fd23, F23⟩ := cx.fd 23
  replace F23 : FnP K "_law_is_name" sLIs (ga K "_law_is_name") fd23 := F23
  obtain ⟨fd24, F24⟩ := cx.fd 24
  replace F24 : FnP K "_law_odd" sOd (ga K "_law_odd") fd24 := F24
  obtain ⟨fd25, F25⟩ := cx.fd 25
  replace F25 : FnP K "_law_expected" sEx (ga K "_law_expected") fd25 := F25
  obtain ⟨fd26, F26⟩ := cx.fd 26
  replace F26 : FnP K "_law_outcome" sOut (ga K "_law_outcome") fd26 := F26
  obtain ⟨fd27, F27⟩ := cx.fd 27
  replace F27 : FnP K "_law_unknown" sUn (ga K "_law_unknown") fd27 := F27
  obtain ⟨fd28, F28⟩ := cx.fd 28
  replace F28 : FnP K "law" sLaw (ga K "law") fd28 := F28
  obtain ⟨fd0, F0⟩ := cx.fd 0
  replace F0 : FunD K "__init__" (("BadOperation" : Str) ++ ".__init__") (defArgs sBOI) (defBody sBOI) (defScope sBOI) [] [] (ma K (ga K "BadOperation") "__init__") fd0 := F0
  rw [(by decide +kernel : (("BadOperation" : Str) ++ ".__init__" : Str) = "BadOperation.__init__")] at F0
  obtain ⟨fd1, F1⟩ := cx.fd 1
  replace F1 : FunD K "__init__" (("BadCall" : Str) ++ ".__init__") (defArgs sBCI) (defBody sBCI) (defScope sBCI) [] [] (ma K (ga K "BadCall") "__init__") fd1 := F1
  rw [(by decide +kernel : (("BadCall" : Str) ++ ".__init__" : Str) = "BadCall.__init__")] at F1
  have e := hfa.symm.trans (g "law" (by decide))
  cases e
  refine ⟨fd28, fun s u => FunD.bindsA (ps := ["script"]) F28 (fun _ _ _ _ _ _ us hl => match us, hl with | [_], _ => rfl) s [u] rfl, fun base _ _ => ?_⟩
  have n_isinstance := fr "isinstance" (by decide)
  have n_int := fr "int" (by decide)
  have n_bool := fr "bool" (by decide)
  have n_str := fr "str" (by decide)
  have n_len := fr "len" (by decide)
  have n_all := fr "all" (by decide)
  have n_list := fr "list" (by decide)
  have n_dict := fr "dict" (by decide)
  have n_range := fr "range" (by decide)
  have n_max := fr "max" (by decide)
  have n_min := fr "min" (by decide)
  have n_sorted := fr "sorted" (by decide)
  have n_abs := fr "abs" (by decide)
  have n_tuple := fr "tuple" (by decide)
  have n_repr := fr "repr" (by decide)
  have b2 : Binds K fd2 ["thing"] [] := F2.bindsN fun _ _ _ _ _ _ us hl => match us, hl with | [_], _ => rfl
  have b3 : Binds K fd3 ["thing"] [] := F3.bindsN fun _ _ _ _ _ _ us hl => match us, hl with | [_], _ => rfl
  have b4 : Binds K fd4 ["op"] [] := F4.bindsN fun _ _ _ _ _ _ us hl => match us, hl with | [_], _ => rfl
  have b6 : Binds K fd6 ["op", "homes", "x", "y", "to", "k"] [] := F6.bindsN fun _ _ _ _ _ _ us hl => match us, hl with | [_, _, _, _, _, _], _ => rfl
  have b7 : Binds K fd7 ["name", "worth", "op", "homes", "x", "to"] [] := F7.bindsN fun _ _ _ _ _ _ us hl => match us, hl with | [_, _, _, _, _, _], _ => rfl
  have b8 : Binds K fd8 ["homes", "x", "to"] [] := F8.bindsN fun _ _ _ _ _ _ us hl => match us, hl with | [_, _, _], _ => rfl
  have b9 : Binds K fd9 ["after", "homes", "x"] [] := F9.bindsN fun _ _ _ _ _ _ us hl => match us, hl with | [_, _, _], _ => rfl
  have b10 : Binds K fd10 ["op", "count", "at", "k"] [] := F10.bindsN fun _ _ _ _ _ _ us hl => match us, hl with | [_, _, _, _], _ => rfl
  have b11 : Binds K fd11 ["rows", "others", "x", "y"] [] := F11.bindsN fun _ _ _ _ _ _ us hl => match us, hl with | [_, _, _, _], _ => rfl
  have b12 : Binds K fd12 ["script", "at"] [] := F12.bindsN fun _ _ _ _ _ _ us hl => match us, hl with | [_, _], _ => rfl
  have b13 : Binds K fd13 ["bag", "many"] [] := F13.bindsN fun _ _ _ _ _ _ us hl => match us, hl with | [_, _], _ => rfl
  have b14 : Binds K fd14 ["bag", "some"] [] := F14.bindsN fun _ _ _ _ _ _ us hl => match us, hl with | [_, _], _ => rfl
  have b15 : Binds K fd15 ["bag"] [] := F15.bindsN fun _ _ _ _ _ _ us hl => match us, hl with | [_], _ => rfl
  have b16 : Binds K fd16 ["bag", "many"] [] := F16.bindsN fun _ _ _ _ _ _ us hl => match us, hl with | [_, _], _ => rfl
  have b17 : Binds K fd17 ["bag", "most"] [] := F17.bindsN fun _ _ _ _ _ _ us hl => match us, hl with | [_, _], _ => rfl
  have b18 : Binds K fd18 ["lists"] [] := F18.bindsN fun _ _ _ _ _ _ us hl => match us, hl with | [_], _ => rfl
  have b19 : Binds K fd19 ["op"] [] := F19.bindsN fun _ _ _ _ _ _ us hl => match us, hl with | [_], _ => rfl
  have b20 : Binds K fd20 ["lists", "row"] [] := F20.bindsN fun _ _ _ _ _ _ us hl => match us, hl with | [_, _], _ => rfl
  have b21 : Binds K fd21 ["bag", "lists", "left", "op"] [] := F21.bindsN fun _ _ _ _ _ _ us hl => match us, hl with | [_, _, _, _], _ => rfl
  have b22 : Binds K fd22 ["lists", "op", "one", "mate", "goal", "place"] [] := F22.bindsN fun _ _ _ _ _ _ us hl => match us, hl with | [_, _, _, _, _, _], _ => rfl
  have b23 : Binds K fd23 ["thing"] [] := F23.bindsN fun _ _ _ _ _ _ us hl => match us, hl with | [_], _ => rfl
  have b24 : Binds K fd24 ["bag", "lists", "left", "many"] [] := F24.bindsN fun _ _ _ _ _ _ us hl => match us, hl with | [_, _, _, _], _ => rfl
  have b25 : Binds K fd25 ["lists", "op", "one", "mate", "goal", "place"] [] := F25.bindsN fun _ _ _ _ _ _ us hl => match us, hl with | [_, _, _, _, _, _], _ => rfl
  have b26 : Binds K fd26 ["lists", "op", "one", "mate", "goal", "place"] [] := F26.bindsN fun _ _ _ _ _ _ us hl => match us, hl with | [_, _, _, _, _, _], _ => rfl
  have b27 : Binds K fd27 ["op"] [] := F27.bindsN fun _ _ _ _ _ _ us hl => match us, hl with | [_], _ => rfl
  have b28 : Binds K fd28 ["script"] [] := F28.bindsN fun _ _ _ _ _ _ us hl => match us, hl with | [_], _ => rfl
  have b0 : Binds K fd0 ["self", "op"] [] := F0.bindsN fun _ _ _ _ _ _ us hl => match us, hl with | [_, _], _ => rfl
  have b1 : Binds K fd1 ["self", "argument"] [] := F1.bindsN fun _ _ _ _ _ _ us hl => match us, hl with | [_, _], _ => rfl
  have g2 := g "is_integer" (by decide)
  have g3 := g "is_name" (by decide)
  have g4 := g "arguments_of" (by decide)
  have g6 := g "check_call" (by decide)
  have g7 := g "_fits" (by decide)
  have g8 := g "_last_place" (by decide)
  have g9 := g "_taken_out" (by decide)
  have g10 := g "_index" (by decide)
  have g11 := g "_exchange" (by decide)
  have g12 := g "_law_bag" (by decide)
  have g13 := g "_law_draw" (by decide)
  have g14 := g "_law_of" (by decide)
  have g15 := g "_law_name" (by decide)
  have g16 := g "_law_names" (by decide)
  have g17 := g "_law_lists" (by decide)
  have g18 := g "_law_all" (by decide)
  have g19 := g "_law_needs" (by decide)
  have g20 := g "_law_home" (by decide)
  have g21 := g "_law_call" (by decide)
  have g22 := g "_law_after" (by decide)
  have g23 := g "_law_is_name" (by decide)
  have g24 := g "_law_odd" (by decide)
  have g25 := g "_law_expected" (by decide)
  have g26 := g "_law_outcome" (by decide)
  have g27 := g "_law_unknown" (by decide)
  have g28 := g "law" (by decide)
  have gPE := g "PlaceError" (by decide)
  have gME := g "MissingError" (by decide)
  have gBC := g "BadCall" (by decide)
  have gBO := g "BadOperation" (by decide)
  have gOPS := g "OPERATIONS" (by decide)
  have gARG := g "ARGUMENTS" (by decide)
  have gNEW := g "NEW" (by decide)
  have g5 := g "apply" (by decide)
  have hA := arg_of c S.ar
  have G2 : FnOk P w K mg base CX0 1 (ga K "is_integer") fd2 ["thing"] (spInt K) := ok_int F2 n_isinstance n_int n_bool
  have G3 : FnOk P w K mg base CX0 1 (ga K "is_name") fd3 ["thing"] (spName K) := ok_name F3 n_isinstance n_str n_len n_all
  have G4 : FnOk P w K mg base (L2N.CX P w) 3 (ga K "arguments_of") fd4 ["op"] (spArg K) := ok_arg F4 S.bo gBO F0 (fun _ => tupB_ok S.tO) gOPS hA gARG
  have G8 : FnOk P w K mg base CX0 1 (ga K "_last_place") fd8 ["homes", "x", "to"] spLp := ok_lp F8 n_len
  have G9 : FnOk P w K mg base CX0 1 (ga K "_taken_out") fd9 ["after", "homes", "x"] (spTak K) := ok_tak F9
  have G10 : FnOk P w K mg base CX0 1 (ga K "_index") fd10 ["op", "count", "at", "k"] spIdx := ok_idx F10 n_max n_min
  have G11 : FnOk P w K mg base CX0 1 (ga K "_exchange") fd11 ["rows", "others", "x", "y"] (spExc K) := ok_exc F11
  have G7 : FnOk P w K mg base CX0 2 (ga K "_fits") fd7 ["name", "worth", "op", "homes", "x", "to"] spFit := ok_fit F7 G3 b3 F3.kp g3 G2 b2 F2.kp g2 G8 b8 F8.kp g8 hA gARG (fun _ => tupB_ok S.tN) gNEW n_isinstance n_str
  have G7g : FnOk P w K mg base CX0 2 (ga K "_fits") fd7 ["name", "worth", "op", "homes", "x", "to"] (spFitG K) := ok_fitg F7 G3 b3 F3.kp g3 G2 b2 F2.kp g2 G8 b8 F8.kp g8 hA gARG (fun _ => tupB_ok S.tN) gNEW n_isinstance n_str
  have G6 : FnOk P w K mg base CX0 3 (ga K "check_call") fd6 ["op", "homes", "x", "y", "to", "k"] spChk := ok_chk F6 G7 b7 F7.kp g7
  have G6g : FnOk P w K mg base (L2N.CX P w) 3 (ga K "check_call") fd6 ["op", "homes", "x", "y", "to", "k"] (spChkB K) := ok_chkb F6 S.bc gBC F1 G7g b7 F7.kp g7
  obtain ⟨fd5, F5⟩ := cx.fd 5
  replace F5 : FunD K "apply" "apply" (defArgs sApp) (defBody sApp) (defScope sApp) [] [("x", .non), ("y", .non), ("to", .non), ("k", .non)] (ga K "apply") fd5 := F5
  have G5 : FnOk P w K mg base CX0 4 (ga K "apply") fd5 apP spApp := ok_app F5 G4 b4 F4.kp g4 G6 b6 F6.kp g6 G11 b11 F11.kp g11 G9 b9 F9.kp g9 G10 b10 F10.kp g10 n_len n_list
  have G5g : FnOk P w K mg base (L2N.CX P w) 4 (ga K "apply") fd5 apP (spAppG K) := fnOk_or (fnOk_lift G5) (ok_appb F5 G4 b4 F4.kp g4 G6g b6 F6.kp g6)
  obtain ⟨mv5, kb5⟩ := F5.kbinds0 2 (["x", "y", "to", "k"] : List Str) [] (fun us mv ws => us ++ (mv ++ ws)) (by simp) (fun q hq => nomatch hq) (fun r1 r2 r3 => vals_app r1 (vals_app r2 r3)) (fun D doc pm an cdv ct us mv ws l1 l2 l3 => match us, mv, ws, l1, l2, l3 with | [_, _], [], [_, _, _, _], _, _, _ => rfl) (ps := apP)
  obtain ⟨mv3, kb3⟩ := F5.kbinds0 2 (["x", "k"] : List Str) [("y", .non), ("to", .non)] (fun us mv ws => us ++ (ws.take 1 ++ (mv ++ ws.drop 1))) (by simp) (fun q hq => by simp at hq ⊢; (try rcases hq with h | h) <;> (try rcases h with h | h) <;> simp_all) (fun r1 r2 r3 => vals_app r1 (vals_app (vals_take r3) (vals_app r2 (vals_drop r3)))) (fun D doc pm an cdv ct us mv ws l1 l2 l3 => match us, mv, ws, l1, l2, l3 with | [_, _], [_, _], [_, _], _, _, _ => ⟨_, _, _, _, _, _, rfl, rfl, _, _, _, _, _, _, rfl, rfl, rfl⟩) (ps := apP)
  have G12 : FnOk P w K mg base CX0 1 (ga K "_law_bag") fd12 ["script", "at"] (spBag K) := ok_bag F12 n_len n_abs n_int
  have G13 : FnOk P w K mg base CX0 1 (ga K "_law_draw") fd13 ["bag", "many"] spDraw := ok_draw F13 n_int
  have G14 : FnOk P w K mg base CX0 2 (ga K "_law_of") fd14 ["bag", "some"] (spOf K) := ok_of F14 F13 g13 n_len n_int
  have G15 : FnOk P w K mg base CX0 2 (ga K "_law_name") fd15 ["bag"] spLName := ok_lnm F15 G13 b13 F13.kp g13 n_range
  have G16 : FnOk P w K mg base CX0 3 (ga K "_law_names") fd16 ["bag", "many"] spLNames := ok_lnms F16 G13 b13 F13.kp g13 G14 b14 F14.kp g14 G15 b15 F15.kp g15 n_range n_len
  have G18 : FnOk P w K mg base CX0 1 (ga K "_law_all") fd18 ["lists"] spAll := ok_lall F18 n_sorted n_list
  have G20 : FnOk P w K mg base CX0 1 (ga K "_law_home") fd20 ["lists", "row"] spHo := ok_lho F20
  have G19 : FnOk P w K mg base CX0 1 (ga K "_law_needs") fd19 ["op"] spNd := ok_nd F19
  have G17 : FnOk P w K mg base CX0 4 (ga K "_law_lists") fd17 ["bag", "most"] spLLs := ok_lls F17 G16 b16 F16.kp g16 G14 b14 F14.kp g14 G13 b13 F13.kp g13 G18 b18 F18.kp g18 n_len n_min n_range
  have G14T : FnOk P w K mg base CX0 2 (ga K "_law_of") fd14 ["bag", "some"] (spOfT K) := ok_ofT F14 F13 g13 n_len n_int
  have G21 : FnOk P w K mg base CX0 3 (ga K "_law_call") fd21 ["bag", "lists", "left", "op"] spCl := ok_cl F21 G18 b18 F18.kp g18 G14 b14 F14.kp g14 G20 b20 F20.kp g20 G15 b15 F15.kp g15 G19 b19 F19.kp g19 G13 b13 F13.kp g13 n_sorted n_list n_len
  have G22 : FnOk P w K mg base CX0 2 (ga K "_law_after") fd22 ["lists", "op", "one", "mate", "goal", "place"] spAf := ok_af F22 G20 b20 F20.kp g20 n_dict n_list n_len n_int
  have G23 : FnOk P w K mg base CX0 1 (ga K "_law_is_name") fd23 ["thing"] (spName K) := ok_lname F23 n_isinstance n_str n_len n_all
  have G24 : FnOk P w K mg base CX0 3 (ga K "_law_odd") fd24 ["bag", "lists", "left", "many"] spOd := ok_od F24 G14 b14 F14.kp g14 G18 b18 F18.kp g18 n_sorted n_list
  have G25 : FnOk P w K mg base CX0 2 (ga K "_law_expected") fd25 ["lists", "op", "one", "mate", "goal", "place"] (spEx K) := ok_ex F25 G19 b19 F19.kp g19 G20 b20 F20.kp g20 G23 b23 F23.kp g23 n_isinstance n_int n_bool n_len
  have G26 : FnOk P w K mg base CX0 5 (ga K "_law_outcome") fd26 ["lists", "op", "one", "mate", "goal", "place"] (spOut K) := ok_out F26 S.bc G5g kb5 F5.kp g5 S.me gPE gBO gBC gME n_isinstance
  have G27 : FnG P w K mg base CX0 5 (ga K "_law_unknown") fd27 ["op"] (spUn K) := ok_un F27 S.bo G5g kb3 F5.kp g5 G4 b4 F4.kp g4 gBO n_repr
  exact ok_law F28 G12 b12 F12.kp g12 G17 b17 F17.kp g17 G13 b13 F13.kp g13 G14 G14T b14 F14.kp g14 G21 b21 F21.kp g21 G24 b24 F24.kp g24 G25 b25 F25.kp g25 G26 b26 F26.kp g26 G22 b22 F22.kp g22 G27 b27 F27.kp g27 n_max n_min n_len n_range n_list n_repr
end K11
open PySem PySem.W PySem.Calls PyProof.Rows
set_option maxRecDepth 100000 in
set_option maxHeartbeats 0 in
theorem PySem.Challenge.cw_rowsinplace_k11_wrong_arguments_holds : PySem.Challenge.rw_rowsinplace_k11_wrong_arguments.Holds := by
  w_on; o_law
  refine HandSHeadRun.head_any (r := OpenLaw.row PySem.Challenge.rw_rowsinplace_k11_wrong_arguments) (q := view (OpenLaw.row PySem.Challenge.rw_rowsinplace_k11_wrong_arguments).prog [37]) (H := K11.hk) (ob := K11.ob) (M := 20000) (loose := K11.loose) (d := HandSHeadRun.topDef (OpenLaw.row PySem.Challenge.rw_rowsinplace_k11_wrong_arguments).prog 37) (kwd := []) K11.ob_eq
    (by kernel_rfl) (fun s => by kernel_rfl) K11.run (by kernel_rfl) (by kernel_rfl) (by kernel_rfl) (by rfl) (by first | assumption | decide +kernel) (by decide +kernel) ⟨rfl, rfl, rfl, rfl, rfl, by decide +kernel⟩ ?hw ?hc
  case hw => w_witness2
  case hc =>
    refine KX.walk_atG (l := PySem.Challenge.rw_rowsinplace_k11_wrong_arguments) (n := 63) (k := 6) (x := "script") rfl (by decide) (by kernel_rfl) ⟨rfl, by decide, by decide⟩ ?F
    intro w mg fa h Y G hmg0
    obtain ⟨K, KI, c⟩ := Y
    have hmg : mg ("law" : PySem.Str) = some (.ref fa) := by
      have e : (HandSHeadRun.topDef (OpenLaw.row PySem.Challenge.rw_rowsinplace_k11_wrong_arguments).prog 37).name = ("law" : PySem.Str) := by kernel_rfl
      rw [← e]
      exact hmg0
    obtain ⟨fd, hb, hF⟩ := K11.all_ok (P := (PySem.Challenge.rw_rowsinplace_k11_wrong_arguments).prog) (w := w) KI G hmg c
    exact ⟨K, fd, K11.spLaw K, KI, hb, fun H a ns hl _ hS => ⟨a, ns, rfl, hS, hl, fun _ => rfl⟩, hF⟩

