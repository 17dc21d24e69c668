import PyProof.Rows.All
import Wide.All
import OpenK.AllK
import Wide.FinOn
import HandS.ForMost
import HandS.ExcInit
import HandS.Defaults
import HandS.WordsExc
import HandS.Wide
import HandS.EndBits
import HandS.Head0
import HandS.Head1
import HandS.Head2
import HandS.HeadEnd
import HandS.HeadHook1
import HandS.HeadHook2
import KE.KExcInit
import KE.KExcIs
import PyProof.ExcBaseAll.ValueError
import PyProof.ExcBaseAll.LookupError
import PyProof.ReprRoads
import HandS.ExcIs
import HandS.ExcField
import HandS.ExcCtx
import HandS.ExcInitHot
import HandS.HotCalls
import HandS.Star
import KE.GoesMore
import HandS.Walk
import PyProof.FitsInt
import HandS.IsInst
import HandS.Small
import HandS.SortKw
import KE.KOpsOwn
import KE.DataMinMax
import HandS.Text
import HandS.SetKeys
import HandS.DictComp
import HandS.Comp
import HandS.Style
import HandS.Iter
import HandS.WideBits
import HandS.Dict
import KE.KDictPairs
import KE.KDictCopyH
import HandS.More
import PySem.Challenge.RW_rowsinplace_k31_whole_bounds_that_follow
set_option Elab.async false
set_option maxRecDepth 100000
set_option maxHeartbeats 2000000
/-! A hook of our own: one Bool over the written part, and the defs by their places. -/
namespace KX
open PySem PySem.Spec PyProof.Rows L2 He
def lookX (n : Nat) (chk : PySem.W.Frag → Bool) (fn : List DefD) (g : Addr → Option Obj) : Bool × List FnW :=
  let K := frG g (asD g n)
  (chk K && fn.all fun d => d.ok K, fn.map fun d => fnW K d.at_)
def SaysX (chk : PySem.W.Frag → Bool) (fn : List DefD) (K : PySem.W.Frag) : Prop := chk K = true ∧ (fn.all fun d => d.ok K) = true ∧ fn.map (fun d => fnW K d.at_) = fn.map DefD.val
def hookX (n : Nat) (chk : PySem.W.Frag → Bool) (fn : List DefD) : PySem.W.Hook where
  α := Bool × List FnW
  obs := fun s => lookX n chk fn s.heap.get?
  val := fun _ => (true, fn.map DefD.val)
  says := fun _ h => ∃ K : PySem.W.Frag, K.In h ∧ SaysX chk fn K
  of := fun _ s e => by
    refine ⟨frG s.heap.get? (asD s.heap.get? n), frG_in, ?_⟩
    have e1 := congrArg Prod.fst e
    have e2 := congrArg Prod.snd e
    obtain ⟨a, b⟩ := Bool.and_eq_true_iff.mp e1
    exact ⟨a, b, e2⟩
  keeps := fun _ _ _ h k => by
    obtain ⟨K, hK, c⟩ := h
    exact ⟨K, PySem.W.Frag.In.keeps hK k, c⟩
theorem lookX_eq {n : Nat} {chk : PySem.W.Frag → Bool} {fn : List DefD} {g : Addr → Option Obj} {s : Shared} (h : ∀ a, g a = s.heap.get? a) : lookX n chk fn g = (hookX n chk fn).obs s := by
  obtain rfl : g = s.heap.get? := funext h
  rfl
theorem SaysX.fd {chk : PySem.W.Frag → Bool} {fn : List DefD} {K : PySem.W.Frag} (c : SaysX chk fn K) (i : Nat) {d : DefD} (h : fn[i]? = some d := by rfl) :
    ∃ fd, FunD K d.name d.qual d.params d.body d.scope (d.dvs K) (d.kws K) (fAd K d.at_) fd := by
  obtain ⟨_, c2, c3⟩ := c
  have q : (fn.map fun d => fnW K d.at_)[i]? = (fn.map DefD.val)[i]? := congrArg (·[i]?) c3
  rw [List.getElem?_map, List.getElem?_map, h] at q
  exact DefD.funD (Option.some.inj q) (List.all_eq_true.mp c2 d (List.mem_of_getElem? h))
end KX

set_option Elab.async false
set_option maxRecDepth 100000
set_option maxHeartbeats 2000000
/-! What the written part says of an own exception class with an __init__ of its own, as one Bool. -/
namespace KX
open PySem PySem.Spec PyProof.Rows L2 He
structure ExK (K : PySem.W.Frag) (C : Addr) (bmB : List Value) (newId : String) : Prop where
  init : PySem.W.excInitIn K C bmB newId = true
  over : PySem.W.excOver K C bmB = true
  hd : PySem.W.hasDictIn K C = true
  sa : PySem.W.findIn K (.ref C) "__setattr__" = some (some (.builtin "object.__setattr__"))
  ga : PySem.W.findIn K (.ref C) "__getattribute__" = some (some (.builtin "BaseException.__getattribute__"))
  gg : PySem.W.findIn K (.ref C) "__getattr__" = some none
  exC : PySem.W.subIn K (.ref C) (.type "BaseException") = some true
  kC : PySem.W.keepIn K (.ref C) = true
  ha : PySem.W.findIn K (.ref C) "__class__" = some (some (.builtin "object.__class__"))
  hm : PySem.W.mroIn K C (.type "object") = some true
def exkB (K : PySem.W.Frag) (C : Addr) (bmB : List Value) (newId : String) : Bool :=
  PySem.W.excInitIn K C bmB newId && (PySem.W.excOver K C bmB && (PySem.W.hasDictIn K C && (eqO (PySem.W.findIn K (.ref C) "__setattr__") (some (some (.builtin "object.__setattr__")))
  && (eqO (PySem.W.findIn K (.ref C) "__getattribute__") (some (some (.builtin "BaseException.__getattribute__"))) && (eqO (PySem.W.findIn K (.ref C) "__getattr__") (some none)
  && (decide (PySem.W.subIn K (.ref C) (.type "BaseException") = some true) && (PySem.W.keepIn K (.ref C) && (eqO (PySem.W.findIn K (.ref C) "__class__") (some (some (.builtin "object.__class__"))) && decide (PySem.W.mroIn K C (.type "object") = some true)))))))))
theorem exkB_ok {K : PySem.W.Frag} {C : Addr} {bmB : List Value} {newId : String} (h : exkB K C bmB newId = true) : ExK K C bmB newId := by
  obtain ⟨h1, h⟩ := Bool.and_eq_true_iff.mp h
  obtain ⟨h2, h⟩ := Bool.and_eq_true_iff.mp h
  obtain ⟨h3, h⟩ := Bool.and_eq_true_iff.mp h
  obtain ⟨h4, h⟩ := Bool.and_eq_true_iff.mp h
  obtain ⟨h5, h⟩ := Bool.and_eq_true_iff.mp h
  obtain ⟨h6, h⟩ := Bool.and_eq_true_iff.mp h
  obtain ⟨h7, h⟩ := Bool.and_eq_true_iff.mp h
  obtain ⟨h8, h⟩ := Bool.and_eq_true_iff.mp h
  obtain ⟨h9, hA⟩ := Bool.and_eq_true_iff.mp h
  exact ⟨h1, h2, h3, eqO_ok h4, eqO_ok h5, eqO_ok h6, of_decide_eq_true h7, h8, eqO_ok h9, of_decide_eq_true hA⟩
end KX

set_option Elab.async false
set_option maxRecDepth 100000
set_option maxHeartbeats 2000000
/-! Own exception classes over any built-in base, with an __init__ that stores: made as values, read, asked by isinstance. -/
namespace KX
open PySem PySem.Spec PyProof.Rows L2
/-- what is known of the built-in base -/
def Bs (bmB : List Value) (newId : String) : Prop := ∃ B initId, ExcBaseFacts B newId initId bmB ∧ StoreFacts B bmB "object.__setattr__" "object"
theorem bsV : Bs [.type "ValueError", .type "Exception", .type "BaseException", .type "object"] "ValueError.__new__" := ⟨_, _, PySem.F.excBase_ValueError, PySem.F.store_ValueError⟩
theorem bsL : Bs [.type "LookupError", .type "Exception", .type "BaseException", .type "object"] "LookupError.__new__" := ⟨_, _, PySem.F.excBase_LookupError, PySem.F.store_LookupError⟩
section
open Builtin Builtin.ObjectAttr
variable {prog : Program} {w : World} {A : Around} {R : Result → Shared → Prop} {hp : Heap} {g : Array GenState} {dw : Drawn} {tt : Nat} {os : OsState} {K : PySem.W.Frag} {C x t1 : Addr} {bmB : List Value} {newId : String} {f : Str} {tk : Tok} {v : Value}
/-- the first store lays the dict -/
theorem put_first (T : ExK K C bmB newId) (bs : Bs bmB newId) (X : K.In hp) (hx : hp.get? x = some ({ cls := .ref C, dict := none, data := .fields #[.ref t1, .none, .none, .none, .bool false, .none] } : Obj)) (hno : PySem.W.findIn K (.ref C) f = some none)
    (hq : ∀ h' tk' dx, (∀ b o, b ≠ x → hp.get? b = some o → h'.get? b = some o) → hp.objs.size ≤ dx → dx ≠ x → h'.get? x = some ({ cls := .ref C, dict := some dx, data := .fields #[.ref t1, .none, .none, .none, .bool false, .none] } : Obj) →
      h'.Ns1 dx (fun y => if y = f then some v else none) → R (.ok (.ret .none)) ⟨h', g, dw, tk', os⟩) :
    codeAny (model prog w) A (.call (.builtin "object.__setattr__") ⟨[.ref x, .str f tk, v], []⟩) R ⟨hp, g, dw, tt, os⟩ := by
  obtain ⟨B, iid, _, SF⟩ := bs
  have hxs : x ≠ hp.objs.size := Nat.ne_of_lt (Heap.lt_size hx)
  refine PySem.W.osa_openX (s := ⟨hp, g, dw, tt, os⟩) (od := none) (r := none) SF X ⟨hx, rfl, rfl, trivial⟩ T.over (by unfold PySem.W.takerIn; rw [hno] <;> rfl) fun b => ?_
  obtain ⟨cd, hc, hd⟩ := PySem.W.any_some T.hd
  have hcls : PySem.W.Looks (model prog w) hp (classData C) cd := PySem.W.looks_clsIn X hc
  refine wpAny_bind (wpAny_pure (wpAny_bind (PySem.W.instanceDict_exc (s := ⟨hp, g, dw, tt, os⟩) hx hcls hd ?_)))
  refine HandSPX.store_in_new ?_ ?_
  · exact ⟨_, #[], _, (Heap.get?_update_ne _ _ _ _ hxs.symm).trans (Heap.get?_push_at rfl rfl), rfl, fun e he => absurd he (by simp), fun _ => rfl⟩
  · intro h' tk' hn' hs
    have hx1 : (hp.push { cls := .type "dict", data := .dict #[] }).get? x = _ := Heap.get?_push_of_some _ hx
    refine hq h' tk' hp.objs.size (fun b o hb ho => ?_) (Nat.le_refl _) hxs.symm ?_ hn'
    · have z := hs.2 b (Nat.ne_of_lt (Heap.lt_size ho))
      exact z.trans ((Heap.get?_update_ne _ _ _ _ hb).trans (Heap.get?_push_of_some _ ho))
    · exact (hs.2 x hxs).trans (Heap.get?_update_self _ hx1 rfl)
/-- a later one -/
theorem put_more {dx : Addr} {m0 : Str → Option Value} {nl : List Str} (T : ExK K C bmB newId) (bs : Bs bmB newId) (X : K.In hp) (hx : hp.get? x = some ({ cls := .ref C, dict := some dx, data := .fields #[.ref t1, .none, .none, .none, .bool false, .none] } : Obj))
    (hns : hp.Ns1 dx m0) (hw : Within m0 nl) (hz : nl.length ≤ 1000) (hno : PySem.W.findIn K (.ref C) f = some none)
    (hq : ∀ h' tk', (∀ b o, b ≠ dx → hp.get? b = some o → h'.get? b = some o) → h'.Ns1 dx (fun y => if y = f then some v else m0 y) → R (.ok (.ret .none)) ⟨h', g, dw, tk', os⟩) :
    codeAny (model prog w) A (.call (.builtin "object.__setattr__") ⟨[.ref x, .str f tk, v], []⟩) R ⟨hp, g, dw, tt, os⟩ := by
  obtain ⟨B, iid, _, SF⟩ := bs
  obtain ⟨oD, esD, epD, hoD, hdD, _⟩ := hns.count hw
  refine PySem.W.osa_openX (s := ⟨hp, g, dw, tt, os⟩) (od := some oD) (r := none) SF X ⟨hx, rfl, rfl, hoD⟩ T.over (by unfold PySem.W.takerIn; rw [hno] <;> rfl) fun b => ?_
  obtain ⟨cd, hc, hd⟩ := PySem.W.any_some T.hd
  have hcls : PySem.W.Looks (model prog w) hp (classData C) cd := PySem.W.looks_clsIn X hc
  obtain ⟨c1, c2, c3, c4, c5, c6, c7, c8, c9, cA, cB⟩ := cd
  dsimp only at hd
  subst hd
  show wpAny _ _ (storeInOwnDict _ _ _ _ _ _) _ _ _
  unfold storeInOwnDict ownDictForStores
  repeat (first | with_reducible refine PySem.OEX.store_in_old hns hw hz ?_ | with_reducible refine wpAny_loadPart_at hx ?_ | with_reducible refine hcls.at ?_ | wp_step)
  intro h' tk' hn' hs
  exact hq h' tk' (fun b o hb ho => (hs.2 b hb).trans ho) hn'
end
section
variable {X : Cx} {pins : List (Addr × Obj)} {σ : L2.St} {H : Hp} {s : Shared} {a C dx : Addr} {f : Str} {y : V} {u : Value} {fs : List (Str × V)} {Q : Unit → Shared → Prop} {E : Value → Shared → Prop} {A : Around} {bmB : List Value} {newId : String}
/-- an exception's object gets a dict that is new -/
theorem inv_dict {h' : Heap} {tk : Nat} {t1 : Addr} {od : HO} (I : Inv X pins σ H s) (e : H a = some (exo a C none)) (k : ∀ b o, b ≠ a → s.heap.get? b = some o → h'.get? b = some o) (dn : s.heap.objs.size ≤ dx) (dne : dx ≠ a)
    (hx : h'.get? a = some ({ cls := .ref C, dict := some dx, data := .fields #[.ref t1, .none, .none, .none, .bool false, .none] } : Obj)) (new : ∀ G : Hp, ObjOk X.prog X.w G h' dx od) :
    Inv X pins σ (upd (upd H dx od) a (exo a C (some dx))) { s with heap := h', toks := tk } := by
  have hnd : H dx = none := I.hok.fresh dn
  have hH : ∀ b, b ≠ a → b ≠ dx → upd (upd H dx od) a (exo a C (some dx)) b = H b := fun b n1 n2 => (upd_ne n1).trans (upd_ne n2)
  have na : ∀ b, H b = none → b ≠ a := fun b n z => by
    subst z
    exact nomatch n.symm.trans e
  have nd : ∀ b o, s.heap.get? b = some o → b ≠ dx := fun b o q => Nat.ne_of_lt (Nat.lt_of_lt_of_le (Heap.lt_size q) dn)
  have nk : ∀ b o, H b = some o → o ≠ exo a C none → upd (upd H dx od) a (exo a C (some dx)) b = some o := fun b o q n => by
    rw [hH b (ne_of q e n) (ne_of_none q hnd)]
    exact q
  refine I.un ⟨fun b o q n _ _ => k b o (na b n) q, fun b o q n _ _ => ⟨o.slots, k b o (na b n) q⟩, fun b o q n _ => ?_, fun b o q _ => ?_, fun b xs q => nk b _ q (Ne.symm exo_tup), fun b o v q => nk b _ q (Ne.symm exo_frz), fun b ps q => ⟨#[], ?_⟩⟩ fun b o q => ?_
  · rw [hH b (na b n) (nd b o q)]
    exact n
  · by_cases hb : b = a
    · subst hb
      exact ⟨_, hx⟩
    · exact ⟨o, k b o hb q⟩
  · rw [nk b _ q (Ne.symm exo_tbl)]
    simp
  · by_cases hb : b = a
    · subst hb
      obtain rfl := Option.some.inj (upd_same.symm.trans q)
      exact exo_ok hx
    · rw [upd_ne hb] at q
      by_cases hd : b = dx
      · subst hd
        obtain rfl := Option.some.inj (upd_same.symm.trans q)
        exact new _
      · rw [upd_ne hd] at q
        refine (I.hok b o q).stay (fun c v hc z => k c v ?_ z) (fun c hc => nk c _ hc (Ne.symm exo_own)) fun c xs hc => nk c _ hc (Ne.symm exo_tup)
        rcases hc with rfl | hc
        · exact hb
        · exact ne_of hc e (Ne.symm exo_own)
/-- self.f = y, the first one -/
theorem st_first (T : ExK X.K C bmB newId) (bs : Bs bmB newId) (I : Inv X pins σ H s) (e : H a = some (exo a C none)) (hno : PySem.W.findIn X.K (.ref C) f = some none) (ry : RelV y u)
    (h : ∀ d s', H d = none → d ≠ a → Inv X pins σ (upd (upd H d (exd d [(f, y)])) a (exo a C (some d))) s' → Q () s') : wpAny (model X.prog X.w) A (setAttr (.ref a) f u) Q E s := by
  obtain ⟨t1, ho⟩ := exo_at I.hok e
  obtain ⟨hp, g, d, t, os⟩ := s
  refine PySem.W.set_plain (od := none) I.kIn ⟨ho, rfl, rfl, trivial⟩ T.sa ?_
  refine put_first T bs I.kIn ho hno fun h' tk' dx k dn dne hx hn => ?_
  exact h dx _ (I.hok.fresh dn) dne (inv_dict I e k dn dne hx fun G => exd_ok hn (relO_put (fs := []) ry fun _ => True.intro))
/-- self.f = y, a further one -/
theorem st_more (T : ExK X.K C bmB newId) (bs : Bs bmB newId) (I : Inv X pins σ H s) (e : H a = some (exo a C (some dx))) (ed : H dx = some (exd dx fs)) (hl : fs.length ≤ 900) (hno : PySem.W.findIn X.K (.ref C) f = some none) (ry : RelV y u)
    (h : ∀ s', Inv X pins σ (upd H dx (exd dx ((f, y) :: fs))) s' → Q () s') : wpAny (model X.prog X.w) A (setAttr (.ref a) f u) Q E s := by
  obtain ⟨t1, ho⟩ := exo_at I.hok e
  obtain ⟨mA, hns, rel⟩ := exd_at I.hok ed
  have hw := within_of rel
  obtain ⟨hp, g, d, t, os⟩ := s
  obtain ⟨oD, _, _, hoD, _⟩ := hns.count hw
  refine PySem.W.set_plain (od := some oD) I.kIn ⟨ho, rfl, rfl, hoD⟩ T.sa ?_
  refine put_more T bs I.kIn ho hns hw (by rw [List.length_map]; omega) hno fun h' tk' k hn => ?_
  have hd : ∃ o, h'.get? dx = some o := let ⟨o, _, _, z, _⟩ := hn; ⟨o, z⟩
  exact h _ (I.write (t' := tk') (e := dx) (by rw [ed]; exact True.intro) (.inl rfl) k hd (exd_ok hn (relO_put ry rel)))
end
/-- self.f = e -/
def tSt (K : PySem.W.Frag) (f : Str) (to te : TE) : TS := fun D σ H => te σ H fun y H1 => to σ H1 fun x H2 => ∃ (a C : Addr) (bmB : List Value) (newId : String), x = .ref a ∧ ExK K C bmB newId ∧ Bs bmB newId ∧ PySem.W.findIn K (.ref C) f = some none ∧
  ((H2 a = some (exo a C none) ∧ ∀ d, H2 d = none → d ≠ a → D.nx σ (upd (upd H2 d (exd d [(f, y)])) a (exo a C (some d)))) ∨
    ∃ (d : Addr) (fs : List (Str × V)), H2 a = some (exo a C (some d)) ∧ H2 d = some (exd d fs) ∧ fs.length ≤ 900 ∧ D.nx σ (upd H2 d (exd d ((f, y) :: fs))))
/-- C(e, ..) as a value -/
def tMkV (C : Addr) (sp : Sp) (ta : TA) : TE := fun σ H Q => ta σ H fun vs H1 => vs.length ≤ 1000 ∧ ∀ a, H1 a = none → sp (.ref a :: vs) (upd H1 a (exo a C none)) (fun v H2 => v = .non ∧ Q (.ref a) H2) (fun _ _ _ => False)
/-- e.f of an own exception -/
def tXv (K : PySem.W.Frag) (f : Str) (te : TE) : TE := fun σ H Q => te σ H fun x H1 => ∃ (a C d : Addr) (bmB : List Value) (newId : String) (fs : List (Str × V)) (v : V), x = .ref a ∧ H1 a = some (exo a C (some d)) ∧ H1 d = some (exd d fs) ∧ ExK K C bmB newId ∧ PySem.W.findIn K (.ref C) f = some none ∧ fs.lookup f = some v ∧ Q v H1
section
variable {X : Cx} {o e : Expr} {es : List Expr} {to te : TE} {ta : TA} {f : Str} {p p' p1 p2 pos : Pos}
theorem ps_st (ho : PE X o to) (he : PE X e te) (hs : swapsWith e (some (.Attribute o f p')) pos.line X.env = pure false := by rfl) : PS X (.Assign [.Attribute o f p'] e pos) (tSt X.K f to te) := by
  refine ⟨fun pins s σ H D I h => plainObj_wpAny_Assign_Attribute (thn (he.run pins s σ H _ I h) fun v s1 ⟨y, H1, I1, r1, q1⟩ => thn (ho.run pins s1 σ H1 _ I1 q1) fun u s2 hh => ?_) hs⟩
  obtain ⟨x, H2, I2, r2, a, C, bmB, nid, rfl, T, bs, hno, q⟩ := hh
  obtain rfl : u = Value.ref a := r2
  rcases q with ⟨ea, q⟩ | ⟨d, fs, ea, ed, hl, q⟩
  · exact st_first T bs I2 ea hno r1 fun d s' n ne J => ⟨σ, _, J, q d n ne⟩
  · exact st_more T bs I2 ea ed hl hno r1 fun s' J => ⟨σ, _, J, q⟩
theorem pe_mkv {CX : CXT} {x : Str} {C fI : Addr} {k : Nat} {fd : FuncData} {ps : List Str} {sp : Sp} {bmB : List Value} {newId : String} (T : ExK X.K C bmB newId) (bs : Bs bmB newId) (iC : PySem.W.findIn X.K (.ref C) "__init__" = some (some (.ref fI))) (tI : PySem.W.isFn X.K (.ref fI) = true)
    (G : FnOk X.prog X.w X.K X.mg X.base CX k fI fd ps sp) (hr : Room (k + 1) X.A) (hb : Binds X.K fd ps []) (hx : Passes CX X (fun _ _ _ => False)) (hg : Gl X x) (hm : X.mg x = some (.ref C)) (ha : PA X (e :: es) ta)
    (hdb : (x == ("__debug__" : Str)) = false := by decide) (he : starEach (e :: es) X.env = (false, eval e X.env) :: starEach es X.env := by rfl) (hpl : (backTo pos (starEach es X.env)).any (·.1) = false := by rfl) :
    PE X (.Call (.Name x p) (e :: es) [] pos) (tMkV C sp ta) := by
  refine ⟨fun pins s σ H Q I h => ?_⟩
  refine wpAny_Call_Name_kw (ld_glob I hg hm ?_ hdb)
  refine PySem.W.callWith_K (h₀ := X.base) I.ok.mod.kin T.kC (thn (ha.run pos pins s σ H _ I h) fun us s1 hh => ?_) he hpl
  obtain ⟨vs, H1, I1, r1, hz, q1⟩ := hh
  refine ⟨I1.kIn, ?_⟩
  obtain ⟨B, iid, FB, SF⟩ := bs
  obtain ⟨nm, N', qn, bs', bm, hdct, sn, sub, ab, col, dd, k0, k1, k2, k3, k5, hC, hT⟩ := PySem.W.excInit_of I1.kIn T.init
  obtain ⟨oI, hoI, hcI⟩ : ∃ oI, s1.heap.get? fI = some oI ∧ oI.cls = .type "function" := by
    obtain ⟨oo, h1, h2⟩ := Option.map_eq_some_iff.mp (show (X.K.lookup fI).map (·.cls) = some (.type "function") from beq_iff_eq.mp tI)
    exact ⟨oo, I1.kIn _ _ h1, h2⟩
  obtain ⟨hp, g, dr, tk, os⟩ := s1
  have kk : ∀ b u, hp.get? b = some u → ((hp.push (PySem.W.kdv_tup us)).push (PySem.HandSPX.excO C hp.objs.size)).get? b = some u := fun b u z => Heap.get?_push_of_some _ (Heap.get?_push_of_some _ z)
  have hget : ((hp.push (PySem.W.kdv_tup us)).push (PySem.HandSPX.excO C hp.objs.size)).get? (hp.objs.size + 1) = some (PySem.HandSPX.excO C hp.objs.size) := by heap_get
  have I2 : Inv X pins σ (upd H1 (hp.objs.size + 1) (exo (hp.objs.size + 1) C none)) ⟨(hp.push (PySem.W.kdv_tup us)).push (PySem.HandSPX.excO C hp.objs.size), g, dr, tk, os⟩ := I1.laid (t' := tk) kk (Nat.le_succ _) (exo_ok hget)
  have hq := q1 (hp.objs.size + 1) (I1.hok.fresh (Nat.le_succ _))
  have r2 : Vals (V.ref (hp.objs.size + 1) :: vs) (Value.ref (hp.objs.size + 1) :: us) := .cons rfl r1
  have hl : (Value.ref (hp.objs.size + 1) :: us ++ []).length = ps.length := by
    rw [List.append_nil, ← r2.length]
    exact G.len _ _ _ _ hq
  have hus : us.length ≤ sizeLine := by
    rw [← Paired.length r1, sizeLine_eq]
    omega
  have hbi := hb _ (Value.ref (hp.objs.size + 1) :: us) I2.kIn hl
  rw [List.append_nil] at hbi
  refine wpAny_call (PySem.HandSPX.call_own FB hT hC (PySem.W.looks_findIn I1.kIn iC) (fun self => PySem.W.exc_bind hoI hcI self) hus (codeAny_mono (G.run _ X.stack _ _ _ _ _ _ (fun _ _ _ => False) (hr.make C us []) (I2.env0.make C us []) hbi r2 hq) fun r s' hq' => ?_))
  cases r with
  | error er => exact hx pins σ _ _ er s' I2 hq'
  | ok fl =>
    cases fl with
    | ret u =>
      obtain ⟨v, H2, os2, bare2, un2, hok2, rv, rfl, q2⟩ := hq'
      exact ⟨rv, .ref (hp.objs.size + 1), H2, I2.call' (ch := []) os2 un2 hok2 bare2 (fun b z => absurd z (by simp)), rfl, q2⟩
    | next => exact False.elim hq'
    | brk => exact False.elim hq'
    | cont => exact False.elim hq'
theorem pe_xv (he : PE X e te) (hb : attributeBase e f X.env (eval e X.env) = eval e X.env := by rfl) : PE X (.Attribute e f pos) (tXv X.K f te) := by
  refine ⟨fun pins s σ H Q I h => attr_of hb (thn (he.run pins s σ H _ I h) fun u s1 hh => ?_)⟩
  obtain ⟨x, H1, I1, rx, a, C, d, bmB, nid, fs, v, rfl, ea, ed, T, hno, l, q⟩ := hh
  obtain rfl : u = Value.ref a := rx
  obtain ⟨t1, ho⟩ := exo_at I1.hok ea
  obtain ⟨mA, hns, rel⟩ := exd_at I1.hok ed
  obtain ⟨od, h1, h2⟩ := lookIn_ns hns
  obtain ⟨u, hu, ru⟩ := RelO.some_of (v := v) (o := mA f) (by rw [← l]; exact rel f)
  exact HandSPX.exc_get I1.kIn ⟨ho, rfl, rfl, h1⟩ T.ga T.gg T.exC (PySem.W.findObj_own T.hd hno rfl (by rw [h2, hu])) (handed_of ru) ⟨v, H1, I1.tok _, ru, q⟩
end
end KX

set_option Elab.async false
set_option maxRecDepth 100000
set_option maxHeartbeats 2000000
/-! repr of nested data where no repr is running yet; isinstance of an own exception; defs that want to know that no repr is running. -/
namespace KX
open PySem PySem.Spec PyProof.Rows L2
/-- repr(data) -/
def rRepr (K : PySem.W.Frag) : List V → Hp → VK → Prop := fun xs H Q => ∃ (a : Addr) (d : PyData), xs = [.ref a] ∧ Dp K H (.ref a) d ∧ d.showable = true ∧ d.hasDict = false ∧ d.depth ≤ 8 ∧ d.shown.length ≤ sizeLine ∧ Q (.str d.shown) H
theorem call_repr {X : Cx} (hg : X.A.guards = some []) (hu : X.A.units + 10 < cLine) : CallR X (.builtin "repr") (rRepr X.K) := by
  intro pins s σ H xs us Q I r h
  obtain ⟨a, d, rfl, hd, h1, h2, h3, h4, q⟩ := h
  obtain ⟨u, rfl, ru⟩ := vals1 r
  obtain rfl : u = Value.ref a := ru
  obtain ⟨as, rd⟩ := Dp.reads I d _ _ hd rfl
  exact repr_of_reads' rd h1 (PyData.noDict_hsm h2) hg (by omega) (fun _ _ e => e) (fun h' u tk hk => ⟨.str d.shown, H, I.kept (t' := tk) hk, ⟨_, rfl⟩, q⟩) h4
/-- isinstance(e, c) of an own exception e -/
def rIsX (K : PySem.W.Frag) : List V → Hp → VK → Prop := fun xs H Q => ∃ (a C d : Addr) (bmB : List Value) (nid : String) (fs : List (Str × V)) (c : V) (cv : Value) (b : Bool), xs = [.ref a, c] ∧ H a = some (exo a C (some d)) ∧ H d = some (exd d fs) ∧ ExK K C bmB nid ∧
  PySem.W.specialIn K (.builtin "object.__class__") "__get__" = some (some (.builtin "getset_descriptor.__get__")) ∧ PySem.W.takesIn K (.builtin "object.__class__") = some true ∧ (∀ u, RelV c u → u = cv) ∧ PySem.W.kitOne K (.ref C) cv = some b ∧ Q (.bl b) H
theorem call_isX {X : Cx} : CallR X (.builtin "isinstance") (rIsX X.K) := by
  intro pins s σ H xs us Q I r h
  obtain ⟨a, C, d, bmB, nid, fs, c, cv, b, rfl, ea, ed, T, sp, tk, hcv, e, q⟩ := h
  cases r with
  | cons rx rr => cases rr with
    | cons rt rr =>
      cases rr
      cases rx
      obtain rfl := hcv _ rt
      obtain ⟨t1, ho⟩ := exo_at I.hok ea
      obtain ⟨mA, hns, rel⟩ := exd_at I.hok ed
      obtain ⟨od, h1, _⟩ := lookIn_ns hns
      obtain ⟨cd, hc, _⟩ := PySem.W.any_some T.hd
      exact PySem.W.kia_one (PySem.W.kitx_exc (od := some od) (by rw [hc] <;> rfl) T.ga T.gg T.exC T.ha sp tk T.hm) I.kIn ⟨ho, rfl, rfl, h1⟩ e (fun z => nomatch z) fun tk' => ⟨.bl b, H, I.kept (t' := tk') fun _ _ z => z, rfl, q⟩
end KX

set_option Elab.async false
set_option maxRecDepth 100000
set_option maxHeartbeats 2000000
namespace KX
open PySem PySem.Spec PyProof.Rows L2
/-- a def's promise where no repr is running -/
structure FnG (P : Program) (w : World) (K : PySem.W.Frag) (mg : Str → Option Value) (base : Heap) (CX : CXT) (k : Nat) (f : Addr) (fd : FuncData) (ps : List Str) (sp : Sp) : Prop where
  len : ∀ vs H Q E, sp vs H Q E → vs.length = ps.length
  run : ∀ (A : Around) (outer : List Env) (s : Shared) (H : Hp) (args : Args) (us : List Value) (vs : List V) (Q : VK) (E : XK), A.guards = some [] → Room k A →
    Env0 P w K mg base A outer s H → BindsTo s fd args (ps.zip us) → Vals vs us → sp vs H Q E → codeAny (model P w) A (.call (.ref f) args) (CR CX outer P w H s Q E) s
section
variable {P : Program} {w : World} {K : PySem.W.Frag} {mg : Str → Option Value} {base : Heap} {CX : CXT} {k : Nat} {f : Addr} {fd : FuncData} {ps : List Str} {sp : Sp}
theorem FnG.of (F : FnOk P w K mg base CX k f fd ps sp) : FnG P w K mg base CX k f fd ps sp :=
  ⟨F.len, fun A outer s H args us vs Q E _ => F.run A outer s H args us vs Q E⟩
/-- the rule for a def whose body may use that no repr is running -/
theorem fnG_ok {x qual : Str} {params : Arguments} {body : List Stmt} {scope : Scope} {dvs : List V} {kws : List (Str × V)} {N : List Str} (F : FunD K x qual params body scope dvs kws f fd) (S : FnScope N ps scope)
    (len : ∀ vs H Q E, sp vs H Q E → vs.length = ps.length)
    (hbody : ∀ (cdv : Value) (A : Around) (outer : List Env) (s : Shared) (H : Hp) (vs : List V) (Q : VK) (E : XK),
      A.guards = some [] → Room k (A.deeper (envOfC qual scope s.heap.objs.size f cdv)) → sp vs H Q E →
      ∃ t, PSs (cxOf CX P w K mg base N qual scope f cdv A outer s H E) body t ∧ t { nx := fun _ G => Q .non G, rt := Q } (start N vs) H) :
    FnG P w K mg base CX (k + 1) f fd ps sp := by
  obtain ⟨oc, od, dV, kV, doc, pm, an, cdv, ct, osl, rfl, lk, hcd, _, _⟩ := F.ex
  constructor
  · exact len
  intro A outer s H args us vs Q E hg hr e0 hb r hsp
  have hn := len _ _ _ _ hsp
  have keep : ∀ b o, base.get? b = some o → s.heap.get? b = some o := fun b o z => (e0.bs b o z).1
  have hK : K.In s.heap := e0.mod.kin.keeps keep
  have hL : s.heap.NoLimit := e0.mod.nolimit.keeps keep
  refine codeAny_call_function hr.depth (hK _ _ lk) rfl S.co S.gen rfl (PySem.W.codeRec_of hK hcd) (hb _ _ _ _ ?_)
  refine wpAny_newFunctionEnv_cells S.kind (fun y hy => ?_) fun env he s1 x => ?_
  · rcases S.par y.1 (List.of_mem_zip (show (y.1, y.2) ∈ ps.zip us from hy)).1 with z | z
    · exact Or.inl z
    · exact Or.inr ⟨z, PySem.W.cellsFrom_some _ _ _ (Or.inl z)⟩
  · subst he
    refine ⟨hL.keeps x.toInCall.keep, codeAny_func ?_⟩
    obtain ⟨t, ht, hq⟩ := hbody cdv A outer s H vs Q E hg (hr.deeper _) hsp
    have I0 := inv_start (CX := CX) (E := E) S hr.hd e0 hn r x
    refine wpAny_mono (ht.run [] s1 (start N vs) H _ I0 hq) (fun fl s' z => ?_) fun _ _ z => z
    match fl, z with
    | .ret u, ⟨v, σ', G, J, rv, qv⟩ => exact ⟨v, G, J.os, J.bare, J.base, J.hok, rv, qv⟩
    | .next, ⟨σ', G, J, qv⟩ => exact ⟨.non, G, J.os, J.bare, J.base, J.hok, rfl, qv⟩
    | .brk, ⟨_, _, _, qv⟩ => exact False.elim qv
    | .cont, ⟨_, _, _, qv⟩ => exact False.elim qv
end
section
variable {X : Cx} {CX : CXT} {k : Nat} {f : Addr} {fd : FuncData} {ps : List Str} {sp : Sp} {dvs : List V} {ds : List Value} {E : XK} {x : Str} {p pos : Pos} {e : Expr} {es : List Expr} {t : TA}
/-- f(e, ..) where no repr is running -/
theorem pe_callG (F : FnG X.prog X.w X.K X.mg X.base CX k f fd ps sp) (gg : X.A.guards = some []) (hr : Room k X.A) (hg : Gl X x) (hm : X.mg x = some (.ref f)) (hk : PySem.W.keepIn X.K (.ref f) = true) (hb : Binds X.K fd ps ds) (hd : Vals dvs ds)
    (hx : Passes CX X E) (ha : PA X (e :: es) t) (hdb : (x == ("__debug__" : Str)) = false := by decide) (he : starEach (e :: es) X.env = (false, eval e X.env) :: starEach es X.env := by rfl)
    (hpl : (backTo pos (starEach es X.env)).any (·.1) = false := by rfl) : PE X (.Call (.Name x p) (e :: es) [] pos) (tCall sp dvs E t) := by
  constructor
  intro pins s σ H Q I h
  refine wpAny_Call_Name_kw (ld_glob I hg hm ?_ hdb)
  refine PySem.W.callWith_K (h₀ := X.base) I.ok.mod.kin hk (thn (ha.run pos pins s σ H _ I h) fun us s1 hh => ?_) he hpl
  obtain ⟨vs, H1, I1, r, q⟩ := hh
  refine ⟨I1.kIn, ?_⟩
  have r2 : Vals (vs ++ dvs) (us ++ ds) := r.append hd
  have hl : (us ++ ds).length = ps.length := r2.length.symm.trans (F.len _ _ _ _ q)
  refine wpAny_call (codeAny_mono (F.run X.A X.stack s1 H1 ⟨us, []⟩ _ _ Q E gg hr I1.env0 (hb s1 us I1.kIn hl) r2 q) fun res s' z => ?_)
  match res, z with
  | .error er, z => exact hx pins σ H1 s1 er s' I1 z
  | .ok (.ret u), z => exact I1.after z
  | .ok .next, z => exact False.elim z
  | .ok .brk, z => exact False.elim z
  | .ok .cont, z => exact False.elim z
end
/-! ### the law's own call -/
theorem law_atG {P : Program} {w : World} {K : PySem.W.Frag} {mg mb : Str → Option Value} {k : Nat} {fa a : Addr} {fd : FuncData} {x : Str} {sp : Sp} {s1 : Shared} {vs : List Value} {ns : List Int}
    (KI : K.In s1.heap) (hns : s1.heap.Ns mainGlobals mg) (hb : s1.heap.Ns builtinsNs mb) (hbb : ∀ x : Str, x ≠ "__name__" → mb x = bootBuiltins x) (hlim : s1.heap.NoLimit) (hg : s1.gens = #[])
    (ha : s1.heap.get? a = some { cls := .type "list", data := .seq vs.toArray }) (hi : IntsAre vs ns) (hl : ns.length ≤ sizeLine) (hr : Room k callerA)
    (F : ∀ base : Heap, K.In base → base.Ns mainGlobals mg → FnG P w K mg base CX0 k fa fd [x] sp) (hbind : ∀ (s : Shared) (u : Value), BindsTo s fd ⟨[u], []⟩ [(x, u)])
    (hsp : ∀ H : Hp, SqL K H a (ns.map V.int) → sp [.ref a] H (fun v _ => v = .bl true) E0) :
    codeAny (model P w) callerA (.call (.ref fa) ⟨[.ref a], []⟩) (fun r s' => r = .ok (.ret (.bool true)) ∧ PySem.OldK s1.heap s'.heap ∧ s'.os = s1.os ∧ AllBare s'.gens) s1 := by
  have rv := vals_ints hi
  have frozen : ∀ H : Hp, (∀ b u, H b = some u → b = a ∧ u = .frz { cls := .type "list", data := .seq vs.toArray } (.lst (ns.map V.int)) ∧ K.lookup a = none) → SqL K H a (ns.map V.int) →
      codeAny (model P w) callerA (.call (.ref fa) ⟨[.ref a], []⟩) (fun r s' => r = .ok (.ret (.bool true)) ∧ PySem.OldK s1.heap s'.heap ∧ s'.os = s1.os ∧ AllBare s'.gens) s1 := by
    intro H hH hS
    have free : ∀ b o, s1.heap.get? b = some o → (b = a → K.lookup a ≠ none ∨ (∀ its n, o.data ≠ .seq its n)) → H b = none := by
      intro b o e n
      cases q : H b with
      | none => rfl
      | some u =>
        obtain ⟨rfl, _, z3⟩ := hH b u q
        rw [ha] at e
        obtain rfl := Option.some.inj e
        rcases n rfl with n | n
        · exact absurd z3 n
        · exact absurd rfl (n vs.toArray _)
    have inK : K.In (hidT s1.heap H) := fun b o e => hidT_get (KI b o e) (free b o (KI b o e) fun z => .inl (by rw [← z, e]; simp))
    have nsOk : ∀ {b : Addr} {m : Str → Option Value}, s1.heap.Ns b m → (hidT s1.heap H).Ns b m := by
      rintro b m ⟨o, es, ep, e, d, r⟩
      exact ⟨o, es, ep, hidT_get e (free b o e fun _ => .inr fun its n z => by rw [d] at z; cases z), d, r⟩
    have hok : HOk P w H s1.heap := by
      intro b u q
      obtain ⟨rfl, rfl, _⟩ := hH b u q
      exact ⟨ha, by rw [List.length_map]; exact hl, vs, _, rv, ha⟩
    have md : Mod K mg (hidT s1.heap H) := ⟨inK, nsOk hns, ⟨mb, nsOk hb, hbb⟩, by
      obtain ⟨mc, h1, h2⟩ := hlim
      exact ⟨mc, nsOk h1, h2⟩⟩
    have e0 : Env0 P w K mg (hidT s1.heap H) callerA [] s1 H :=
      ⟨rfl, md, fun b o e => of_hidT e, Nat.le_of_eq (hidT_size _ _), trivial, fun b z => absurd (show b ∈ ([] : List Addr) from z) (by simp), hok, .of_eq hg⟩
    have go := (F _ inK (nsOk hns)).run callerA [] s1 H ⟨[.ref a], []⟩ [.ref a] [.ref a] _ _ rfl hr e0 (hbind s1 (.ref a)) (.cons rfl .nil) (hsp H hS)
    refine codeAny_mono go fun r s' z => ?_
    match r, z with
    | .error _, z => exact False.elim z
    | .ok .next, z => exact False.elim z
    | .ok .brk, z => exact False.elim z
    | .ok .cont, z => exact False.elim z
    | .ok (.ret u), ⟨v, G, os, bare, un, hok', rr, qv⟩ =>
      obtain rfl : v = .bl true := qv
      obtain rfl : u = Value.bool true := rr
      refine ⟨rfl, PySem.OldK.of_keep fun b o e => ?_, os, bare⟩
      cases q : H b with
      | none => exact un.keep b o e q (fun z => absurd (show b ∈ ([] : List Addr) from z) (by simp)) (by simp)
      | some t =>
        obtain ⟨rfl, rfl, _⟩ := hH b t q
        obtain ⟨e2, _⟩ := hok' _ _ (un.frzs _ _ _ q)
        exact e2.trans (ha.symm.trans e)
  cases hk : K.lookup a with
  | none =>
    refine frozen (fun b => if b = a then some (.frz { cls := .type "list", data := .seq vs.toArray } (.lst (ns.map V.int))) else none) (fun b u z => ?_) (.inl (.inr ⟨_, if_pos rfl⟩))
    by_cases hba : b = a
    · exact ⟨hba, (Option.some.inj ((if_pos hba).symm.trans z)).symm, hk⟩
    · exact nomatch (if_neg hba).symm.trans z
  | some o =>
    have e := KI a o hk
    rw [ha] at e
    obtain rfl := Option.some.inj e
    exact frozen (fun _ => none) (fun b u z => nomatch (show (none : Option HO) = some u from z))
      (.inr ⟨_, vs.toArray, _, hk, rfl, rfl, rfl, by rw [List.size_toArray, hi.length]; exact hl, by simpa using rv⟩)
/-- the goal that a head leaves, by the law's promise -/
theorem walk_atG {l : PySem.W.OpenLaw} {n k : Nat} {q : Program} {loose : List Str} {XP : (Str → Option Value) → Heap → Prop} {YP : World → Heap → Prop} {d : DefRec} {x : Str}
    (hn : l.most = some n) (hn2 : n ≤ sizeLine) (hdf : d.params.defaults = []) (hr : Room k callerA)
    (F : ∀ (w : World) (mg : Str → Option Value) (fa : Addr) (h : Heap), YP w h → h.Ns mainGlobals mg → mg d.name = some (.ref fa) →
      ∃ (K : PySem.W.Frag) (fd : FuncData) (sp : Sp), K.In h ∧ (∀ (s : Shared) (u : Value), BindsTo s fd ⟨[u], []⟩ [(x, u)]) ∧
        (∀ (H : Hp) (a : Addr) (ns : List Int), ns.length ≤ n → (∀ z ∈ ns, Builtin.Int.intBits z ≤ 1048576) → SqL K H a (ns.map V.int) → sp [.ref a] H (fun v _ => v = .bl true) E0) ∧
        ∀ base : Heap, K.In base → base.Ns mainGlobals mg → FnG l.prog w K mg base CX0 k fa fd [x] sp) :
    PySem.W.WalkO q loose XP YP l.row.toRowW d [] (fun f vs => PySem.call f vs) := by
  refine Att.attach_callB hn hdf fun w s₀ s₁ mg mb fa o pm cd doc a vs ns G Y ho hd hcd hmg hobj hints hlen hbits hg => ?_
  obtain ⟨K, fd, sp, KI, hb, hsp, hF⟩ := F w mg fa _ Y G.T.g hmg
  exact law_atG KI G.T.g G.T.b G.T.builtins G.T.nolimit hg hobj hints (Nat.le_trans hlen hn2) hr hF hb fun H hS => hsp H a ns hlen hbits hS
end KX

set_option Elab.async false
set_option maxRecDepth 100000
set_option maxHeartbeats 2000000
/-! The bag that a law draws from: what stands in it, what is promised of a draw. -/
namespace KX
open PySem PySem.Spec PyProof.Rows L2
/-- the bag at b: digits, a seed, a count of at most n -/
def Bag (H : Hp) (b : Addr) (n : Int) : Prop := ∃ d m c : Int, H b = some (.lst [.int d, .int m, .int c]) ∧ 0 ≤ d ∧ 0 ≤ m ∧ m < 2 ^ 61 ∧ 0 ≤ c ∧ c ≤ n
/-- all but b is as it was -/
def But (b : Addr) (H H' : Hp) : Prop := ∀ x, x ≠ b → H' x = H x
/-- what was tracked is as it was, but b -/
def Kept (b : Addr) (H H' : Hp) : Prop := ∀ x o, x ≠ b → H x = some o → H' x = some o
theorem But.kept {b : Addr} {H H' : Hp} (h : But b H H') : Kept b H H' := fun x o n e => (h x n).trans e
theorem Kept.refl (b : Addr) (H : Hp) : Kept b H H := fun _ _ _ e => e
theorem Kept.trans {b : Addr} {H H1 H2 : Hp} (h : Kept b H H1) (k : Kept b H1 H2) : Kept b H H2 := fun x o n e => k x o n (h x o n e)
theorem Kept.new {b p : Addr} {H : Hp} {o : HO} (h : H p = none) : Kept b H (upd H p o) := fun x u _ e => by
  rw [upd_ne (ne_of_none e h)]
  exact e
theorem Kept.seq {K : PySem.W.Frag} {b a : Addr} {H H' : Hp} {xs : List V} (k : Kept b H H') (n : a ≠ b) (h : SqL K H a xs) : SqL K H' a xs := by
  rcases h with (h | ⟨o, h⟩) | h
  · exact .inl (.inl (k _ _ n h))
  · exact .inl (.inr ⟨o, k _ _ n h⟩)
  · exact .inr h
theorem Bag.some {H : Hp} {b : Addr} {n : Int} (h : Bag H b n) : ∃ o, H b = some o := let ⟨_, _, _, e, _⟩ := h; ⟨_, e⟩
theorem Bag.ne {H : Hp} {b p : Addr} {n : Int} (h : Bag H b n) (hp : H p = none) : p ≠ b := by
  obtain ⟨o, e⟩ := h.some
  exact (ne_of_none e hp).symm
theorem Bag.put {H : Hp} {b p : Addr} {n : Int} {o : HO} (h : Bag H b n) (hp : p ≠ b) : Bag (upd H p o) b n := by
  obtain ⟨d, m, c, e, r⟩ := h
  exact ⟨d, m, c, (upd_ne hp.symm).trans e, r⟩
theorem Bag.mono {H : Hp} {b : Addr} {n n' : Int} (h : Bag H b n) (hn : n ≤ n') : Bag H b n' := by
  obtain ⟨d, m, c, e, r1, r2, r3, r4, r5⟩ := h
  exact ⟨d, m, c, e, r1, r2, r3, r4, by omega⟩
/-- _law_bag -/
def spBag (K : PySem.W.Frag) : Sp := fun vs H Q _ => ∃ (a : Addr) (ns : List Int) (i : Nat), vs = [.ref a, .int i] ∧ SqL K H a (ns.map V.int) ∧ ns.length ≤ 63 ∧ i ≤ 63 ∧ ∀ b H', H b = none → Kept b H H' → (∀ x, x ≠ b → H' x = H x) → Bag H' b 0 → Q (.ref b) H'
/-- _law_draw -/
def spDraw : Sp := fun vs H Q _ => ∃ (b : Addr) (n many : Int), vs = [.ref b, .int many] ∧ Bag H b n ∧ n < 1000000 ∧ 0 < many ∧ many.natAbs < 2 ^ 200 ∧ ∀ (r : Int) (H' : Hp), 0 ≤ r → r < many → But b H H' → Bag H' b (n + 1) → Q (.int r) H'
/-- _law_of -/
def spOf (K : PySem.W.Frag) : Sp := fun vs H Q _ => ∃ (b l : Addr) (n : Int) (xs : List V), vs = [.ref b, .ref l] ∧ Bag H b n ∧ n < 1000000 ∧ l ≠ b ∧ SqL K H l xs ∧ 0 < xs.length ∧ xs.length ≤ 1000 ∧
  ∀ (i : Nat) (v : V) (H' : Hp), xs[i]? = some v → But b H H' → Bag H' b (n + 1) → Q v H'
/-- the numbers of a draw -/
theorem draw_pow {m c : Int} (hm0 : 0 ≤ m) (hm : m < 2 ^ 61) (hc0 : 0 ≤ c) (hc : c ≤ 1000000) : CPow (m + 611953 * (c + 1)) 2 := by
  refine ⟨by decide, by decide, ?_⟩
  omega
theorem draw_pow3 {x c : Int} (hx0 : 0 ≤ x) (hx : x < 1152921504606846869) (hc0 : 0 ≤ c) (hc : c ≤ 1000000) : CPow (x + 15485863 * (c + 1)) 3 := by
  refine ⟨by decide, by decide, ?_⟩
  omega
theorem fmod_in {x y : Int} (h : 0 < y) : 0 ≤ x.fmod y ∧ x.fmod y < y := by
  rw [Int.fmod_eq_emod_of_nonneg x (Int.le_of_lt h)]
  exact ⟨Int.emod_nonneg x (by omega), Int.emod_lt_of_pos x h⟩
end KX

set_option Elab.async false
set_option maxRecDepth 100000
set_option maxHeartbeats 2000000
/-! Own exceptions raised with what they keep, caught with the context None; isinstance of a caught one that has a dict; defs called in the suite; C() of a class with *rest. -/
namespace KX
open PySem PySem.Spec PyProof.Rows L2 StX
theorem mk_endN {X : Cx} {pins : List (Addr × Obj)} {σ : L2.St} {H1 H2 : Hp} {Q : XK} {hp hp2 h2 : Heap} {g1 g2 : Array GenState} {d1 d2 : Drawn} {t1 t2 : Nat} {os1 os2 : OsState} {a C d : Addr} {fs : List (Str × V)} (T : Raises X (.ref C)) (I1 : Inv X pins σ H1 ⟨hp, g1, d1, t1, os1⟩)
    (ha : hp.objs.size ≤ a) (k : ∀ b o, hp.get? b = some o → hp2.get? b = some o) (un : Un (frs X.stack) [] (upd H1 a (exo a C none)) H2 hp2 h2) (hok : HOk X.prog X.w H2 h2) (ho : os2 = os1) (hb : AllBare g2)
    (ea : H2 a = some (exo a C (some d))) (ed : H2 d = some (exd d fs)) (hd1 : H1 d = none) (q : Q (.ref C) (some d) (upd (del H2 a) d (.xd fs))) : L2N.MkP X pins σ Q (.ref a) ⟨h2, g2, d2, t2, os2⟩ := by
  obtain ⟨t0, G, J, kG, ge, hoe, na⟩ := mk_end0 (d2 := d2) (t2 := t2) I1 ha k un hok ho hb ea ed hd1
  exact ⟨a, _, _, ⟨G, g2, d2, t2, os2⟩, _, .ref C, some d, rfl, J, kG, ge, hoe, ⟨rfl, rfl, fun vs e => by cases e; rfl⟩, rfl, rfl, na, rfl, hb, T, q⟩
section
variable {X : Cx} {CX : CXT} {x : Str} {C fI : Addr} {k : Nat} {fd : FuncData} {ps : List Str} {sp : Sp} {e : Expr} {es : List Expr} {ta : TA} {p pos : Pos}
theorem pmk_x {bmB : List Value} {newId : String} (T : ExK X.K C bmB newId) (tyC : PySem.W.typeIn X.K (.ref C) = some (.type "type")) (bs : Bs bmB newId) (iC : PySem.W.findIn X.K (.ref C) "__init__" = some (some (.ref fI))) (tI : PySem.W.isFn X.K (.ref fI) = true)
    (G : FnOk X.prog X.w X.K X.mg X.base CX k fI fd ps sp) (hr : Room (k + 1) X.A) (hb : Binds X.K fd ps []) (hx : Passes CX X (fun _ _ _ => False)) (hg : Gl X x) (hm : X.mg x = some (.ref C)) (ha : PA X (e :: es) ta)
    (hdb : (x == ("__debug__" : Str)) = false := by decide) (he : starEach (e :: es) X.env = (false, eval e X.env) :: starEach es X.env := by rfl) (hpl : (backTo pos (starEach es X.env)).any (·.1) = false := by rfl) :
    L2N.PMk X (.Call (.Name x p) (e :: es) [] pos) (tMkO C sp [] ta) := by
  intro pins s σ H Q I h
  refine wpAny_Call_Name_kw (ld_glob I hg hm ?_ hdb)
  refine PySem.W.callWith_K (h₀ := X.base) I.ok.mod.kin T.kC (thn (ha.run pos pins s σ H _ I h) fun us s1 hh => ?_) he hpl
  obtain ⟨vs, H1, I1, r1, hz, q1⟩ := hh
  refine ⟨I1.kIn, ?_⟩
  obtain ⟨B, iid, FB, SF⟩ := bs
  obtain ⟨nm, N', qn, bs', bm, hdct, sn, sub, ab, col, dd, k0, k1, k2, k3, k5, hC, hT⟩ := PySem.W.excInit_of I1.kIn T.init
  obtain ⟨oI, hoI, hcI⟩ : ∃ oI, s1.heap.get? fI = some oI ∧ oI.cls = .type "function" := by
    obtain ⟨oo, h1, h2⟩ := Option.map_eq_some_iff.mp (show (X.K.lookup fI).map (·.cls) = some (.type "function") from beq_iff_eq.mp tI)
    exact ⟨oo, I1.kIn _ _ h1, h2⟩
  obtain ⟨hp, g, dr, tk, os⟩ := s1
  have kk : ∀ b u, hp.get? b = some u → ((hp.push (PySem.W.kdv_tup us)).push (PySem.HandSPX.excO C hp.objs.size)).get? b = some u := fun b u z => Heap.get?_push_of_some _ (Heap.get?_push_of_some _ z)
  have hget : ((hp.push (PySem.W.kdv_tup us)).push (PySem.HandSPX.excO C hp.objs.size)).get? (hp.objs.size + 1) = some (PySem.HandSPX.excO C hp.objs.size) := by heap_get
  have I2 : Inv X pins σ (upd H1 (hp.objs.size + 1) (exo (hp.objs.size + 1) C none)) ⟨(hp.push (PySem.W.kdv_tup us)).push (PySem.HandSPX.excO C hp.objs.size), g, dr, tk, os⟩ := I1.laid (t' := tk) kk (Nat.le_succ _) (exo_ok hget)
  have hq := q1 (hp.objs.size + 1) (I1.hok.fresh (Nat.le_succ _))
  rw [List.append_nil] at hq
  have r2 : Vals (V.ref (hp.objs.size + 1) :: vs) (Value.ref (hp.objs.size + 1) :: us) := .cons rfl r1
  have hl : (Value.ref (hp.objs.size + 1) :: us ++ []).length = ps.length := by
    rw [List.append_nil, ← r2.length]
    exact G.len _ _ _ _ hq
  have hus : us.length ≤ sizeLine := by
    rw [← Paired.length r1, sizeLine_eq]
    omega
  have hbi := hb _ (Value.ref (hp.objs.size + 1) :: us) I2.kIn hl
  rw [List.append_nil] at hbi
  refine wpAny_call (PySem.HandSPX.call_own FB hT hC (PySem.W.looks_findIn I1.kIn iC) (fun self => PySem.W.exc_bind hoI hcI self) hus (codeAny_mono (G.run _ X.stack _ _ _ _ _ _ (fun _ _ _ => False) (hr.make C us []) (I2.env0.make C us []) hbi r2 hq) fun r s' hq' => ?_))
  cases r with
  | error er => exact hx pins σ _ _ er s' I2 hq'
  | ok fl =>
    cases fl with
    | ret u =>
      obtain ⟨v, H2, os2, bare2, un2, hok2, rv, ev, d, fs, ea, ed, hd1, q2⟩ := hq'
      subst ev
      obtain ⟨h2, g2, d2, t2, os'⟩ := s'
      exact ⟨rv, mk_endN (raises_own T.exC tyC) I1 (Nat.le_succ _) kk un2 hok2 os2 bare2 ea ed hd1 q2⟩
    | next => exact False.elim hq'
    | brk => exact False.elim hq'
    | cont => exact False.elim hq'
end
/-- isinstance(e, c), e the exception that the suite holds -/
theorem call_isEd {X : Cx} {a D d : Addr} {oe : Obj} {pn : List (Addr × Obj)} {bmB : List Value} {nid : String} (T : ExK X.K D bmB nid) (sp : PySem.W.specialIn X.K (.builtin "object.__class__") "__get__" = some (some (.builtin "getset_descriptor.__get__"))) (tk : PySem.W.takesIn X.K (.builtin "object.__class__") = some true)
    (hz : Zc (.ref D) (some d) oe) (hf : ∃ vs, oe.data = .fields vs) : CallR (X.suite a ((a, oe) :: pn)) (.builtin "isinstance") (fun xs H Q => (∃ fs, H d = some (.xd fs)) ∧ rIsE X.K D a xs H Q) := by
  intro pins s σ H xs us Q I r h
  obtain ⟨⟨fs, hd⟩, c, cv, b, rfl, hcv, e, q⟩ := h
  cases r with
  | cons rx rr =>
    cases rr with
    | cons rt rr =>
      cases rr
      cases rx
      have ec := hcv _ rt
      subst ec
      obtain ⟨hget, _⟩ := I.pin (a, oe) (List.mem_append.mpr (.inl List.mem_cons_self))
      obtain ⟨vs, hv⟩ := hf
      have hx : ObjOk X.prog X.w H s.heap d (.xd fs) := I.hok d _ hd
      obtain ⟨mA, hns, rel⟩ := hx
      obtain ⟨od, ho, _⟩ := lookIn_ns hns
      obtain ⟨cd, hc, _⟩ := PySem.W.any_some T.hd
      have J : PySem.W.InstAt s.heap a oe D (some od) := ⟨hget, hz.1, by unfold PySem.W.notCls; rw [hv] <;> rfl, by rw [hz.2]; exact ho⟩
      exact PySem.W.kia_one (PySem.W.kitx_exc (od := some od) (by rw [hc] <;> rfl) T.ga T.gg T.exC T.ha sp tk T.hm) I.kIn J e (fun z => nomatch z) fun tk' => ⟨.bl b, H, I.kept (t' := tk') fun _ _ z => z, rfl, q⟩
theorem cxUpN {P : Program} {w : World} : CXUp (L2N.CX P w) := by
  rintro outer s H s2 H2 E e s' un kp ho ⟨a, B, H', cls, d, ea, fl, hok, ub, na, os, ag, he⟩
  refine ⟨a, B, H', cls, d, ea, fl, hok, ⟨fun b o q n hb => ub.keep b o (kp b o q) (un.free b o q n (by simp)) hb, fun b o q hb => ub.slot b o (kp b o q) hb, fun b o q n => ub.free b o (kp b o q) (un.free b o q n (by simp)),
    fun b o q hb => ub.there b o (kp b o q) hb, fun b xs q => ub.tups b xs (un.tups b xs q), fun b o xs q => ub.frzs b o xs (un.frzs b o xs q), fun b ps q => ?_⟩, na, os.trans ho, ag, he⟩
  obtain ⟨m1, e1⟩ := un.tbls b ps q
  obtain ⟨m2, e2⟩ := ub.tbls b _ e1
  exact ⟨m1 ++ m2, by rw [e2, Array.append_assoc]⟩
theorem fnH_ok {P : Program} {w : World} {K : PySem.W.Frag} {mg : Str → Option Value} {base : Heap} {f : Addr} {x qual : Str} {params : Arguments} {body : List Stmt} {scope : Scope} {dvs : List V} {kws : List (Str × V)} {fd : FuncData} {CX : CXT} {N ps : List Str} {k : Nat} {sp : Sp}
    (F : FunD K x qual params body scope dvs kws f fd) (S : FnScope N ps scope) (len : ∀ vs H Q E, sp vs H Q E → vs.length = ps.length)
    (hbody : ∀ (cdv : Value) (A : Around) (outer : List Env) (s : Shared) (H : Hp) (vs : List V) (Q : VK) (E : XK) (p : Addr × Obj), L2H.Hot1 A p → L2H.RoomH k (A.deeper (envOfC qual scope s.heap.objs.size f cdv)) → sp vs H Q E →
      ∃ t, PSs (L2H.cxH CX P w K mg base N qual scope f cdv A outer s H E p) body t ∧ t { nx := fun _ H' => Q .non H', rt := Q } (start N vs) H) : L2H.FnH P w K mg base CX (k + 1) f fd ps sp := by
  obtain ⟨oc, od, dV, kV, doc, pm, an, cdv, ct, osl, rfl, lk, hcd, _, _⟩ := F.ex
  exact L2H.fn_ofH lk hcd S len fun A outer s H vs Q E p hot hr hsp => hbody cdv A outer s H vs Q E p hot hr hsp
theorem pe_makeR0 {X : Cx} {CX : CXT} {k : Nat} {f C : Addr} {sp : Sp} {E : XK} {x : Str} {p pos : Pos} (M : Mk X.K C f) (F : FnR X.prog X.w X.K X.mg X.base CX k f sp) (hr : Room (k + 1) X.A) (hg : Gl X x) (hm : X.mg x = some (.ref C)) (hx : Passes CX X E)
    (hdb : (x == ("__debug__" : Str)) = false := by decide) : PE X (.Call (.Name x p) [] [] pos) (tMakeR C sp E tNil) := by
  refine ⟨fun pins s σ H Q I h => ?_⟩
  refine wpAny_Call_Name_kw (ld_glob I hg hm ?_ hdb)
  exact PySem.W.callWith_K0 I.kIn M.kp (run_makeR (us := []) M F hr hx I .nil h)
end KX

set_option Elab.async false
set_option maxRecDepth 100000
set_option maxHeartbeats 2000000
/-! for i, x in enumerate(t), t a tuple. -/
namespace KX
open PySem PySem.Spec PyProof.Rows L2
open Sem (wp)
open AutoSeq1 (wpAny_loadPart')
/-- enumerate's maker, told of whatever begins to be walked -/
theorem enum_new1 {v : Value} {o : Obj} {G : Heap → Prop} (B : Begins v o G) :
    Meets (Builtin.«enumerate.__new__» ⟨[.type "enumerate", v], []⟩) (fun _ R s => G s.heap ∧ R (.ok (.ret (.ref (s.heap.push o).objs.size)))
        { s with heap := (s.heap.push o).push { cls := .type "enumerate", data := .fields #[.none, .bool false, .ref s.heap.objs.size, rawInt 0, .none, .none] } }) :=
  .of_wp fun prog w A R s hh => by
    obtain ⟨hp, g, d, tk, os⟩ := s
    have hsub := sub_enumerate
    have it : ∀ {A' : Around} {E Q : Value → Shared → Prop}, Q (.ref hp.objs.size) ⟨hp.push o, g, d, tk, os⟩ → wpAny (model prog w) A' (pyIter v) Q E ⟨hp, g, d, tk, os⟩ := fun q => B.iter _ _ _ _ ⟨hp, g, d, tk, os⟩ _ hh.1 q
    wp_walk using it
    refine wpAny_stack_any fun _ => wpAny_pure ?_
    split
    case h_1 c _ _ _ _ _ => cases (c == Value.type "enumerate") <;> (wp_walk using it; exact ⟨_, rfl, hh.2⟩)
    all_goals (wp_walk using it; exact ⟨_, rfl, hh.2⟩)
section
variable {prog : Program} {w : World} {A : Around} {E : Value → Shared → Prop} {s : Shared}
theorem enum_tup {t : Addr} {its : Array Value} {Q : Value → Shared → Prop} (ht : s.heap.IsTuple t its)
    (q : ∀ h', IsEnum h' (s.heap.objs.size + 1) s.heap.objs.size 0 .none → h'.IsTupleIter s.heap.objs.size t 0 → (∀ b u, s.heap.get? b = some u → h'.get? b = some u) → Q (.ref (s.heap.objs.size + 1)) { s with heap := h' }) :
    wpAny (model prog w) A (call (.type "enumerate") [.ref t]) Q E s := by
  refine callType_new F.called_enumerate (by decide) (F.typeCall_enumerate_1 _) (F.newCall_enumerate_1 _) (fun obj => F.args_object_init_2 obj _) F.entry_enumerate_new (enum_new1 (begins_tuple t its)) ⟨ht, ?_⟩
  generalize ho : ({ cls := .type "tuple_iterator", data := .fields #[.ref t, .int 0 0] } : Obj) = o
  have hf : o.isFreed = false := by rw [← ho]; rfl
  have hz : (s.heap.push o).objs.size = s.heap.objs.size + 1 := Heap.size_push ..
  show _ ∧ _
  rw [hz]
  have e1 : ((s.heap.push o).push { cls := .type "enumerate", data := .fields #[.none, .bool false, .ref s.heap.objs.size, rawInt 0, .none, .none] }).get? (s.heap.objs.size + 1) = some { cls := .type "enumerate", data := .fields #[.none, .bool false, .ref s.heap.objs.size, rawInt 0, .none, .none] } := by
    rw [← hz]
    exact Heap.get?_push_size _ rfl
  have e2 := Heap.get?_push_of_some ({ cls := .type "enumerate", data := .fields #[.none, .bool false, .ref s.heap.objs.size, rawInt 0, .none, .none] }) (Heap.get?_push_size s.heap hf)
  exact ⟨⟨_, e1, rfl⟩, q _ e1 ⟨o, e2, by rw [← ho], by rw [← ho]; rfl⟩ fun b u z => Heap.get?_push_of_some _ (Heap.get?_push_of_some _ z)⟩
end
/-- the tuple at a as it stands at each turn, each item in a new pair -/
def ItE (K : PySem.W.Frag) (a : Addr) : It where
  go := fun i H => ∃ (xs : List V) (x : V), SqT K H a xs ∧ xs[i]? = some x
  yld := fun i H v H' => ∃ T x, v = .ref T ∧ H T = none ∧ H' = upd H T (.tup [.int (i : Nat), x]) ∧ ∀ xs, SqT K H a xs → xs[i]? = some x
  stop := fun i H => ∃ xs : List V, SqT K H a xs ∧ xs.length = i
theorem tup_ne {h : Heap} {a it : Addr} {i : Nat} {its : Array Value} (hi : h.IsTupleIter it a i) (ht : h.IsTuple a its) : a ≠ it := by
  rintro rfl
  obtain ⟨o, ho, hc, _⟩ := hi
  obtain ⟨u, hu, uc, _⟩ := ht
  rw [ho] at hu
  cases hu
  rw [hc] at uc
  exact absurd (Value.type.inj uc) (by decide)
theorem turn_enumT {P : Program} {w : World} {K : PySem.W.Frag} {elts : List Expr} {kk : Nat} {tpos : Pos} (a e it : Addr) :
    Turn P w K (.Tuple elts kk tpos) (ItE K a) [e, it] e (fun i h => (∃ old, IsEnum h e it ((i : Nat) : Int) old) ∧ h.IsTupleIter it a i ∧ e ≠ it) where
  mem := by simp
  obj := fun i h st b hb => by
    obtain ⟨⟨old, he⟩, ⟨o, ho, hc, hd⟩, _⟩ := st
    rcases List.mem_cons.mp hb with rfl | hb
    · exact ⟨_, he, fun v q => nomatch q⟩
    · rw [List.mem_singleton.mp hb]
      exact ⟨o, ho, fun v q => by rw [hd] at q; cases q⟩
  keep := fun i h h' st k => ⟨st.1.imp fun old he => k e (by simp) _ he, st.2.1.at fun o q => k it (by simp) o q, st.2.2⟩
  item := by
    intro X hP hw hK hc i pins s σ H E I hf st hg
    subst hP hw hK
    obtain ⟨⟨old, he⟩, hit, hne⟩ := st
    obtain ⟨xs, x, hq, hx⟩ := hg
    obtain ⟨its, rv, p, hz⟩ := I.tuple hq
    obtain ⟨u, hu, ru⟩ := rv.get hx
    have p' : s.heap.IsTuple a its.toArray := p
    have hel : e < s.heap.objs.size := Heap.lt_size he
    have hil : it < s.heap.objs.size := by obtain ⟨_, q, _⟩ := hit; exact Heap.lt_size q
    have hlt : i < its.toArray.size := by
      have := (List.getElem?_eq_some_iff.mp hu).1
      simpa using this
    have hea : e ≠ a := by
      rintro rfl
      obtain ⟨o2, ho2, uc, _⟩ := p'
      rw [he] at ho2
      cases ho2
      exact absurd (Value.type.inj uc) (by decide)
    refine wpAny_pyNext_enum_itemD (Draws.tuple (A := X.A.in1) (I.ok.hd hc) it a (tup_ne hit p') its.toArray) he ⟨hit, p'⟩ hlt hne (by simp [hne, hea]) fun x2 h' tk hx2 ho st2 hT hsz hk => ?_
    obtain rfl : x2 = u := by
      have e1 : its.toArray[i]? = some u := by simpa using hu
      exact Option.some.inj (hx2.symm.trans e1)
    refine ⟨_, rfl, wpAny_letOwnedTupleGo_enum (s := { s with heap := h', toks := tk + 1 }) ho fun h'' he' sb => ?_⟩
    have hT2 : h''.get? s.heap.objs.size = some { cls := .type "tuple", data := .seq #[.int i tk, x2] } := (sb.2 _ (Nat.ne_of_gt hel)).trans hT
    have new : ObjOk X.prog X.w (upd H s.heap.objs.size (.tup [.int (i : Nat), x])) h'' s.heap.objs.size (.tup [.int (i : Nat), x]) :=
      ⟨by show 2 ≤ sizeLine; decide, [.int i tk, x2], .cons ⟨_, rfl⟩ (.cons ru .nil), ⟨_, hT2, rfl, _, rfl⟩⟩
    have I1 : Inv X pins σ (upd H s.heap.objs.size (.tup [.int (i : Nat), x])) { s with heap := h'', toks := tk + 1 } :=
      I.turnedNew (ch := [e, it]) (fun b ob hb q => (sb.2 b (fun z => hb (by simp [z]))).trans (hk b ob (fun z => hb (by simp [z])) (fun z => hb (by simp [z])) q)) hf (Nat.le_refl _) new
    refine ⟨.ref s.heap.objs.size, _, I1, rfl, ⟨_, x, rfl, I.hok.fresh (Nat.le_refl _), rfl, fun ys hy => by rw [I.tuple_inj hy hq]; exact hx⟩, ⟨⟨x2, ?_⟩, st2.1.at fun o q => (sb.2 it (Ne.symm hne)).trans q, hne⟩, fun b hb => ?_⟩
    · rw [show ((i + 1 : Nat) : Int) = (i : Int) + 1 by omega]
      exact he'
    · have hb' : b < s.heap.objs.size := by
        rcases List.mem_cons.mp hb with rfl | hb
        · exact hel
        · rw [List.mem_singleton.mp hb]
          exact hil
      rw [upd_ne (Nat.ne_of_lt hb')]
      exact (hf b hb).1
  done := by
    intro X hP hw hK hc i pins s σ H E I hf st hg
    subst hP hw hK
    obtain ⟨⟨old, he⟩, hit, hne⟩ := st
    obtain ⟨xs, hq, hx⟩ := hg
    obtain ⟨its, rv, p, hz⟩ := I.tuple hq
    have p' : s.heap.IsTuple a its.toArray := p
    obtain ⟨f0, f1, f2, f3, f4, f5⟩ := hf it (by simp)
    have hl := rv.length
    obtain rfl : i = its.toArray.size := by simp; omega
    exact wpAny_pyNext_enum_endD (Draws.tuple (A := X.A.in1) (I.ok.hd hc) it a (tup_ne hit p') its.toArray) he ⟨hit, p'⟩ fun h' eb => ⟨rfl, I.turned (t' := s.toks) (fun b o hb q => eb b o hb q) f0 f1 f3 f4 f5⟩
  self := fun A i s Q E st h => let ⟨⟨_, he⟩, _⟩ := st; wpAny_pyIter_enum he h
def iEnumT (K : PySem.W.Frag) (ta : TA) : TI := fun σ H R => ta σ H fun vs H1 => ∃ a xs, vs = [.ref a] ∧ SqT K H1 a xs ∧ R (ItE K a) H1
theorem pi_enumT {X : Cx} {e : Expr} {ta : TA} {p pos tpos : Pos} {elts : List Expr} {kk : Nat} (hg : Gl X "enumerate") (hm : X.mg "enumerate" = none) (ha : PA X [e] ta) (hs : starEach [e] X.env = [(false, eval e X.env)] := by rfl) :
    PI X (.Tuple elts kk tpos) (.Call (.Name "enumerate" p) [e] [] pos) (iEnumT X.K ta) := by
  refine ⟨fun pins s σ H R I h => Call_ (ld_blt I hg hm boot_enumerate (PyProof.Rows.callWith_type1 (thn (ha.run pos pins s σ H _ I h) fun us s1 hh => ?_) hs rfl))⟩
  obtain ⟨vs, H1, I1, r1, a, xs, rfl, hq, q⟩ := hh
  obtain rfl := Vals.ref1 r1
  obtain ⟨its, rv, p', hz⟩ := I1.tuple hq
  refine enum_tup p' fun h' he hit hk => wpAny_pyIter_enum he ?_
  have I2 : Inv X pins σ H1 { s1 with heap := h' } := I1.kept (t' := s1.toks) hk
  refine ⟨s1.heap.objs.size + 1, [s1.heap.objs.size + 1, s1.heap.objs.size], _, _, H1, rfl, I2, turn_enumT a (s1.heap.objs.size + 1) s1.heap.objs.size, ⟨⟨.none, he⟩, hit, Nat.succ_ne_self _⟩, fun b hb => ?_, q⟩
  have hle : s1.heap.objs.size ≤ b := by
    rcases List.mem_cons.mp hb with rfl | hb
    · exact Nat.le_succ _
    · rw [List.mem_singleton.mp hb]
      exact Nat.le_refl _
  exact I1.fpOk hle (I1.hok.fresh hle)
theorem walk_enumT {K : PySem.W.Frag} {a : Addr} {xs : List V} : Walk (ItE K a) xs.length (fun H => SqT K H a xs) (YPair (fun i => some (.int (i : Nat))) (fun i => xs[i]?)) :=
  ⟨fun i _ hi q => ⟨xs, xs[i], q, by simp [hi]⟩, fun _ q => ⟨xs, q, rfl⟩, fun i H v H' _ q y => y.elim fun T y => y.elim fun x y => ⟨T, .int (i : Nat), x, y.1, y.2.1, y.2.2.1, rfl, y.2.2.2 xs q⟩⟩
end KX

set_option Elab.async false
set_option maxRecDepth 100000
set_option maxHeartbeats 2000000
/-! Nested data on the abstract heap: it stays while what is tracked stays; bounds of its text. -/
namespace KX
open PySem PySem.Spec PyProof.Rows L2
theorem sqT_same {K : PySem.W.Frag} {H H' : Hp} {a : Addr} {xs : List V} (s : Same H H') (h : SqT K H a xs) : SqT K H' a xs := by
  rcases h with (h | ⟨o, h⟩) | h
  · exact .inl (.inl (s _ _ h))
  · exact .inl (.inr ⟨o, s _ _ h⟩)
  · exact .inr h
mutual
theorem dp_same {K : PySem.W.Frag} {H H' : Hp} (s : Same H H') : ∀ (d : PyData) (v : V), Dp K H v d → Dp K H' v d
  | .none, _, .non => .non
  | .bool _, _, .bl b => .bl b
  | .int _, _, .int i => .int i
  | .str _, _, .str x => .str x
  | .list ds, _, .lst hS ha => .lst (s.seq hS) (dps_same s ds _ ha)
  | .tuple ds, _, .tup hS ha => .tup (sqT_same s hS) (dps_same s ds _ ha)
  | .dict _, _, h => nomatch h
theorem dps_same {K : PySem.W.Frag} {H H' : Hp} (s : Same H H') : ∀ (ds : List PyData) (vs : List V), DpAll K H vs ds → DpAll K H' vs ds
  | [], _, .nil => .nil
  | d :: ds, _, .cons h hs => .cons (dp_same s d _ h) (dps_same s ds _ hs)
end
/-- what may be shown in little room -/
structure Small (d : PyData) (k n : Nat) : Prop where
  sh : d.showable = true
  nd : d.hasDict = false
  dp : d.depth ≤ k
  ln : d.shown.length ≤ n
/-- v is small data on H -/
def Good (K : PySem.W.Frag) (H : Hp) (v : V) : Prop := ∃ d, Dp K H v d ∧ Small d 2 100
theorem Good.same {K : PySem.W.Frag} {H H' : Hp} {v : V} (s : Same H H') (h : Good K H v) : Good K H' v := let ⟨d, h1, h2⟩ := h; ⟨d, dp_same s d v h1, h2⟩
theorem good_int {K : PySem.W.Frag} {H : Hp} {i : Int} (h : i.natAbs < 10 ^ 30) : Good K H (.int i) := by
  refine ⟨.int i, .int i, ⟨decide_eq_true ?_, rfl, Nat.zero_le _, ?_⟩⟩
  · have h2 : i.natAbs < 2 ^ 100 := Nat.lt_trans h (by decide)
    exact Nat.lt_trans (PySem.Flt.log2_lt_of (by decide) h2) (by decide)
  · have q := int_text_length_le10 (k := 30) (by decide) h
    show (Str.ofString (toString i)).length ≤ 100
    rw [PySem.ofString_length]
    omega
theorem textFrom_le {m : Nat} : ∀ (ts : List Str) (k : Nat) (acc : Str), (∀ t ∈ ts, t.length ≤ m) → (textFrom k acc ts).length ≤ acc.length + ts.length * (m + 2)
  | [], k, acc, _ => Nat.le_add_right _ _
  | t :: r, k, acc, h => by
    have q := textFrom_le r (k + 1) (acc ++ (if k > 0 then ", " else "" : String) ++ t) (fun u hu => h u (List.mem_cons_of_mem _ hu))
    have ht := h t List.mem_cons_self
    have e : (acc ++ (if k > 0 then ", " else "" : String) ++ t).length ≤ acc.length + 2 + t.length := by
      rw [Str.length_append, Str.length_append]
      have z : ((if k > 0 then ", " else "" : String) : Str).length ≤ 2 := by
        split <;> decide
      omega
    have f : (t :: r).length * (m + 2) = r.length * (m + 2) + (m + 2) := by rw [List.length_cons, Nat.succ_mul]
    show (textFrom (k + 1) _ r).length ≤ _
    omega
theorem listText_le {m : Nat} {ts : List Str} (h : ∀ t ∈ ts, t.length ≤ m) : (listText ts).length ≤ ts.length * (m + 2) + 2 := by
  have q := textFrom_le ts 0 ("[" : String) h
  unfold listText
  rw [Str.length_append]
  have e1 : (("[" : String) : Str).length = 1 := by decide
  have e2 : (("]" : String) : Str).length = 1 := by decide
  omega
theorem shownAll_mem : ∀ {ds : List PyData} {t : Str}, t ∈ PyData.shownAll ds → ∃ d ∈ ds, t = d.shown
  | [], _, h => nomatch h
  | d :: r, t, h => by
    rcases List.mem_cons.mp (show t ∈ d.shown :: PyData.shownAll r from h) with h | h
    · exact ⟨d, List.mem_cons_self, h⟩
    · obtain ⟨e, he, q⟩ := shownAll_mem h
      exact ⟨e, List.mem_cons_of_mem _ he, q⟩
theorem shownAll_len : ∀ ds : List PyData, (PyData.shownAll ds).length = ds.length
  | [] => rfl
  | d :: r => congrArg (· + 1) (shownAll_len r)
theorem small_all {k n : Nat} : ∀ {ds : List PyData}, (∀ d ∈ ds, Small d k n) → PyData.showableAll ds = true ∧ PyData.hasDictAll ds = false ∧ PyData.depthAll ds ≤ k
  | [], _ => ⟨rfl, rfl, Nat.zero_le _⟩
  | d :: r, h => by
    obtain ⟨h1, h2, h3⟩ := small_all (ds := r) fun e he => h e (List.mem_cons_of_mem _ he)
    have z := h d List.mem_cons_self
    refine ⟨?_, ?_, ?_⟩
    · show (d.showable && PyData.showableAll r) = true
      rw [z.sh, h1]
      rfl
    · show (d.hasDict || PyData.hasDictAll r) = false
      rw [z.nd, h2]
      rfl
    · exact Nat.max_le.mpr ⟨z.dp, h3⟩
/-- a list of small data is small, one deeper -/
theorem small_list {k n m : Nat} {ds : List PyData} (h : ∀ d ∈ ds, Small d k n) (hm : ds.length * (n + 2) + 2 ≤ m) : Small (.list ds) (k + 1) m := by
  obtain ⟨h1, h2, h3⟩ := small_all h
  refine ⟨h1, h2, Nat.succ_le_succ h3, Nat.le_trans (listText_le (m := n) fun t ht => ?_) (by rw [shownAll_len]; exact hm)⟩
  obtain ⟨d, hd, rfl⟩ := shownAll_mem ht
  exact (h d hd).ln
end KX

set_option Elab.async false
set_option maxRecDepth 100000
set_option maxHeartbeats 2000000
/-! Nested data: its type, what isinstance says of it; items of it; small walks. -/
namespace KX
open PySem PySem.Spec PyProof.Rows L2
def tyD : PyData → String
  | .none => "NoneType"
  | .bool _ => "bool"
  | .int _ => "int"
  | .str _ => "str"
  | .list _ => "list"
  | .tuple _ => "tuple"
  | .dict _ => "dict"
def isIntD : PyData → Bool
  | .int _ => true
  | _ => false
def isBoolD : PyData → Bool
  | .bool _ => true
  | _ => false
def isStrD : PyData → Bool
  | .str _ => true
  | _ => false
def isTupD : PyData → Bool
  | .tuple _ => true
  | _ => false
def isLstD : PyData → Bool
  | .list _ => true
  | _ => false
theorem dp_ty {K : PySem.W.Frag} {H : Hp} {v : V} {d : PyData} (h : Dp K H v d) : TyX K H v (.type (tyD d)) := by
  cases h with
  | non => exact .base .non
  | bl b => exact .base (.bl b)
  | int i => exact .base (.int i)
  | str z => exact .base (.str z)
  | tup h _ =>
    rcases h with h | ⟨o, its, n, h1, h2, _⟩
    · rcases h with h | ⟨o, h⟩
      · exact .base (.tup h)
      · exact .fTuple h
    · exact .kTuple h1 h2
  | lst h _ =>
    rcases h with h | ⟨o, its, n, h1, h2, _⟩
    · rcases h with h | ⟨o, h⟩
      · exact .base (.lst h)
      · exact .base (.frz h)
    · exact .kList h1 h2
theorem kit_int {K : PySem.W.Frag} (d : PyData) : PySem.W.kitOne K (.type (tyD d)) (.type "int") = some (isIntD d || isBoolD d) := by cases d <;> kernel_rfl
theorem kit_bool {K : PySem.W.Frag} (d : PyData) : PySem.W.kitOne K (.type (tyD d)) (.type "bool") = some (isBoolD d) := by cases d <;> kernel_rfl
theorem kit_str {K : PySem.W.Frag} (d : PyData) : PySem.W.kitOne K (.type (tyD d)) (.type "str") = some (isStrD d) := by cases d <;> kernel_rfl
theorem kit_tup {K : PySem.W.Frag} (d : PyData) : PySem.W.kitOne K (.type (tyD d)) (.type "tuple") = some (isTupD d) := by cases d <;> kernel_rfl
theorem kit_lst {K : PySem.W.Frag} (d : PyData) : PySem.W.kitOne K (.type (tyD d)) (.type "list") = some (isLstD d) := by cases d <;> kernel_rfl
theorem kit_seq {K : PySem.W.Frag} (d : PyData) : PySem.W.kitAny K (.type (tyD d)) [.type "list", .type "tuple"] = some (isLstD d || isTupD d) := by
  unfold PySem.W.kitAny PySem.W.kitAny PySem.W.kitAny
  rw [kit_lst, kit_tup]
  cases d <;> rfl
theorem ite2' {b : Bool} {A B : Prop} (h1 : b = true → A) (h2 : b = false → B) : if b = true then A else B := by
  cases b
  · exact h2 rfl
  · exact h1 rfl
theorem same_put {H : Hp} {p : Addr} {o : HO} (hp : H p = none) : Same H (upd H p o) := fun x u e => (upd_ne (ne_of_none e hp)).trans e
theorem sqL_same {K : PySem.W.Frag} {H H' : Hp} {a : Addr} {xs : List V} (s : Same H H') (h : SqL K H a xs) : SqL K H' a xs := by
  rcases h with (h | ⟨o, h⟩) | h
  · exact .inl (.inl (s _ _ h))
  · exact .inl (.inr ⟨o, s _ _ h⟩)
  · exact .inr h
theorem dpall_len {K : PySem.W.Frag} {H : Hp} : ∀ {xs : List V} {ds : List PyData}, DpAll K H xs ds → xs.length = ds.length
  | _, _, .nil => rfl
  | _, _, .cons _ h => congrArg (· + 1) (dpall_len h)
theorem dpall_at {K : PySem.W.Frag} {H : Hp} : ∀ {xs : List V} {ds : List PyData} {i : Nat} {x : V}, DpAll K H xs ds → xs[i]? = some x → ∃ d, ds[i]? = some d ∧ Dp K H x d
  | _, _, 0, _, .cons h _, e => ⟨_, rfl, by cases e; exact h⟩
  | _, _, i + 1, _, .cons _ t, e => dpall_at (i := i) t e
theorem dpall_snoc {K : PySem.W.Frag} {H : Hp} {x : V} {d : PyData} (h : Dp K H x d) : ∀ {xs : List V} {ds : List PyData}, DpAll K H xs ds → DpAll K H (xs ++ [x]) (ds ++ [d])
  | _, _, .nil => .cons h .nil
  | _, _, .cons h1 t => .cons h1 (dpall_snoc h t)
theorem dpall_app {K : PySem.W.Frag} {H : Hp} {ys : List V} {es : List PyData} (k : DpAll K H ys es) : ∀ {xs : List V} {ds : List PyData}, DpAll K H xs ds → DpAll K H (xs ++ ys) (ds ++ es)
  | _, _, .nil => k
  | _, _, .cons h1 t => .cons h1 (dpall_app k t)
theorem dpall_take {K : PySem.W.Frag} {H : Hp} : ∀ {xs : List V} {ds : List PyData} (i : Nat), DpAll K H xs ds → DpAll K H (xs.take i) (ds.take i)
  | _, _, 0, _ => .nil
  | _, _, _ + 1, .nil => .nil
  | _, _, i + 1, .cons h t => .cons h (dpall_take i t)
theorem dpall_drop {K : PySem.W.Frag} {H : Hp} : ∀ {xs : List V} {ds : List PyData} (i : Nat), DpAll K H xs ds → DpAll K H (xs.drop i) (ds.drop i)
  | _, _, 0, h => h
  | _, _, _ + 1, .nil => .nil
  | _, _, i + 1, .cons _ t => dpall_drop i t
theorem dpall_set {K : PySem.W.Frag} {H : Hp} {x : V} {d : PyData} (h : Dp K H x d) : ∀ {xs : List V} {ds : List PyData} (i : Nat), DpAll K H xs ds → DpAll K H (xs.set i x) (ds.set i d)
  | _, _, _, .nil => .nil
  | _, _, 0, .cons _ t => .cons h t
  | _, _, i + 1, .cons h1 t => .cons h1 (dpall_set h i t)
theorem dpall_erase {K : PySem.W.Frag} {H : Hp} : ∀ {xs : List V} {ds : List PyData} (i : Nat), DpAll K H xs ds → DpAll K H (xs.eraseIdx i) (ds.eraseIdx i)
  | _, _, _, .nil => .nil
  | _, _, 0, .cons _ t => t
  | _, _, i + 1, .cons h t => .cons h (dpall_erase i t)
theorem dpall_3 {K : PySem.W.Frag} {H : Hp} : ∀ {xs : List V} {ds : List PyData}, DpAll K H xs ds → xs.length = 3 → ∃ x y z a b c, xs = [x, y, z] ∧ ds = [a, b, c] ∧ Dp K H x a ∧ Dp K H y b ∧ Dp K H z c
  | _, _, .cons h1 (.cons h2 (.cons h3 .nil)), _ => ⟨_, _, _, _, _, _, rfl, rfl, h1, h2, h3⟩
  | _, _, .nil, e => nomatch e
  | _, _, .cons _ .nil, e => nomatch e
  | _, _, .cons _ (.cons _ .nil), e => nomatch e
  | _, _, .cons _ (.cons _ (.cons _ (.cons _ _))), e => absurd e (by simp)
/-- a text's data -/
theorem dpall_strs {K : PySem.W.Frag} {H : Hp} : ∀ zs : List Str, DpAll K H (zs.map V.str) (zs.map PyData.str)
  | [] => .nil
  | z :: zs => .cons (.str z) (dpall_strs zs)
/-- one of two walks -/
theorem pi_or {X : Cx} {tg e : Expr} {A B : TI} (ha : PI X tg e A) (hb : PI X tg e B) : PI X tg e (fun σ H R => A σ H R ∨ B σ H R) :=
  ⟨fun pins s σ H R I h => h.elim (ha.run pins s σ H R I) (hb.run pins s σ H R I)⟩
theorem take_at {α : Type} {xs : List α} {i : Nat} {x : α} (h : xs[i]? = some x) : xs.take (i + 1) = xs.take i ++ [x] := by
  rw [List.take_add_one, h]
  rfl
theorem ixN_nat {n j : Nat} (h : j < n) : ixN n (j : Int) = some j := by
  unfold ixN
  rw [if_pos (by omega), if_pos (by omega)]
  rfl
theorem len_is {α : Type} {xs : List α} (j : Nat) (c : decide (V.int ((xs.length : Nat) : Int) = V.int (j : Int)) = true) : xs.length = j := by
  have q := V.int.inj (of_decide_eq_true c)
  omega
theorem len_not {α : Type} {xs : List α} (j : Nat) (c : decide (V.int ((xs.length : Nat) : Int) = V.int (j : Int)) = false) : xs.length ≠ j := fun e => of_decide_eq_false c (by rw [e])
theorem len_isN {α : Type} {xs : List α} (j : Nat) (c : (!decide (V.int ((xs.length : Nat) : Int) = V.int (j : Int))) = false) : xs.length = j := by
  refine len_is j ?_
  revert c
  cases decide (V.int ((xs.length : Nat) : Int) = V.int (j : Int)) <;> intro q
  · cases q
  · rfl
theorem len_notN {α : Type} {xs : List α} (j : Nat) (c : (!decide (V.int ((xs.length : Nat) : Int) = V.int (j : Int))) = true) : xs.length ≠ j := by
  rintro e
  rw [e, decide_eq_true rfl] at c
  cases c
theorem lay_all {k : Nat} : ∀ {ds : List PyData}, (∀ d ∈ ds, d.canLay0 = true ∧ d.depth ≤ k) → PyData.canLayAll0 ds = true ∧ PyData.depthAll ds ≤ k
  | [], _ => ⟨rfl, Nat.zero_le _⟩
  | d :: ds, h => by
    obtain ⟨h1, h2⟩ := h d List.mem_cons_self
    obtain ⟨h3, h4⟩ := lay_all fun e he => h e (List.mem_cons_of_mem _ he)
    refine ⟨?_, ?_⟩
    · show (d.canLay0 && PyData.canLayAll0 ds) = true
      rw [h1, h3]
      rfl
    · show max d.depth (PyData.depthAll ds) ≤ k
      exact Nat.max_le.mpr ⟨h2, h4⟩
theorem list_shaped {ds : List PyData} (h : ∀ d ∈ ds, d.canLay0 = true ∧ d.depth ≤ 60) : SeqAt.shaped (.list ds) = true := by
  obtain ⟨h1, h2⟩ := lay_all h
  unfold SeqAt.shaped
  refine Bool.and_eq_true_iff.mpr ⟨h1, decide_eq_true ?_⟩
  show PyData.depthAll ds + 1 ≤ 64
  omega
end KX

set_option Elab.async false
set_option maxRecDepth 100000
set_option maxHeartbeats 2000000
/-! Names: texts of 1 to 8 letters a to z. -/
namespace KX
open PySem PySem.Spec PyProof.Rows L2
def isLet (c : Nat) : Bool := decide (97 ≤ c) && decide (c ≤ 122)
def isNm (z : Str) : Bool := decide (1 ≤ z.length) && decide (z.length ≤ 8) && z.cps.toList.all isLet
def nmD : PyData → Bool
  | .str z => isNm z
  | _ => false
def okN (d : PyData) : Prop := ∀ z, d = .str z → z.length ≤ 1000
theorem letters_eq : (("abcdefghijklmnopqrstuvwxyz" : Str)).cps.toList = [97, 98, 99, 100, 101, 102, 103, 104, 105, 106, 107, 108, 109, 110, 111, 112, 113, 114, 115, 116, 117, 118, 119, 120, 121, 122] := by decide +kernel
theorem mem_26 (c : Nat) : c ∈ ([97, 98, 99, 100, 101, 102, 103, 104, 105, 106, 107, 108, 109, 110, 111, 112, 113, 114, 115, 116, 117, 118, 119, 120, 121, 122] : List Nat) ↔ (97 ≤ c ∧ c ≤ 122) := by
  constructor
  · intro h
    have k : ∀ x ∈ ([97, 98, 99, 100, 101, 102, 103, 104, 105, 106, 107, 108, 109, 110, 111, 112, 113, 114, 115, 116, 117, 118, 119, 120, 121, 122] : List Nat), 97 ≤ x ∧ x ≤ 122 := by decide
    exact k c h
  · rintro ⟨h1, h2⟩
    obtain ⟨k, rfl⟩ : ∃ k, c = 97 + k := ⟨c - 97, by omega⟩
    have hk : k < 26 := by omega
    have z : ∀ k : Fin 26, 97 + k.val ∈ ([97, 98, 99, 100, 101, 102, 103, 104, 105, 106, 107, 108, 109, 110, 111, 112, 113, 114, 115, 116, 117, 118, 119, 120, 121, 122] : List Nat) := by decide
    exact z ⟨k, hk⟩
theorem mem_letters (c : Nat) : decide (c ∈ (("abcdefghijklmnopqrstuvwxyz" : Str)).cps.toList) = isLet c := by
  rw [letters_eq]
  unfold isLet
  by_cases h : 97 ≤ c ∧ c ≤ 122
  · rw [decide_eq_true h.1, decide_eq_true h.2]
    exact decide_eq_true ((mem_26 c).mpr h)
  · have e : (decide (97 ≤ c) && decide (c ≤ 122)) = false := by
      by_cases h1 : 97 ≤ c
      · rw [decide_eq_true h1, decide_eq_false (fun h2 => h ⟨h1, h2⟩)]
        rfl
      · rw [decide_eq_false h1]
        rfl
    rw [e]
    exact decide_eq_false fun q => h ((mem_26 c).mp q)
theorem one_lt (a b : Nat) : ([a] < [b]) ↔ a < b := by
  constructor
  · intro h
    rcases List.cons_lt_cons_iff.mp h with h | ⟨rfl, h⟩
    · exact h
    · exact absurd h (List.lt_irrefl _)
  · intro h
    exact List.cons_lt_cons_iff.mpr (.inl h)
theorem lo_let (c : Nat) : (!decide ((⟨#[c]⟩ : Str).cps.toList < (("a" : Str)).cps.toList)) = decide (97 ≤ c) := by
  have e : (("a" : Str)).cps.toList = [97] := by decide +kernel
  rw [e]
  show (!decide ([c] < [97])) = _
  by_cases h : 97 ≤ c
  · rw [decide_eq_true h, decide_eq_false (fun q => by have := (one_lt _ _).mp q; omega)]
    rfl
  · rw [decide_eq_false h, decide_eq_true ((one_lt _ _).mpr (by omega))]
    rfl
theorem hi_let (c : Nat) : (!decide ((("z" : Str)).cps.toList < (⟨#[c]⟩ : Str).cps.toList)) = decide (c ≤ 122) := by
  have e : (("z" : Str)).cps.toList = [122] := by decide +kernel
  rw [e]
  show (!decide ([122] < [c])) = _
  by_cases h : c ≤ 122
  · rw [decide_eq_true h, decide_eq_false (fun q => by have := (one_lt _ _).mp q; omega)]
    rfl
  · rw [decide_eq_false h, decide_eq_true ((one_lt _ _).mpr (by omega))]
    rfl
theorem nm_off {d : PyData} (h : isStrD d = false) : nmD d = false := by cases d <;> first | rfl | cases h
theorem nm_short {z : Str} (h : z.length < 1) : isNm z = false := by
  unfold isNm
  rw [decide_eq_false (by omega)]
  rfl
theorem nm_long {z : Str} (h : z.length > 8) : isNm z = false := by
  unfold isNm
  rw [decide_eq_false (show ¬ z.length ≤ 8 by omega), Bool.and_false]
  rfl
theorem nm_mid {z : Str} (h1 : ¬ z.length < 1) (h2 : ¬ z.length > 8) : isNm z = z.cps.toList.all isLet := by
  unfold isNm
  rw [decide_eq_true (by omega), decide_eq_true (by omega)]
  rfl
/-- what is promised of is_name -/
def spName (K : PySem.W.Frag) : Sp := fun vs H Q _ => ∃ (x : V) (d : PyData), vs = [x] ∧ Dp K H x d ∧ okN d ∧ ∀ H', Same H H' → Q (.bl (nmD d)) H'
def spInt (K : PySem.W.Frag) : Sp := fun vs H Q _ => ∃ (x : V) (d : PyData), vs = [x] ∧ Dp K H x d ∧ Q (.bl (isIntD d)) H
theorem str_dec (u v : Str) : decide (V.str u = V.str v) = decide (u = v) := by
  by_cases h : u = v
  · rw [h, decide_eq_true rfl, decide_eq_true rfl]
  · rw [decide_eq_false (fun q => h (V.str.inj q)), decide_eq_false h]
theorem str_dec' (u v : Str) : decide (V.str u = V.str v) = decide (v = u) := by
  rw [str_dec]
  by_cases h : u = v
  · rw [h]
  · rw [decide_eq_false h, decide_eq_false (fun q => h q.symm)]
end KX

set_option Elab.async false
set_option maxRecDepth 100000
set_option maxHeartbeats 2000000
/-! A walk over a thing that is a list or a tuple. -/
namespace KX
open PySem PySem.Spec PyProof.Rows L2
section
variable {X : Cx} {tg : Expr}
def Sq (K : PySem.W.Frag) (H : Hp) (a : Addr) (xs : List V) : Prop := SqL K H a xs ∨ SqT K H a xs
theorem Sq.same {K : PySem.W.Frag} {H H' : Hp} {a : Addr} {xs : List V} (s : Same H H') (h : Sq K H a xs) : Sq K H' a xs := h.imp (sqL_same s) (sqT_same s)
def iSeq (K : PySem.W.Frag) (tl : TE) : TI := fun σ H R => tl σ H fun x H1 => ∃ a xs, x = .ref a ∧ Sq K H1 a xs ∧ ∀ J, Walk J xs.length (fun G => Same H1 G) (YAt xs) → R J H1
theorem pi_seq {l : Expr} {tl : TE} (hl : PE X l tl) : PI X tg l (iSeq X.K tl) := by
  refine ⟨fun pins s σ H R I h => ?_⟩
  refine thn (hl.run pins s σ H _ I h) fun v s1 ⟨x, H1, I1, r1, q1⟩ => ?_
  obtain ⟨a, xs, e, hq, q⟩ := q1
  subst e
  cases r1
  rcases hq with hq | hq
  · obtain ⟨its, rv, p, hz⟩ := I1.list hq
    refine wpAny_pyIter_list p.isList ?_
    refine ⟨s1.heap.objs.size, [s1.heap.objs.size], _, _, H1, rfl, I1.kept (t' := s1.toks) fun b o e => Heap.get?_push_of_some _ e, turn_list a _, ⟨_, Heap.get?_push_size _ rfl, rfl, rfl⟩, fun b hb => ?_, q _ (walk_list.mono (fun G z => sqL_same z hq) fun _ _ _ _ _ _ y => y)⟩
    have e : b = s1.heap.objs.size := by simpa using hb
    subst e
    exact I1.fpOk (Nat.le_refl _) (I1.hok.fresh (Nat.le_refl _))
  · obtain ⟨its, rv, p, hz⟩ := I1.tuple hq
    refine wpAny_pyIter_tuple (show s1.heap.IsTuple a its.toArray from p) ?_
    refine ⟨s1.heap.objs.size, [s1.heap.objs.size], _, _, H1, rfl, I1.kept (t' := s1.toks) fun b o e => Heap.get?_push_of_some _ e, turn_tuple a _, ⟨_, Heap.get?_push_size _ rfl, rfl, rfl⟩, fun b hb => ?_, q _ (walk_tup.mono (fun G z => sqT_same z hq) fun _ _ _ _ _ _ y => y)⟩
    have e : b = s1.heap.objs.size := by simpa using hb
    subst e
    exact I1.fpOk (Nat.le_refl _) (I1.hok.fresh (Nat.le_refl _))
def iEnumS (K : PySem.W.Frag) (ta : TA) : TI := fun σ H R => ta σ H fun vs H1 => ∃ a xs, vs = [.ref a] ∧ Sq K H1 a xs ∧ ∀ J, Walk J xs.length (fun G => Same H1 G) (YPair (fun i => some (.int (i : Nat))) (fun i => xs[i]?)) → R J H1
theorem pi_enumS {e : Expr} {ta : TA} {p pos tpos : Pos} {elts : List Expr} {kk : Nat} (hg : Gl X "enumerate") (hm : X.mg "enumerate" = none) (ha : PA X [e] ta) (hs : starEach [e] X.env = [(false, eval e X.env)] := by rfl) :
    PI X (.Tuple elts kk tpos) (.Call (.Name "enumerate" p) [e] [] pos) (iEnumS X.K ta) := by
  refine ⟨fun pins s σ H R I h => Call_ (ld_blt I hg hm boot_enumerate (PyProof.Rows.callWith_type1 (thn (ha.run pos pins s σ H _ I h) fun us s1 hh => ?_) hs rfl))⟩
  obtain ⟨vs, H1, I1, r1, a, xs, rfl, hq, q⟩ := hh
  obtain rfl := Vals.ref1 r1
  rcases hq with hq | hq
  · obtain ⟨its, rv, p', hz⟩ := I1.list hq
    refine call_enumerate_list p'.isList fun h' he hit hsz hk => wpAny_pyIter_enum he ?_
    have I2 : Inv X pins σ H1 { s1 with heap := h' } := I1.kept (t' := s1.toks) hk
    refine ⟨s1.heap.objs.size + 1, [s1.heap.objs.size + 1, s1.heap.objs.size], _, _, H1, rfl, I2, turn_enum a (s1.heap.objs.size + 1) s1.heap.objs.size, ⟨⟨.none, he⟩, hit, Nat.succ_ne_self _⟩, fun b hb => ?_, q _ (walk_enum.mono (fun G z => sqL_same z hq) fun _ _ _ _ _ _ y => y)⟩
    have hle : s1.heap.objs.size ≤ b := by
      rcases List.mem_cons.mp hb with rfl | hb
      · exact Nat.le_succ _
      · rw [List.mem_singleton.mp hb]
        exact Nat.le_refl _
    exact I1.fpOk hle (I1.hok.fresh hle)
  · obtain ⟨its, rv, p', hz⟩ := I1.tuple hq
    refine enum_tup p' fun h' he hit hk => wpAny_pyIter_enum he ?_
    have I2 : Inv X pins σ H1 { s1 with heap := h' } := I1.kept (t' := s1.toks) hk
    refine ⟨s1.heap.objs.size + 1, [s1.heap.objs.size + 1, s1.heap.objs.size], _, _, H1, rfl, I2, turn_enumT a (s1.heap.objs.size + 1) s1.heap.objs.size, ⟨⟨.none, he⟩, hit, Nat.succ_ne_self _⟩, fun b hb => ?_, q _ (walk_enumT.mono (fun G z => sqT_same z hq) fun _ _ _ _ _ _ y => y)⟩
    have hle : s1.heap.objs.size ≤ b := by
      rcases List.mem_cons.mp hb with rfl | hb
      · exact Nat.le_succ _
      · rw [List.mem_singleton.mp hb]
        exact Nat.le_refl _
    exact I1.fpOk hle (I1.hok.fresh hle)
/-- xs[i] of a list or a tuple -/
theorem atI_len {α β : Type} (f : α → β) (xs : List α) (i : Int) : atI (xs.map f) i = (atI xs i).map f := by
  unfold atI
  rw [List.length_map]
  cases ixN xs.length i with
  | none => rfl
  | some j =>
    show (xs.map f)[j]? = (xs[j]?).map f
    rw [List.getElem?_map]
end
end KX
namespace KX
open PySem PySem.Spec PyProof.Rows L2
theorem ix_of {K : PySem.W.Frag} {H : Hp} {a : Addr} {xs : List V} {i : Int} {v : V} {Q : VK} (h : Sq K H a xs) (e : atI xs i = some v) (q : Q v H) : rIx K (.ref a) (.int i) H Q :=
  h.elim (fun h => .inl ⟨a, xs, i, v, rfl, rfl, h, e, q⟩) fun h => .inr (.inl ⟨a, xs, i, v, rfl, rfl, h, e, q⟩)
/-- the place ahead of i, around -/
def pred (n i : Nat) : Nat := if i = 0 then n - 1 else i - 1
theorem pred_lt {n i : Nat} (h : i < n) : pred n i < n := by unfold pred; split <;> omega
theorem ixN_pred {n i : Nat} (h : i < n) : ixN n ((i : Int) - 1) = some (pred n i) := by
  unfold ixN pred
  by_cases h0 : i = 0
  · subst h0
    rw [if_neg (by omega), if_pos (by omega), if_pos rfl]
    congr 1
    omega
  · rw [if_pos (by omega), if_pos (by omega), if_neg h0]
    congr 1
    omega
theorem atI_pred {α : Type} {xs : List α} {i : Nat} (h : i < xs.length) : atI xs ((i : Int) - 1) = xs[pred xs.length i]? := by
  unfold atI
  rw [ixN_pred h]
  rfl
theorem range_at {n i : Nat} : (List.range n).take n = List.range n := by rw [List.take_of_length_le (by rw [List.length_range]; exact Nat.le_refl _)]
theorem map_range_succ {α : Type} (f : Nat → α) (i : Nat) : (List.range (i + 1)).map f = (List.range i).map f ++ [f i] := by
  rw [List.range_succ, List.map_append]
  rfl
theorem walk_rng {n : Nat} : Walk (Itr 0 n) n (fun _ => True) (fun i H x H' => H' = H ∧ x = .int ((i : Nat) : Int)) :=
  walk_range.mono (fun _ h => h) fun i H x H' _ _ y => ⟨y.1, by rw [y.2]; show V.int (0 + (i : Int)) = _; rw [Int.zero_add]⟩
def rLenQ (K : PySem.W.Frag) : List V → Hp → VK → Prop := fun xs H Q => ∃ p ys, xs = [.ref p] ∧ (SqL K H p ys ∨ SqT K H p ys) ∧ Q (.int ys.length) H
end KX

set_option Elab.async false
set_option maxRecDepth 100000
set_option maxHeartbeats 2000000
/-! len, bool, abs, in, ==, >>, + of own instances, by own methods; max(.., default=). -/
namespace KX
open PySem PySem.Spec PySem.Calls PyProof.Rows L2
section
variable {X : Cx} {pins : List (Addr × Obj)} {σ : L2.St} {H : Hp} {s : Shared} {CX : CXT} {k : Nat} {f C : Addr} {fd : FuncData} {ps : List Str} {sp : Sp} {E : XK}
/-- f called by a built-in, one call deep -/
theorem run_in1 {us : List Value} {vs : List V} {Q : VK} (F : FnOk X.prog X.w X.K X.mg X.base CX k f fd ps sp) (hr : Room (k + 1) X.A) (hb : Binds X.K fd ps []) (hx : Passes CX X E) (I : Inv X pins σ H s) (r : Vals vs us) (h : sp vs H Q E) :
    wpAny (model X.prog X.w) X.A.in1 (call (.ref f) us) (EP X pins σ Q) X.xe s := by
  have hl : (us ++ []).length = ps.length := by
    rw [List.append_nil, ← r.length]
    exact F.len _ _ _ _ h
  have hbi := hb s us I.kIn hl
  rw [List.append_nil] at hbi
  refine wpAny_call (codeAny_mono (F.run X.A.in1 X.stack s H ⟨us, []⟩ us vs Q E hr.in1 I.env0.in1 hbi r h) fun res s' z => ?_)
  match res, z with
  | .error e, z => exact hx pins σ H s e s' I z
  | .ok (.ret u), z => exact I.after z
  | .ok .next, z => exact False.elim z
  | .ok .brk, z => exact False.elim z
  | .ok .cont, z => exact False.elim z
theorem run_in0 {us : List Value} {vs : List V} {Q : VK} (F : FnOk X.prog X.w X.K X.mg X.base CX k f fd ps sp) (hr : Room k X.A) (hb : Binds X.K fd ps []) (hx : Passes CX X E) (I : Inv X pins σ H s) (r : Vals vs us) (h : sp vs H Q E) :
    wpAny (model X.prog X.w) X.A (call (.ref f) us) (EP X pins σ Q) X.xe s :=
  run_fn (dvs := []) F hr hb .nil hx I r (by rw [List.append_nil]; exact h)
/-- an instance of C that H tracks -/
abbrev InsT (H : Hp) (a C : Addr) : Prop := ∃ dx fs, H a = some (.ins C dx fs)
theorem insT_at (I : Inv X pins σ H s) {a : Addr} (h : InsT H a C) : ∃ ox od, PySem.W.InstAt s.heap a ox C od := by
  obtain ⟨dx, fs, h⟩ := h
  obtain ⟨mA, O, _⟩ := ins_get I.hok h
  obtain ⟨od, J, _⟩ := O.look
  exact ⟨_, _, J⟩
/-- len(o) -/
theorem call_lenO (m : Meth X.K C "__len__" f) (F : FnOk X.prog X.w X.K X.mg X.base CX k f fd ps sp) (hr : Room (k + 1) X.A) (hb : Binds X.K fd ps []) (hx : Passes CX X E) :
    CallR X (.builtin "len") (fun xs H Q => ∃ a, xs = [.ref a] ∧ InsT H a C ∧ sp [.ref a] H (fun v H' => ∃ n : Nat, v = .int n ∧ n < 2 ^ 62 ∧ Q (.int n) H') E) := by
  intro pins s σ H xs us Q I r h
  obtain ⟨a, rfl, hi, q⟩ := h
  obtain rfl := Vals.ref1 r
  obtain ⟨ox, od, J⟩ := insT_at I hi
  obtain ⟨m', fr⟩ := I.fr
  refine PySem.W.len_K fr I.mod.kin J m.at_ m.fn (wpAny_mono (run_in1 F hr hb hx I r q) (fun u s' z => ?_) fun _ _ z => z)
  obtain ⟨v, H', I', rv, n, rfl, hn, q'⟩ := z
  obtain ⟨t, rfl⟩ := rv
  exact ⟨⟨by omega, by omega⟩, .int n, H', I'.tok _, ⟨_, rfl⟩, q'⟩
/-- the truth of o -/
theorem truthy_O (m : Meth X.K C "__bool__" f) (F : FnOk X.prog X.w X.K X.mg X.base CX k f fd ps sp) (hr : Room k X.A) (hb : Binds X.K fd ps []) (hx : Passes CX X E) {a : Addr} {Q : Bool → Hp → Prop} (I : Inv X pins σ H s) (hi : InsT H a C)
    (q : sp [.ref a] H (fun v H' => ∃ b, v = .bl b ∧ Q b H') E) : wpAny (model X.prog X.w) X.A (truthy (.ref a)) (TP X pins σ Q) X.xe s := by
  obtain ⟨ox, od, J⟩ := insT_at I hi
  obtain ⟨m', fr⟩ := I.fr
  refine PySem.W.truthy_K fr I.mod.kin J m.at_ m.fn (wpAny_mono (run_in0 F hr hb hx I (us := [.ref a]) (vs := [.ref a]) (.cons rfl .nil) q) (fun u s' z => ?_) fun _ _ z => z)
  obtain ⟨v, H', I', rv, b, rfl, q'⟩ := z
  cases (show u = Value.bool b from rv)
  exact ⟨H', I', q'⟩
/-- x in o -/
theorem op_inO (m : Meth X.K C "__contains__" f) (F : FnOk X.prog X.w X.K X.mg X.base CX k f fd ps sp) (hr : Room k X.A) (hb : Binds X.K fd ps []) (hx : Passes CX X E) :
    OpR X (compareOp .In) (fun x y H Q => ∃ a, y = .ref a ∧ InsT H a C ∧ sp [.ref a, x] H (fun v H' => ∃ b, v = .bl b ∧ Q (.bl b) H') E) := by
  intro pins s σ H x y v u Q I rx ry h
  obtain ⟨a, rfl, hi, q⟩ := h
  cases (show u = Value.ref a from ry)
  obtain ⟨ox, od, J⟩ := insT_at I hi
  obtain ⟨m', fr⟩ := I.fr
  refine PySem.W.in_K fr I.mod.kin J m.at_ m.fn (wpAny_mono (run_in0 F hr hb hx I (us := [.ref a, v]) (vs := [.ref a, x]) (.cons rfl (.cons rx .nil)) q) (fun u s' z => ?_) fun _ _ z => z)
  obtain ⟨v', H', I', rv, b, rfl, q'⟩ := z
  cases (show u = Value.bool b from rv)
  exact wpAny_truthy_bool ⟨.bl b, H', I', rfl, q'⟩
theorem op_notInO (m : Meth X.K C "__contains__" f) (F : FnOk X.prog X.w X.K X.mg X.base CX k f fd ps sp) (hr : Room k X.A) (hb : Binds X.K fd ps []) (hx : Passes CX X E) :
    OpR X (compareOp .NotIn) (fun x y H Q => ∃ a, y = .ref a ∧ InsT H a C ∧ sp [.ref a, x] H (fun v H' => ∃ b, v = .bl b ∧ Q (.bl (!b)) H') E) := by
  intro pins s σ H x y v u Q I rx ry h
  obtain ⟨a, rfl, hi, q⟩ := h
  cases (show u = Value.ref a from ry)
  obtain ⟨ox, od, J⟩ := insT_at I hi
  obtain ⟨m', fr⟩ := I.fr
  refine PySem.W.notIn_K fr I.mod.kin J m.at_ m.fn (wpAny_mono (run_in0 F hr hb hx I (us := [.ref a, v]) (vs := [.ref a, x]) (.cons rfl (.cons rx .nil)) q) (fun u s' z => ?_) fun _ _ z => z)
  obtain ⟨v', H', I', rv, b, rfl, q'⟩ := z
  cases (show u = Value.bool b from rv)
  exact wpAny_truthy_bool ⟨.bl (!b), H', I', rfl, q'⟩
/-- abs(o) -/
theorem call_absO (m : Meth X.K C "__abs__" f) (F : FnOk X.prog X.w X.K X.mg X.base CX k f fd ps sp) (hr : Room (k + 1) X.A) (hb : Binds X.K fd ps []) (hx : Passes CX X E) :
    CallR X (.builtin "abs") (fun xs H Q => ∃ a, xs = [.ref a] ∧ InsT H a C ∧ sp [.ref a] H Q E) := by
  intro pins s σ H xs us Q I r h
  obtain ⟨a, rfl, hi, q⟩ := h
  obtain rfl := Vals.ref1 r
  obtain ⟨ox, od, J⟩ := insT_at I hi
  refine call_function_entry kind_abs plain_abs entry_abs (args_abs _) ?_
  unfold Builtin.«abs»
  refine wpAny_bind (m := oneArg "abs" _) (wpAny_pure ?_)
  refine wpAny_bind (m := callSpecial? (.ref a) (Str.ofString "__abs__")) ?_
  refine PySem.W.special_fn I.kIn J m.at_ (beq_iff_eq.mp m.fn) ?_
  exact wpAny_mono (run_in1 F hr hb hx I r q) (fun u s' z => wpAny_pure ⟨u, rfl, z⟩) fun _ _ z => z
/-- max(xs, default=d), of whole numbers -/
def rMaxD (K : PySem.W.Frag) : List V → List V → Hp → VK → Prop := fun xs zs H Q => ∃ (a : Addr) (ns : List Int) (d : Int), xs = [.ref a] ∧ zs = [.int d] ∧ SqL K H a (ns.map V.int) ∧
  Q (.int (match ns with | [] => d | n :: r => r.foldl max n)) H
theorem cr_maxD (hc : X.calm = true) (hu : X.A.units + 64 < cLine) : CallRK X (.builtin "max") [Str.ofString "default"] (rMaxD X.K) := by
  intro pins s σ H xs zs us ws Q I r rz h
  obtain ⟨a, ns, d, rfl, rfl, hs, q⟩ := h
  obtain rfl := Vals.ref1 r
  obtain ⟨ud, rfl, td, rfl⟩ := vals1 rz
  obtain ⟨its, rv, hl, _⟩ := I.list hs
  obtain ⟨as, ra⟩ : ∃ as, ReadsAll s.heap its (ns.map PyData.int) as := by
    clear hs hl q
    rename_i hlen
    clear hlen
    induction ns generalizing its with
    | nil => cases rv; exact ⟨_, .nil⟩
    | cons n r ih =>
      cases rv with
      | cons h t =>
        obtain ⟨tk, rfl⟩ := h
        obtain ⟨as, ra⟩ := ih _ t
        exact ⟨_, .cons (.int _ _) ra⟩
  have dep : PyData.depthAll (ns.map PyData.int) = 0 := by
    clear ra hs q rv hl
    rename_i hlen
    clear hlen
    induction ns with
    | nil => rfl
    | cons n r ih => exact Nat.le_zero.mp (Nat.max_le.mpr ⟨Nat.le_refl _, Nat.le_of_eq ih⟩)
  refine PySem.W.max_list_default (I.ok.hd hc) hl.isList (by simpa using ra) ⟨fun x hx y hy => by
    obtain ⟨i, _, rfl⟩ := List.mem_map.mp hx
    obtain ⟨j, _, rfl⟩ := List.mem_map.mp hy
    rfl, fun x hx => by
    obtain ⟨i, _, rfl⟩ := List.mem_map.mp hx
    exact nofun⟩ (by rw [dep]; omega) (fun e h' tk kp => ?_) (fun y ys i v h' tk bs e hv hr kp => ?_)
  · have e0 : ns = [] := List.map_eq_nil_iff.mp e
    subst e0
    exact ⟨.int d, H, I.kept (t' := tk) kp, ⟨_, rfl⟩, q⟩
  · cases ns with
    | nil => cases e
    | cons n r =>
      cases e
      rw [PySem.W.maxD_ints] at hr
      cases hr
      exact ⟨.int _, H, I.kept (t' := tk) kp, ⟨_, rfl⟩, q⟩
/-- bool(o) -/
theorem bool_in {prog : Program} {w : World} (x : Value) : MeetsIn prog w (Builtin.«bool.__new__» ⟨[.type "bool", x], []⟩) (fun A R s => wpAny (model prog w) A.in1 (truthy x) (fun b s' => R (.ok (.ret (.bool b))) s') (fun e s' => R (.error e) s') s) :=
  .of_wp fun A R s h => by
    have f1 := F.conv_sub_bool
    obtain ⟨hp, g, d, tk, os⟩ := s
    repeat (any_goals (first | assumption | (with_reducible refine wpAny_bind (wpAny_mono h (fun b s' z => ?_) fun _ _ e => e)) | wp_step))
    exact ⟨_, rfl, z⟩
theorem op_eqO (m : Meth X.K C "__eq__" f) (F : FnOk X.prog X.w X.K X.mg X.base CX k f fd ps sp) (hr : Room k X.A) (hb : Binds X.K fd ps []) (hx : Passes CX X E) (hu : X.A.units < cLine) :
    OpR X (compareOp .Eq) (fun x y H Q => ∃ (a : Addr) (t : Value), x = .ref a ∧ InsT H a C ∧ TyX X.K H y t ∧ PySem.W.notFirst X.K C t = true ∧ sp [.ref a, y] H (fun v H' => ∃ b, v = .bl b ∧ Q (.bl b) H') E) := by
  intro pins s σ H x y v u Q I rx ry h
  obtain ⟨a, t, rfl, hi, ty, hn, q⟩ := h
  cases (show v = Value.ref a from rx)
  obtain ⟨ox, od, J⟩ := insT_at I hi
  obtain ⟨m', fr⟩ := I.fr
  obtain ⟨P, Z, p, _⟩ := kit_of I ry ty
  show wpAny _ _ (richCompare .Eq (.ref a) u) _ _ _
  refine PySem.W.cmp_K (op := .Eq) hu fr I.mod.kin J (Z.ty _ _ I.kIn p) hn m.at_ m.fn (wpAny_mono (run_in0 F hr hb hx I (us := [.ref a, u]) (vs := [.ref a, y]) (.cons rfl (.cons ry .nil)) q) (fun w s' z => ?_) fun _ _ z => z)
  obtain ⟨v', H', I', rv, b, rfl, q'⟩ := z
  cases (show w = Value.bool b from rv)
  exact ⟨.bl b, H', I', rfl, q'⟩
/-- bool(x), by the truth of x -/
theorem bool_of {x : Value} {Q : Bool → Hp → Prop} {R : VK} (h : wpAny (model X.prog X.w) X.A.in1.in1 (truthy x) (TP X pins σ Q) X.xe s) (q : ∀ b H', Q b H' → R (.bl b) H') : wpAny (model X.prog X.w) X.A (call (.type "bool") [x]) (EP X pins σ R) X.xe s :=
  callType_newIn F.called_bool F.newNe_bool (F.typeCall_bool_1 x) (F.newCall_bool_1 x) (fun obj => F.args_object_init_2 obj x) F.entry_bool_new (bool_in x) (wpAny_mono h (fun b s' z => by
    obtain ⟨H', I', q'⟩ := z
    exact ⟨PySem.typeIs_bool _ _, .bl b, H', I', rfl, q b H' q'⟩) fun _ _ z => z)
theorem run_in22 {us : List Value} {vs : List V} {Q : VK} (F : FnOk X.prog X.w X.K X.mg X.base CX k f fd ps sp) (hr : Room (k + 2) X.A) (hb : Binds X.K fd ps []) (hx : Passes CX X E) (I : Inv X pins σ H s) (r : Vals vs us) (h : sp vs H Q E) :
    wpAny (model X.prog X.w) X.A.in1.in1 (call (.ref f) us) (EP X pins σ Q) X.xe s := by
  have hl : (us ++ []).length = ps.length := by
    rw [List.append_nil, ← r.length]
    exact F.len _ _ _ _ h
  have hbi := hb s us I.kIn hl
  rw [List.append_nil] at hbi
  refine wpAny_call (codeAny_mono (F.run X.A.in1.in1 X.stack s H ⟨us, []⟩ us vs Q E hr.in1.in1 I.env0.in1.in1 hbi r h) fun res s' z => ?_)
  match res, z with
  | .error e, z => exact hx pins σ H s e s' I z
  | .ok (.ret u), z => exact I.after z
  | .ok .next, z => exact False.elim z
  | .ok .brk, z => exact False.elim z
  | .ok .cont, z => exact False.elim z
/-- bool(o) -/
theorem call_boolO (m : Meth X.K C "__bool__" f) (F : FnOk X.prog X.w X.K X.mg X.base CX k f fd ps sp) (hr : Room (k + 2) X.A) (hb : Binds X.K fd ps []) (hx : Passes CX X E) :
    CallR X (.type "bool") (fun xs H Q => ∃ a, xs = [.ref a] ∧ InsT H a C ∧ sp [.ref a] H (fun v H' => ∃ b, v = .bl b ∧ Q (.bl b) H') E) := by
  intro pins s σ H xs us Q I r h
  obtain ⟨a, rfl, hi, q⟩ := h
  obtain rfl := Vals.ref1 r
  obtain ⟨ox, od, J⟩ := insT_at I hi
  obtain ⟨m', fr⟩ := I.fr
  refine bool_of (Q := fun b H' => Q (.bl b) H') (PySem.W.truthy_K fr I.mod.kin J m.at_ m.fn (wpAny_mono (run_in22 F hr hb hx I r q) (fun u s' z => ?_) fun _ _ z => z)) fun b H' q => q
  obtain ⟨v, H', I', rv, b, rfl, q'⟩ := z
  cases (show u = Value.bool b from rv)
  exact ⟨H', I', q'⟩
/-- bool(t), t a tuple -/
theorem call_boolT : CallR X (.type "bool") (fun xs H Q => ∃ (a : Addr) (zs : List V), xs = [.ref a] ∧ SqT X.K H a zs ∧ Q (.bl (!zs.isEmpty)) H) := by
  intro pins s σ H xs us Q I r h
  obtain ⟨a, zs, rfl, hq, q⟩ := h
  obtain rfl := Vals.ref1 r
  obtain ⟨its, rv, pl, hz⟩ := I.tuple hq
  have hl := line63
  have hlen := rv.length
  exact bool_of (Q := fun b H' => Q (.bl b) H') (truthy_tuple pl (by simp only [List.size_toArray]; omega) ⟨H, I.tok _, by rw [isEmpty_of rv]; exact q⟩) fun b H' q => q
end
end KX

set_option Elab.async false
set_option maxRecDepth 100000
set_option maxHeartbeats 2000000
namespace KX
open PySem PySem.Spec PyProof.Rows L2
theorem call_isEdT {X : Cx} {a D d : Addr} {oe : Obj} {pn : List (Addr × Obj)} {bmB : List Value} {nid : String} (T : ExK X.K D bmB nid) (sp : PySem.W.specialIn X.K (.builtin "object.__class__") "__get__" = some (some (.builtin "getset_descriptor.__get__"))) (tk : PySem.W.takesIn X.K (.builtin "object.__class__") = some true)
    (hz : Zc (.ref D) (some d) oe) (hf : ∃ vs, oe.data = .fields vs) : CallR (X.suite a ((a, oe) :: pn)) (.builtin "isinstance") (fun xs H Q => (∃ fs, H d = some (.xd fs)) ∧ ∃ (tp : Addr) (cs : List V) (us : List Value) (b : Bool), xs = [.ref a, .ref tp] ∧ H tp = some (.tup cs) ∧ Paired ClsV cs us ∧ PySem.W.kitAny X.K (.ref D) us = some b ∧ Q (.bl b) H) := by
  intro pins s σ H xs us Q I r h
  obtain ⟨⟨fs, hd⟩, tp, cs, ws, b, rfl, hT, k, e, q⟩ := h
  obtain ⟨u1, u2, rfl, r1, r2⟩ := vals2 r
  cases (show u2 = Value.ref tp from r2)
  cases (show u1 = Value.ref a from r1)
  obtain ⟨_, its, rv, o, h1, h2, n, h3⟩ := (show ObjOk X.prog X.w H s.heap tp (.tup cs) from I.hok tp _ hT)
  obtain rfl := ClsV.all k rv
  obtain ⟨oc, od2, dt, sl⟩ := o
  simp only at h2 h3
  subst h2 h3
  obtain ⟨hget, _⟩ := I.pin (a, oe) (List.mem_append.mpr (.inl List.mem_cons_self))
  obtain ⟨vs, hv⟩ := hf
  have hx : ObjOk X.prog X.w H s.heap d (.xd fs) := I.hok d _ hd
  obtain ⟨mA, hns, rel⟩ := hx
  obtain ⟨od, ho, _⟩ := lookIn_ns hns
  obtain ⟨cd, hc, _⟩ := PySem.W.any_some T.hd
  have J : PySem.W.InstAt s.heap a oe D (some od) := ⟨hget, hz.1, by unfold PySem.W.notCls; rw [hv] <;> rfl, by rw [hz.2]; exact ho⟩
  exact PySem.W.kia_tup (PySem.W.kitx_exc (od := some od) (by rw [hc] <;> rfl) T.ga T.gg T.exC T.ha sp tk T.hm) I.kIn J h1 e (fun z => nomatch z) fun tk' => ⟨.bl b, H, I.tok tk', rfl, q⟩
theorem pss_only {X : Cx} {st : List Stmt} {p : Prop} {t : TS} (h : p → PSs X st t) : PSs X st (fun D σ H => p ∧ t D σ H) := ⟨fun pins s σ H D I q => (h q.1).run pins s σ H D I q.2⟩
theorem pss_no {X : Cx} {st : List Stmt} : PSs X st (fun _ _ _ => False) := ⟨fun _ _ _ _ _ _ q => q.elim⟩
def excBody : List Stmt → List Stmt
  | .Try _ (.ExceptHandler _ _ b _ :: _) _ _ _ :: _ => b
  | _ => []
/-- a suite told at the place where it is entered -/
def tsAt (X : Cx) (st : List Stmt) (a : Addr) (cls : Value) (d : Option Addr) : TS := fun D σ H => ∃ t, (∀ (oe : Obj) (pn : List (Addr × Obj)), L2N.Zn cls d oe → (∃ vs, oe.data = .fields vs) → PSs (X.suite a ((a, oe) :: pn)) st t) ∧ t D σ H
theorem tsAt_ok {X : Cx} {st : List Stmt} {a : Addr} {cls : Value} {d : Option Addr} {oe : Obj} {pn : List (Addr × Obj)} (hz : L2N.Zn cls d oe) (hf : ∃ vs, oe.data = .fields vs) : PSs (X.suite a ((a, oe) :: pn)) st (tsAt X st a cls d) :=
  ⟨fun pins s σ H D I q => (q.choose_spec.1 oe pn hz hf).run pins s σ H D I q.choose_spec.2⟩
theorem takesN0 {X : Cx} : L2N.Takes X (fun _ _ _ _ => False) := fun _ _ ⟨_, _, _, _, _, _, _, _, _, _, _, _, _, _, _, _, w⟩ => w.elim
end KX

set_option Elab.async false
set_option maxRecDepth 100000
set_option maxHeartbeats 2000000
/-! Defs called in an except suite that look at the exception itself: the promise is made for the pinned object p. -/
namespace KX
open PySem PySem.Spec PyProof.Rows L2 L2H
structure FnP0 (p : Addr × Obj) (P : Program) (w : World) (K : PySem.W.Frag) (mg : Str → Option Value) (base : Heap) (CX : CXT) (k : Nat) (f : Addr) (fd : FuncData) (ps : List Str) (sp : Sp) : Prop where
  len : ∀ vs H Q E, sp vs H Q E → vs.length = ps.length
  run : ∀ (A : Around) (outer : List Env) (s : Shared) (H : Hp) (args : Args) (us : List Value) (vs : List V) (Q : VK) (E : XK), RoomH k A → Hot1 A p → PinOk outer H s p → Env0 P w K mg base A outer s H → BindsTo s fd args (ps.zip us) → Vals vs us → sp vs H Q E →
    codeAny (model P w) A (.call (.ref f) args) (CR CX outer P w H s Q E) s
section
variable {p : Addr × Obj} {P : Program} {w : World} {K : PySem.W.Frag} {mg : Str → Option Value} {base : Heap} {CX : CXT} {k : Nat} {f : Addr} {x qual : Str} {params : Arguments} {body : List Stmt} {scope : Scope} {dvs : List V} {kws : List (Str × V)} {fd : FuncData} {N ps : List Str} {sp : Sp}
theorem fnP0_ok (F : FunD K x qual params body scope dvs kws f fd) (S : FnScope N ps scope) (len : ∀ vs H Q E, sp vs H Q E → vs.length = ps.length)
    (hb : ∀ (cdv : Value) (A : Around) (outer : List Env) (s : Shared) (H : Hp) (vs : List V) (Q : VK) (E : XK), Hot1 A p → RoomH k (A.deeper (envOfC qual scope s.heap.objs.size f cdv)) → sp vs H Q E →
      ∃ t, PSs (cxH CX P w K mg base N qual scope f cdv A outer s H E p) body t ∧ t { nx := fun _ H' => Q .non H', rt := Q } (start N vs) H) : FnP0 p P w K mg base CX (k + 1) f fd ps sp := by
  obtain ⟨oc, od, dV, kV, doc, pm, an, cdv, ct, osl, rfl, lk, hcd, _, _⟩ := F.ex
  refine ⟨len, fun A outer s H args us vs Q E hr hot hpin e0 bd r hsp => ?_⟩
  have hl := len _ _ _ _ hsp
  have KI : K.In s.heap := e0.mod.kin.keeps fun b o e => (e0.bs b o e).1
  have nl : s.heap.NoLimit := e0.mod.nolimit.keeps fun b o e => (e0.bs b o e).1
  have kinds : ∀ y ∈ ps.zip us, scope.names.lookup y.1 = some .local ∨ (scope.names.lookup y.1 = some .cell ∧ ((cellsFrom (s.heap.objs.size + 1) scope.names []).lookup y.1).isSome = true) := by
    rintro ⟨n, v⟩ hy
    exact (S.par n (List.of_mem_zip hy).1).imp id fun q => ⟨q, PySem.W.cellsFrom_some _ _ _ (.inl q)⟩
  refine codeAny_call_function hr.depth (KI _ _ lk) rfl S.co S.gen rfl (PySem.W.codeRec_of KI hcd) (bd _ _ _ _ ?_)
  refine wpAny_newFunctionEnv_cells S.kind kinds fun env he s1 xx => ?_
  subst he
  refine ⟨nl.keeps xx.toInCall.keep, codeAny_func ?_⟩
  obtain ⟨t, ht, hq⟩ := hb cdv A outer s H vs Q E hot (hr.deeper _) hsp
  have I : Inv (cxH CX P w K mg base N qual scope f cdv A outer s H E p) [] (L2.start N vs) H s1 := inv_startH S hpin e0 hl r xx
  refine wpAny_mono (ht.run [] s1 (L2.start N vs) H _ I hq) (fun fl s' hs => ?_) fun e s' hs => hs
  cases fl with
  | ret u =>
    obtain ⟨v, σ', H', J, rv, q⟩ := hs
    exact ⟨v, H', J.os, J.bare, J.base, J.hok, rv, q⟩
  | next =>
    obtain ⟨σ', H', J, q⟩ := hs
    exact ⟨V.non, H', J.os, J.bare, J.base, J.hok, rfl, q⟩
  | brk => exact False.elim hs.choose_spec.choose_spec.2
  | cont => exact False.elim hs.choose_spec.choose_spec.2
end
section
variable {X : Cx} {CX : CXT} {k : Nat} {f : Addr} {fd : FuncData} {ps : List Str} {sp : Sp} {E : L2.St → XK} {x : Str} {q pos : Pos} {e : Expr} {es : List Expr} {t : TA} {p : Addr × Obj}
theorem pe_callP0 (F : FnP0 p X.prog X.w X.K X.mg X.base CX k f fd ps sp) (hr : RoomH k X.A) (hot : Hot1 X.A p) (hp : p ∈ X.pn) (hg : Gl X x) (hm : X.mg x = some (.ref f)) (hk : PySem.W.keepIn X.K (.ref f) = true) (hb : Binds X.K fd ps []) (hx : ∀ σ, PassesAt CX X σ (E σ))
    (ha : PA X (e :: es) t) (hdb : (x == ("__debug__" : Str)) = false := by decide) (he : starEach (e :: es) X.env = (false, eval e X.env) :: starEach es X.env := by rfl) (hpl : (backTo pos (starEach es X.env)).any (·.1) = false := by rfl) :
    PE X (.Call (.Name x q) (e :: es) [] pos) (tCallS sp E t) := by
  refine ⟨fun pins s σ H Q I h => ?_⟩
  refine wpAny_Call_Name_kw (ld_glob I hg hm ?_ hdb)
  refine PySem.W.callWith_K (h₀ := X.base) I.ok.mod.kin hk (thn (ha.run pos pins s σ H _ I h) fun us s1 ⟨vs, H1, I1, r, hsp⟩ => ⟨I1.kIn, ?_⟩) he hpl
  have hl : us.length = ps.length := by rw [← r.length]; exact F.len _ _ _ _ hsp
  have b := hb s1 us I1.kIn (by rw [List.append_nil]; exact hl)
  rw [List.append_nil] at b
  have P1 := I1.pin p (List.mem_append_left _ hp)
  have hpin : PinOk X.stack H1 s1 p := ⟨P1.1, P1.2.1, fun hm => (List.mem_cons.mp (I1.stkSub p.1 hm)).elim P1.2.2.1 P1.2.2.2.1, P1.2.2.2.2⟩
  refine wpAny_call (codeAny_mono (F.run X.A X.stack s1 H1 ⟨us, []⟩ us vs Q (E σ) hr hot hpin I1.env0 b r hsp) fun r s' hq => ?_)
  cases r with
  | error e => exact hx σ pins H1 s1 e s' I1 hq
  | ok fl =>
    cases fl with
    | ret u => exact I1.after hq
    | next => exact False.elim hq
    | brk => exact False.elim hq
    | cont => exact False.elim hq
/-- isinstance of the pinned exception, of a class -/
theorem call_isEdG {a D d : Addr} {oe : Obj} {bmB : List Value} {nid : String} (hp : (a, oe) ∈ X.pn) (T : ExK X.K D bmB nid) (sp : PySem.W.specialIn X.K (.builtin "object.__class__") "__get__" = some (some (.builtin "getset_descriptor.__get__"))) (tk : PySem.W.takesIn X.K (.builtin "object.__class__") = some true)
    (hz : Zc (.ref D) (some d) oe) (hf : ∃ vs, oe.data = .fields vs) : CallR X (.builtin "isinstance") (fun xs H Q => (∃ fs, H d = some (.xd fs)) ∧ rIsE X.K D a xs H Q) := by
  intro pins s σ H xs us Q I r h
  obtain ⟨⟨fs, hd⟩, c, cv, b, rfl, hcv, e, q⟩ := h
  obtain ⟨u1, u2, rfl, rx, rt⟩ := vals2 r
  cases (show u1 = Value.ref a from rx)
  obtain rfl := hcv _ rt
  obtain ⟨hget, _⟩ := I.pin (a, oe) (List.mem_append_left _ hp)
  obtain ⟨vs, hv⟩ := hf
  obtain ⟨mA, hns, rel⟩ := (show ObjOk X.prog X.w H s.heap d (.xd fs) from I.hok d _ hd)
  obtain ⟨od, ho, _⟩ := lookIn_ns hns
  obtain ⟨cd, hc, _⟩ := PySem.W.any_some T.hd
  have J : PySem.W.InstAt s.heap a oe D (some od) := ⟨hget, hz.1, by unfold PySem.W.notCls; rw [hv] <;> rfl, by rw [hz.2]; exact ho⟩
  exact PySem.W.kia_one (PySem.W.kitx_exc (od := some od) (by rw [hc] <;> rfl) T.ga T.gg T.exC T.ha sp tk T.hm) I.kIn J e (fun z => nomatch z) fun tk' => ⟨.bl b, H, I.kept (t' := tk') fun _ _ z => z, rfl, q⟩
end
end KX

set_option Elab.async false
set_option maxRecDepth 100000
set_option maxHeartbeats 2000000
/-! What the written part says of an own exception class that stores: with its answers to isinstance and except. -/
namespace KX
open PySem PySem.Spec PyProof.Rows L2 He StX
structure Er (K : PySem.W.Frag) (c : Str) (bm : List Value) (nid : String) (flds : List Str) (own : List (Str × Bool)) (blt : List (String × Bool)) (exs : List (Str × Bool)) : Prop where
  T : ExK K (ga K c) bm nid
  X : XfC K (ga K c)
  ty : PySem.W.typeIn K (.ref (ga K c)) = some (.type "type")
  no : ∀ f ∈ flds, PySem.W.findIn K (.ref (ga K c)) f = some none
  iC : PySem.W.findIn K (.ref (ga K c)) "__init__" = some (some (.ref (ma K (ga K c) "__init__")))
  fn : PySem.W.isFn K (.ref (ma K (ga K c) "__init__")) = true
  kO : ∀ x ∈ own, PySem.W.kitOne K (.ref (ga K c)) (.ref (ga K x.1)) = some x.2
  kB : ∀ x ∈ blt, PySem.W.kitOne K (.ref (ga K c)) (.type x.1) = some x.2
  ex : ∀ x ∈ exs, PySem.W.exmOne K (.ref (ga K c)) (.ref (ga K x.1)) = some x.2
  sp : PySem.W.specialIn K (.builtin "object.__class__") "__get__" = some (some (.builtin "getset_descriptor.__get__"))
  tk : PySem.W.takesIn K (.builtin "object.__class__") = some true
def erB (K : PySem.W.Frag) (c : Str) (bm : List Value) (nid : String) (flds : List Str) (own : List (Str × Bool)) (blt : List (String × Bool)) (exs : List (Str × Bool)) : Bool :=
  let C := ga K c
  exkB K C bm nid && (xfB K C && (decide (PySem.W.typeIn K (.ref C) = some (.type "type")) && ((flds.all fun f => eqO (PySem.W.findIn K (.ref C) f) (some none)) && (eqO (PySem.W.findIn K (.ref C) "__init__") (some (some (.ref (ma K C "__init__")))) && (PySem.W.isFn K (.ref (ma K C "__init__"))
  && ((own.all fun x => decide (PySem.W.kitOne K (.ref C) (.ref (ga K x.1)) = some x.2)) && ((blt.all fun x => decide (PySem.W.kitOne K (.ref C) (.type x.1) = some x.2)) && ((exs.all fun x => decide (PySem.W.exmOne K (.ref C) (.ref (ga K x.1)) = some x.2))
  && (eqO (PySem.W.specialIn K (.builtin "object.__class__") "__get__") (some (some (.builtin "getset_descriptor.__get__"))) && decide (PySem.W.takesIn K (.builtin "object.__class__") = some true))))))))))
theorem er_of {K : PySem.W.Frag} {c : Str} {bm : List Value} {nid : String} {flds : List Str} {own : List (Str × Bool)} {blt : List (String × Bool)} {exs : List (Str × Bool)} (h : erB K c bm nid flds own blt exs = true) : Er K c bm nid flds own blt exs := by
  unfold erB at h
  obtain ⟨h1, h⟩ := Bool.and_eq_true_iff.mp h
  obtain ⟨h2, h⟩ := Bool.and_eq_true_iff.mp h
  obtain ⟨h3, h⟩ := Bool.and_eq_true_iff.mp h
  obtain ⟨h4, h⟩ := Bool.and_eq_true_iff.mp h
  obtain ⟨h5, h⟩ := Bool.and_eq_true_iff.mp h
  obtain ⟨h6, h⟩ := Bool.and_eq_true_iff.mp h
  obtain ⟨h7, h⟩ := Bool.and_eq_true_iff.mp h
  obtain ⟨h8, h⟩ := Bool.and_eq_true_iff.mp h
  obtain ⟨h9, h⟩ := Bool.and_eq_true_iff.mp h
  obtain ⟨h10, h11⟩ := Bool.and_eq_true_iff.mp h
  exact ⟨exkB_ok h1, xfB_ok h2, of_decide_eq_true h3, fun f hf => eqO_ok (List.all_eq_true.mp h4 f hf), eqO_ok h5, h6, fun x hx => of_decide_eq_true (List.all_eq_true.mp h7 x hx), fun x hx => of_decide_eq_true (List.all_eq_true.mp h8 x hx),
    fun x hx => of_decide_eq_true (List.all_eq_true.mp h9 x hx), eqO_ok h10, of_decide_eq_true h11⟩
end KX

set_option Elab.async false
set_option maxRecDepth 100000
set_option maxHeartbeats 0
namespace K31
open PySem PySem.Spec PyProof.Rows L2 He KX
def top (i : Nat) : Stmt := PySem.Challenge.pw_rowsinplace_k31_whole_bounds_that_follow.main.body.getD i (.Pass ⟨0, 0, 0, 0⟩)
def vT : List Value := [.type "ValueError", .type "Exception", .type "BaseException", .type "object"]
def frees : List Str := ["isinstance", "int", "bool", "str", "len", "all", "tuple", "list", "enumerate", "sum", "abs", "range", "max", "min", "dict", "any"]
def gls : List Str := (["PlaceError", "BadBound", "Bounds", "is_integer", "is_name", "opposite", "is_bound", "_solved", "_ring"] : List Str) ++ (["_law_bag", "_law_draw", "_law_of", "_law_name", "_law_names", "_law_numbers", "_law_system", "_law_roads", "_law_pairs", "law"] : List Str)
abbrev ErBB (K : PySem.W.Frag) : Prop := Er K "BadBound" vT "ValueError.__new__" ["index"] [("PlaceError", true)] [] [("BadBound", true)]
def meths : List Str := ["least", "ring", "__contains__", "__add__", "__len__"]
def bndB (K : PySem.W.Frag) : Bool :=
  let C := ga K "Bounds"
  (Fa.mkr "Bounds").ok K && ((Fa.cls "Bounds").ok K && ((Fa.noat "Bounds" "_bounds").ok K && ((meths.all fun m => (Fa.meth "Bounds" m).ok K)
  && (decide (PySem.W.kitOne K (.ref C) (.ref C) = some true) && (decide (PySem.W.kitOne K (.type "list") (.ref C) = some false)
  && (PySem.W.selfFirst K C && (eqO (PySem.W.findIn K (.ref C) (PySem.dunder "add")) (some (some (.ref (ma K C "__add__")))) && (eqO (PySem.W.findIn K (.ref C) (dunderR "add")) (some none)
  && (eqO (PySem.W.findIn K (.type "tuple") (PySem.dunder "add")) (some (some (.builtin "tuple.__add__"))) && (eqO (PySem.W.findIn K (.type "tuple") (dunderR "add")) (some none) && (decide (PySem.W.subIn K (.type "tuple") (.ref C) = some false)
  && (eqO (PySem.W.findIn K (.ref C) "__class__") (some (some (.builtin "object.__class__"))) && (decide (PySem.W.mroIn K C (.type "object") = some true) && PySem.W.isFn K (.ref (ma K C "__add__")))))))))))))))
def chk (K : PySem.W.Frag) : Bool := erB K "BadBound" vT "ValueError.__new__" ["index"] [("PlaceError", true)] [] [("BadBound", true)] && (bndB K && ((Fa.str "ZERO" "zero").ok K && ((frees.all fun x => (Fa.free x).ok K) && (gls.all fun x => (Fa.glo x).ok K))))
def methD (i j : Nat) (c m : Str) : DefD := ⟨(c, some m), m, c ++ "." ++ m, defArgs (inClass (top i) j), defBody (inClass (top i) j), defScope (inClass (top i) j), [], []⟩
def initD (i : Nat) (c : Str) : DefD := ⟨(c, some "__init__"), "__init__", c ++ ".__init__", defArgs (inClass (top i) 0), defBody (inClass (top i) 0), defScope (inClass (top i) 0), [], []⟩
def fnD (i : Nat) (x : Str) : DefD := ⟨(x, none), x, x, defArgs (top i), defBody (top i), defScope (top i), [], []⟩
def fn : List DefD := [fnD 1 "is_integer", fnD 2 "is_name", initD 5 "BadBound", initD 8 "Bounds", fnD 9 "opposite", fnD 10 "is_bound", fnD 11 "_solved", fnD 12 "_ring", fnD 14 "_law_bag", fnD 15 "_law_draw", fnD 16 "_law_of", fnD 17 "_law_name", fnD 18 "_law_names", fnD 19 "_law_numbers", fnD 20 "_law_system", fnD 21 "_law_roads", fnD 22 "_law_pairs", fnD 23 "law", methD 8 1 "Bounds" "least", methD 8 2 "Bounds" "ring", methD 8 3 "Bounds" "__contains__", methD 8 4 "Bounds" "__add__", methD 8 5 "Bounds" "__len__"]
abbrev R : PySem.W.OpenRow := PySem.W.OpenLaw.row PySem.Challenge.rw_rowsinplace_k31_whole_bounds_that_follow
abbrev hk : PySem.W.Hook := hookX 4 chk fn
def ob (s : PySem.W.SharedT) : Bool × List FnW := lookX 4 chk fn (HandSHeadRun.getT s)
theorem ob_eq (s : PySem.W.SharedT) : ob s = hk.obs s.abs := lookX_eq (HandSHeadRun.getT_eq s)
def loose : List Str := (["PlaceError", "BadBound", "Bounds", "is_integer", "is_name", "opposite", "is_bound", "_solved", "_ring", "ZERO"] : List Str) ++ (["_law_bag", "_law_draw", "_law_of", "_law_name", "_law_names", "_law_numbers", "_law_system", "_law_roads", "_law_pairs"] : List Str)
theorem run (w : World) : HandSHeadRun.RunEq R (PySem.W.view R.prog [23]) hk ob 20000 loose w := by
  intro os
  kernel_rfl
end K31

set_option Elab.async false
set_option maxRecDepth 100000
set_option maxHeartbeats 2000000
namespace K31
open PySem PySem.Spec PyProof.Rows L2 KX
abbrev sBag : Stmt := top 14
abbrev sDraw : Stmt := top 15
abbrev sOf : Stmt := top 16



abbrev sLaw : Stmt := top 23
abbrev FnP (K : PySem.W.Frag) (x : Str) (st : Stmt) (f : Addr) (fd : FuncData) : Prop := FunD K x x (defArgs st) (defBody st) (defScope st) [] [] f fd
section
variable {P : Program} {w : World} {K : PySem.W.Frag} {mg : Str → Option Value} {base : Heap}
theorem scBag : FnScope ["script", "at", "cell", "digits"] ["script", "at"] (defScope sBag) := ⟨rfl, rfl, rfl, by decide +kernel, rfl, by decide +kernel, by decide +kernel⟩
theorem ok_bag {f : Addr} {fd : FuncData} (F : FnP K "_law_bag" sBag f fd) (gLen : mg "len" = none) (gAbs : mg "abs" = none) (gInt : mg "int" = none) : FnOk P w K mg base CX0 1 f fd ["script", "at"] (spBag K) := by
  refine F.ok scBag (fun vs H Q E h => ?_) (fun cdv A outer s H vs Q E hr h => ?_)
  · obtain ⟨a, ns, i, rfl, _⟩ := h
    rfl
  · obtain ⟨a, ns, i, rfl, hS, hl, hi, k⟩ := h
    refine ⟨_, PSs.nox (pss_cons (ps_set (i := 2) scBag.nd rfl (Or.inl rfl) (pe_ifExp (pt_cmpR op_lt (pv 1) (pe_callB call_len_seq (by rfl) gLen PySem.boot_len (pa_cons (pv 0) pa_nil)) (nomark _)) (pe_ix ix_list (pv 0) (pv 1) (fun _ _ => rfl)) pe_int))
      (pss_cons (ps_set (i := 3) scBag.nd rfl (Or.inl rfl) (pe_ifExp (pt_cmpR op_ge (pe_callB call_abs (by rfl) gAbs (by decide +kernel) (pa_cons (pv 2) pa_nil)) (pe_op op_pow pe_int pe_int) (nomark _)) (pe_callB call_abs (by rfl) gAbs (by decide +kernel) (pa_cons (pv 2) pa_nil)) pe_int))
      (pss_one (ps_ret (pe_lst (pa_cons (pv 3) (pa_cons (pe_op op_add (pe_op op_add (pe_op op_modN (pe_callTy call_int1 (by rfl) gInt (by decide +kernel) (pa_cons (pv 2) pa_nil)) pe_int) (pe_op op_mul pe_int (pv 1))) pe_int) (pa_cons pe_int pa_nil)))))))), ?_⟩
    have fin : ∀ (d z : Int), 0 ≤ d → ∀ (p : Addr), H p = none → Q (.ref p) (upd H p (.lst [.int d, .int (z.fmod 1152921504606846883 + 7001 * (i : Int) + 17), .int 0])) := by
      intro d z hd p hp
      obtain ⟨h1, h2⟩ := fmod_in (x := z) (y := 1152921504606846883) (by decide)
      exact k p _ hp (Kept.new hp) (fun x n => upd_ne n) ⟨d, _, 0, upd_same, hd, by omega, by omega, by decide, by decide⟩
    refine ⟨_, rfl, _, rfl, _, _, rfl, .inl hS, _, _, rfl, rfl, _, rfl, ?_⟩
    refine ite2 (fun c => ?_) (fun c => ?_)
    · have ci : i < ns.length := by
        have c' : (i : Int) < ((ns.map V.int).length : Int) := of_decide_eq_true c
        rw [List.length_map] at c'
        omega
      have hx : (ns.map V.int)[i]? = some (.int ns[i]) := by
        rw [List.getElem?_map, List.getElem?_eq_getElem ci]
        rfl
      refine ⟨_, rfl, _, rfl, _, _, _, _, rfl, rfl, hS, atI_nat hx, ?_⟩
      refine ⟨_, rfl, _, rfl, _, _, rfl, rfl, ⟨by decide, by decide, by decide⟩, _, _, rfl, rfl, _, rfl, ?_⟩
      refine ite2 (fun c2 => ?_) (fun c2 => ?_)
      · refine ⟨_, rfl, _, rfl, _, rfl, _, rfl, .inl ⟨_, rfl, _, _, rfl, rfl, (by show (1152921504606846883 : Int) ≠ 0; decide), _, rfl, _, _, rfl, rfl, .inl ⟨by decide, by decide⟩, _, _, rfl, rfl, _, _, rfl, rfl, ?_⟩⟩
        exact ⟨(by show 3 ≤ sizeLine; decide), fun p hp => fin _ _ (by split <;> omega) p hp⟩
      · refine ⟨_, rfl, _, rfl, .inl ⟨_, rfl, _, _, rfl, rfl, (by show (1152921504606846883 : Int) ≠ 0; decide), _, rfl, _, _, rfl, rfl, .inl ⟨by decide, by decide⟩, _, _, rfl, rfl, _, _, rfl, rfl, ?_⟩⟩
        exact ⟨(by show 3 ≤ sizeLine; decide), fun p hp => fin _ _ (by decide) p hp⟩
    · refine ⟨_, rfl, _, rfl, _, _, rfl, rfl, ⟨by decide, by decide, by decide⟩, _, _, rfl, rfl, _, rfl, ?_⟩
      refine ite2 (fun c2 => ?_) (fun c2 => ?_)
      · refine ⟨_, rfl, _, rfl, _, rfl, _, rfl, .inl ⟨_, rfl, _, _, rfl, rfl, (by show (1152921504606846883 : Int) ≠ 0; decide), _, rfl, _, _, rfl, rfl, .inl ⟨by decide, by decide⟩, _, _, rfl, rfl, _, _, rfl, rfl, ?_⟩⟩
        exact ⟨(by show 3 ≤ sizeLine; decide), fun p hp => fin _ _ (by split <;> omega) p hp⟩
      · refine ⟨_, rfl, _, rfl, .inl ⟨_, rfl, _, _, rfl, rfl, (by show (1152921504606846883 : Int) ≠ 0; decide), _, rfl, _, _, rfl, rfl, .inl ⟨by decide, by decide⟩, _, _, rfl, rfl, _, _, rfl, rfl, ?_⟩⟩
        exact ⟨(by show 3 ≤ sizeLine; decide), fun p hp => fin _ _ (by decide) p hp⟩
/-- if bag[0] > 0: a digit; else the next mixed number -/
theorem scDraw : FnScope ["bag", "many", "digit", "mixed"] ["bag", "many"] (defScope sDraw) := ⟨rfl, rfl, rfl, by decide +kernel, rfl, by decide +kernel, by decide +kernel⟩
theorem ok_draw {f : Addr} {fd : FuncData} (F : FnP K "_law_draw" sDraw f fd) (gInt : mg "int" = none) : FnOk P w K mg base CX0 1 f fd ["bag", "many"] spDraw := by
  refine F.ok scDraw (fun vs H Q E h => ?_) (fun cdv A outer s H vs Q E hr h => ?_)
  · obtain ⟨b, n, many, rfl, _⟩ := h
    rfl
  · obtain ⟨b, n, many, rfl, ⟨d, m, c, hb, hd, hm0, hm, hc0, hc⟩, hn, hp, hw, k⟩ := h
    refine ⟨_, PSs.nox (pss_cons (ps_if (pt_cmpR op_gt (pe_ix ix_list (pv 0) pe_int (fun _ _ => rfl)) pe_int (nomark _))
        (pss_cons (ps_set (i := 2) scDraw.nd rfl (Or.inl rfl) (pe_op op_modN (pe_callTy call_int1 (by rfl) gInt (by decide +kernel) (pa_cons (pe_ix ix_list (pv 0) pe_int (fun _ _ => rfl)) pa_nil)) (pv 1)))
        (pss_cons (ps_asg (pe_op op_fdivW (pe_ix ix_list (pv 0) pe_int (fun _ _ => rfl)) (pv 1)) (pg_sub (pv 0) pe_int set_list))
        (pss_one (ps_ret (pv 2)))))
        pss_nil)
      (pss_cons (ps_asg (pe_op op_add (pe_ix ix_list (pv 0) pe_int (fun _ _ => rfl)) pe_int) (pg_sub (pv 0) pe_int set_list))
      (pss_cons (ps_set (i := 3) scDraw.nd rfl (Or.inl rfl) (pe_op op_add (pe_op op_pow (pe_op op_add (pe_ix ix_list (pv 0) pe_int (fun _ _ => rfl)) (pe_op op_mul pe_int (pe_ix ix_list (pv 0) pe_int (fun _ _ => rfl)))) pe_int) (pe_op op_mul pe_int (pe_ix ix_list (pv 0) pe_int (fun _ _ => rfl)))))
      (pss_cons (ps_set (i := 3) scDraw.nd rfl (Or.inl rfl) (pe_op op_modN (pe_callTy call_int1 (by rfl) gInt (by decide +kernel) (pa_cons (pv 3) pa_nil)) pe_int))
      (pss_cons (ps_set (i := 3) scDraw.nd rfl (Or.inl rfl) (pe_op op_modN (pe_callTy call_int1 (by rfl) gInt (by decide +kernel) (pa_cons (pe_op op_pow (pe_op op_add (pv 3) (pe_op op_mul pe_int (pe_ix ix_list (pv 0) pe_int (fun _ _ => rfl)))) pe_int) pa_nil)) pe_int))
      (pss_one (ps_ret (pe_op op_modN (pe_callTy call_int1 (by rfl) gInt (by decide +kernel) (pa_cons (pe_op op_fdivN (pv 3) pe_int) pa_nil)) (pv 1))))))))), ?_⟩
    refine ⟨_, rfl, _, _, _, _, rfl, rfl, SqL.of hb, rfl, _, _, rfl, rfl, _, rfl, ?_⟩
    refine ite2 (fun c0 => ?_) (fun c0 => ?_)
    · obtain ⟨f1, f2⟩ := fmod_in (x := d) hp
      refine ⟨_, rfl, _, _, _, _, rfl, rfl, SqL.of hb, rfl, .inl ⟨_, rfl, _, rfl, _, _, rfl, rfl, (by show many ≠ 0; omega), ?_⟩⟩
      refine ⟨_, rfl, _, _, _, _, rfl, rfl, SqL.of hb, rfl, _, rfl, _, _, rfl, rfl, wide_div hp hw (by decide) (by decide), _, rfl, b, _, 0, _, rfl, rfl, hb, rfl, _, rfl, ?_⟩
      refine k _ _ f1 f2 (fun x nx => upd_ne nx) ⟨d / many, m, c, upd_same, Int.ediv_nonneg hd (by omega), hm0, hm, hc0, by omega⟩
    · refine ⟨_, rfl, _, _, _, _, rfl, rfl, SqL.of hb, rfl, _, _, rfl, rfl, _, rfl, b, _, 2, _, rfl, rfl, hb, rfl, ?_⟩
      have hb2 : upd H b (.lst [.int d, .int m, .int (c + 1)]) b = some (.lst [.int d, .int m, .int (c + 1)]) := upd_same
      refine ⟨_, rfl, _, _, _, _, rfl, rfl, SqL.of hb2, rfl, _, rfl, _, _, _, _, rfl, rfl, SqL.of hb2, rfl, _, _, rfl, rfl, .inl ⟨by decide, by decide⟩, _, _, rfl, rfl, _, _, rfl, rfl, draw_pow hm0 hm hc0 (by omega), ?_⟩
      refine ⟨_, rfl, _, _, _, _, rfl, rfl, SqL.of hb2, rfl, _, _, rfl, rfl, .inl ⟨by decide, by decide⟩, _, _, rfl, rfl, ?_⟩
      refine ⟨_, rfl, .inl ⟨_, rfl, _, _, rfl, rfl, (by show (1152921504606846869 : Int) ≠ 0; decide), ?_⟩⟩
      refine ⟨_, rfl, _, rfl, _, _, _, _, rfl, rfl, SqL.of hb2, rfl, _, _, rfl, rfl, .inl ⟨by decide, by decide⟩, _, _, rfl, rfl, _, _, rfl, rfl, draw_pow3 (fmod_in (by decide)).1 (fmod_in (by decide)).2 hc0 (by omega), .inl ⟨_, rfl, _, _, rfl, rfl, (by show (2305843009213693951 : Int) ≠ 0; decide), ?_⟩⟩
      refine ⟨_, rfl, _, _, rfl, rfl, ⟨by decide, by decide⟩, .inl ⟨_, rfl, _, rfl, _, _, rfl, rfl, (by show many ≠ 0; omega), ?_⟩⟩
      exact k _ _ (fmod_in hp).1 (fmod_in hp).2 (fun x nx => upd_ne nx) ⟨d, m, c + 1, upd_same, hd, hm0, hm, by omega, by omega⟩
theorem scOf : FnScope ["bag", "some"] ["bag", "some"] (defScope sOf) := ⟨rfl, rfl, rfl, by decide +kernel, rfl, by decide +kernel, by decide +kernel⟩
theorem ok_of {f fD : Addr} {fd fdD : FuncData} (F : FnP K "_law_of" sOf f fd) (FD : FnP K "_law_draw" sDraw fD fdD) (gD : mg "_law_draw" = some (.ref fD)) (gLen : mg "len" = none) (gInt : mg "int" = none) : FnOk P w K mg base CX0 2 f fd ["bag", "some"] (spOf K) := by
  have GD : FnOk P w K mg base CX0 1 fD fdD ["bag", "many"] spDraw := ok_draw FD gInt
  have bD : Binds K fdD ["bag", "many"] [] := FD.bindsN fun _ _ _ _ _ _ us hl => match us, hl with | [_, _], _ => rfl
  refine F.ok scOf (fun vs H Q E h => ?_) (fun cdv A outer s H vs Q E hr h => ?_)
  · obtain ⟨b, l, n, xs, rfl, _⟩ := h
    rfl
  · obtain ⟨b, l, n, xs, rfl, hB, hn, nlb, hS, h0, h1, k⟩ := h
    refine ⟨_, PSs.nox (pss_one (ps_ret (pe_ix ix_list (pv 1) (pe_call GD hr rfl gD FD.kp bD .nil pass0 (pa_cons (pv 0) (pa_cons (pe_callB call_len_seq (by rfl) gLen PySem.boot_len (pa_cons (pv 1) pa_nil)) pa_nil))) (fun _ _ => rfl)))), ?_⟩
    refine ⟨_, rfl, _, rfl, _, rfl, _, _, rfl, .inl hS, b, n, _, rfl, hB, hn, by omega, ?_, fun r H' r0 r1 hk hB' => ?_⟩
    · have e : ((xs.length : Nat) : Int).natAbs = xs.length := by simp
      rw [e]
      exact Nat.lt_of_le_of_lt h1 (by decide)
    · obtain ⟨i, rfl⟩ : ∃ i : Nat, r = i := ⟨r.toNat, by omega⟩
      have hi : i < xs.length := by omega
      have hx : xs[i]? = some xs[i] := List.getElem?_eq_getElem hi
      exact ⟨_, _, _, _, rfl, rfl, hk.kept.seq nlb hS, atI_nat hx, k i _ H' hx hk hB'⟩
end
end K31

set_option Elab.async false
set_option maxRecDepth 100000
set_option maxHeartbeats 2000000
namespace K31
open PySem PySem.Spec PyProof.Rows L2 KX
abbrev sInt : Stmt := top 1
abbrev sName : Stmt := top 2
abbrev sOpp : Stmt := top 9
abbrev sBound : Stmt := top 10
section
variable {P : Program} {w : World} {K : PySem.W.Frag} {mg : Str → Option Value} {base : Heap}
theorem scInt : FnScope ["thing"] ["thing"] (defScope sInt) := ⟨rfl, rfl, rfl, by decide +kernel, rfl, by decide +kernel, by decide +kernel⟩
theorem ok_int {f : Addr} {fd : FuncData} (F : FnP K "is_integer" sInt f fd) (gI : mg "isinstance" = none) (gInt : mg "int" = none) (gB : mg "bool" = none) : FnOk P w K mg base CX0 1 f fd ["thing"] (spInt K) := by
  refine F.ok scInt (fun vs H Q E h => ?_) (fun cdv A outer s H vs Q E hr h => ?_)
  · obtain ⟨x, t, rfl, _⟩ := h
    rfl
  · obtain ⟨x, d, rfl, hk, k⟩ := h
    refine ⟨_, PSs.nox (pss_one (ps_ret (pe_and (pe_callB call_isi (by rfl) gI (by decide +kernel) (pa_cons (pv 0) (pa_cons (pe_bltn (v := .ty "int") (by rfl) gInt (by decide +kernel) rfl) pa_nil)))
      (pe_one (pe_not (pe_callB call_isi (by rfl) gI (by decide +kernel) (pa_cons (pv 0) (pa_cons (pe_bltn (v := .ty "bool") (by rfl) gB (by decide +kernel) rfl) pa_nil)))))))), ?_⟩
    refine ⟨_, rfl, _, _, _, _, _, rfl, .ty _, dp_ty hk, kit_int d, _, rfl, ite2' (fun c => ?_) (fun c => ?_)⟩
    · refine ⟨_, rfl, _, _, _, _, _, rfl, .ty _, dp_ty hk, kit_bool d, _, rfl, ?_⟩
      cases d <;> first | exact k | exact absurd c Bool.false_ne_true
    · have e : isIntD d = false := by cases d <;> first | rfl | exact absurd c.symm Bool.false_ne_true
      rw [← e]
      exact k
theorem scName : FnScope ["thing", "letter"] ["thing"] (defScope sName) := ⟨rfl, rfl, rfl, by decide +kernel, rfl, by decide +kernel, by decide +kernel⟩
theorem ok_name {f : Addr} {fd : FuncData} (F : FnP K "is_name" sName f fd) (gI : mg "isinstance" = none) (gS : mg "str" = none) (gL : mg "len" = none) (gA : mg "all" = none) : FnOk P w K mg base CX0 1 f fd ["thing"] (spName K) := by
  refine F.ok scName (fun vs H Q E h => ?_) (fun cdv A outer s H vs Q E hr h => ?_)
  · obtain ⟨x, t, rfl, _⟩ := h
    rfl
  · obtain ⟨x, d, rfl, hk, ho, k⟩ := h
    have nd := scName.nd
    refine ⟨_, PSs.nox (pss_cons (ps_if (PW.pt (pw_or (pt_not (pt_val (pe_callB call_isi (by rfl) gI (by decide +kernel) (pa_cons (pv 0) (pa_cons (pe_bltn (v := .ty "str") (by rfl) gS (by decide +kernel) rfl) pa_nil)))))
        (pw_or (pt_cmpR op_lt (pe_callB call_len_str (by rfl) gL PySem.boot_len (pa_cons (pv 0) pa_nil)) pe_int (nomark _)) (pw_or1 (pt_cmpR op_gt (pe_callB call_len_str (by rfl) gL PySem.boot_len (pa_cons (pv 0) pa_nil)) pe_int (nomark _)))))) (pss_one (ps_ret pe_bl)) pss_nil)
      (pss_one (ps_ret (pe_callB (cr_all rfl) (by rfl) gA (by decide +kernel) (pa_cons (pe_lc (own := [("letter", 1)]) (g := gName 1) (tt := tYes) rfl nd (pi_str (pv 0)) (blkOk_by (own := [("letter", 1)]) (N := ["thing", "letter"]) (sc := defScope sName) (by decide +kernel))
        (fun _ _ _ _ _ => pg_name (i := 1) nd rfl (Or.inl rfl)) (fun _ _ _ _ _ => pts_nil) (fun _ _ _ _ _ => pe_chain op_le_str op_le_str pe_str (pv 1) pe_str)) pa_nil))))), ?_⟩
    refine ⟨_, rfl, _, _, _, _, _, rfl, .ty _, dp_ty hk, kit_str d, _, rfl, ?_⟩
    by_cases hs : isStrD d = true
    · obtain ⟨z, rfl⟩ : ∃ z, d = .str z := by cases d <;> first | exact ⟨_, rfl⟩ | cases hs
      have hz := ho z rfl
      cases hk with
      | str =>
        have hzl : z.length ≤ sizeLine := by rw [sizeLine_eq]; omega
        refine ⟨_, rfl, _, rfl, hzl, _, _, rfl, rfl, _, rfl, ite2' (fun c1 => ?_) (fun c1 => ?_)⟩
        · have e := nm_short (z := z) (by have := of_decide_eq_true c1; omega)
          have q := k H (Same.refl H)
          rw [show nmD (.str z) = isNm z from rfl, e] at q
          exact q
        · have n1 : ¬ z.length < 1 := by have := of_decide_eq_false c1; omega
          refine ⟨_, rfl, _, rfl, hzl, _, _, rfl, rfl, _, rfl, ite2' (fun c2 => ?_) (fun c2 => ?_)⟩
          · have e := nm_long (z := z) (by have := of_decide_eq_true c2; omega)
            have q := k H (Same.refl H)
            rw [show nmD (.str z) = isNm z from rfl, e] at q
            exact q
          · have n2 : ¬ z.length > 8 := by have := of_decide_eq_false c2; omega
            refine ⟨_, rfl, z, rfl, fun D nD => ?_⟩
            refine lc_it (walk_str (z := z)) (fun i G => G D = some (.lst (((z.cps.toList.take i).map isLet).map V.bl)) ∧ Same H G) ⟨upd_same, same_put nD⟩ (fun _ _ _ _ => trivial) ?_ ?_
            · rintro i x G' G hi ⟨hD, s1⟩ ⟨rfl, c, hc, rfl⟩
              refine ⟨rfl, ?_⟩
              dsimp only [tYes]
              rw [if_pos rfl]
              have hcl : z.cps.toList[i]? = some c := by rw [Array.getElem?_toList]; exact hc
              have fin : ∃ acc, G D = some (.lst acc) ∧ acc.length < sizeLine ∧ ((upd G D (.lst (acc ++ [V.bl (isLet c)]))) D = some (.lst (((z.cps.toList.take (i + 1)).map isLet).map V.bl)) ∧ Same H (upd G D (.lst (acc ++ [V.bl (isLet c)])))) := by
                refine ⟨_, hD, ?_, ?_, fun y o e => ?_⟩
                · rw [List.length_map, List.length_map, List.length_take, sizeLine_eq]
                  have e1 : z.cps.toList.length ≤ 1000 := by rw [Array.length_toList]; exact hz
                  exact Nat.lt_of_le_of_lt (Nat.min_le_right _ _) (by omega)
                · rw [upd_same, take_at hcl, List.map_append, List.map_append]
                  rfl
                · rw [upd_ne (ne_of_none e nD)]
                  exact s1 _ _ e
              refine ⟨_, rfl, _, _, rfl, rfl, _, rfl, ?_⟩
              rw [lo_let]
              refine ite2' (fun c3 => ?_) (fun c3 => ?_)
              · refine ⟨_, _, rfl, rfl, ?_⟩
                rw [hi_let]
                have e : decide (c ≤ 122) = isLet c := by
                  unfold isLet
                  rw [c3]
                  rfl
                rw [e]
                exact fin
              · have e : isLet c = false := by
                  unfold isLet
                  rw [c3]
                  rfl
                rw [e] at fin
                exact fin
            · rintro G ⟨hD, s1⟩
              have hsz : z.cps.toList.take z.cps.size = z.cps.toList := by rw [← Array.length_toList, List.take_length]
              rw [hsz] at hD
              refine ⟨D, z.cps.toList.map isLet, rfl, SqL.of hD, ?_⟩
              have q := k G s1
              rw [show nmD (.str z) = isNm z from rfl, nm_mid n1 n2] at q
              have e : (z.cps.toList.map isLet).all id = z.cps.toList.all isLet := by rw [List.all_map]; rfl
              rw [e]
              exact q
    · have e : isStrD d = false := Bool.eq_false_iff.mpr hs
      rw [e]
      have q := k H (Same.refl H)
      rw [nm_off e] at q
      exact q
end
end K31

set_option Elab.async false
set_option maxRecDepth 100000
set_option maxHeartbeats 2000000
/-! Drawn names: what is promised of them, and their texts. -/
namespace KX
open PySem PySem.Spec PyProof.Rows L2
abbrev tlc (z : Str) : List Nat := z.cps.toList
theorem tlc_len (z : Str) : (tlc z).length = z.length := Array.length_toList
theorem tlc_app (x y : Str) : tlc (x ++ y) = tlc x ++ tlc y := Array.toList_append
theorem nm_inv {z : Str} (h : isNm z = true) : 1 ≤ z.length ∧ z.length ≤ 8 ∧ ∀ c ∈ tlc z, isLet c = true := by
  unfold isNm at h
  obtain ⟨h, h3⟩ := Bool.and_eq_true_iff.mp h
  obtain ⟨h1, h2⟩ := Bool.and_eq_true_iff.mp h
  exact ⟨of_decide_eq_true h1, of_decide_eq_true h2, List.all_eq_true.mp h3⟩
theorem nm_of {z : Str} (h1 : 1 ≤ z.length) (h2 : z.length ≤ 8) (h3 : ∀ c ∈ tlc z, isLet c = true) : isNm z = true := by
  unfold isNm
  rw [decide_eq_true h1, decide_eq_true h2, List.all_eq_true.mpr h3]
  rfl
theorem join0 : ∀ zs : List Nat, tlc (Str.join ⟨#[]⟩ (zs.map fun c => (⟨#[c]⟩ : Str))) = zs
  | [] => rfl
  | [c] => rfl
  | c :: d :: r => by
    have ih := join0 (d :: r)
    show tlc ((⟨#[c]⟩ : Str) ++ ⟨#[]⟩ ++ Str.join ⟨#[]⟩ ((d :: r).map fun c => (⟨#[c]⟩ : Str))) = _
    rw [tlc_app, tlc_app, ih]
    rfl
theorem letters_at : ∀ {j : Nat}, j < 26 → (("abcdefghijklmnopqrstuvwxyz" : Str)).cps.toList[j]? = some (97 + j) := by
  intro j h
  rw [letters_eq]
  have z : ∀ k : Fin 26, ([97, 98, 99, 100, 101, 102, 103, 104, 105, 106, 107, 108, 109, 110, 111, 112, 113, 114, 115, 116, 117, 118, 119, 120, 121, 122] : List Nat)[k.val]? = some (97 + k.val) := by decide
  exact z ⟨j, h⟩
theorem let_at {j : Nat} (h : j < 26) : isLet (97 + j) = true := by
  unfold isLet
  rw [decide_eq_true (by omega), decide_eq_true (by omega)]
  rfl
theorem inV_str (z : Str) (zs : List Str) : inV (.str z) (zs.map V.str) = decide (z ∈ zs) := by
  unfold inV
  rw [List.any_map]
  by_cases h : z ∈ zs
  · rw [decide_eq_true h]
    exact List.any_eq_true.mpr ⟨z, h, by show (z == z) = true; exact beq_self_eq_true z⟩
  · rw [decide_eq_false h]
    refine List.any_eq_false.mpr fun y hy => ?_
    show ¬ (y == z) = true
    rw [beq_iff_eq]
    rintro rfl
    exact h hy
theorem flat_strs (zs : List Str) : (zs.map V.str).all flatV = true := by
  rw [List.all_map]
  exact List.all_eq_true.mpr fun _ _ => rfl
theorem cutS_to {z : Str} {i : Nat} (h : i ≤ z.length) : tlc (cutS z none (some (i : Int))) = (tlc z).take i := by
  unfold cutS tlc
  rw [HT.sIx_none, HT.sIx_nat, List.drop_zero, Nat.min_eq_left h, Nat.sub_zero]
theorem cutS_from {z : Str} {i : Nat} (h : i ≤ z.length) : tlc (cutS z (some (i : Int)) none) = (tlc z).drop i := by
  unfold cutS tlc
  rw [HT.sIx_none, HT.sIx_nat, Nat.min_eq_left h]
  refine List.take_of_length_le ?_
  rw [List.length_drop, Array.length_toList]
  exact Nat.le_refl _
theorem nm_splice {one : Str} {at_ c : Nat} (h : isNm one = true) (ha : at_ < one.length) (hc : isLet c = true) : isNm (cutS one none (some (at_ : Int)) ++ ⟨#[c]⟩ ++ cutS one (some ((at_ : Int) + 1)) none) = true := by
  obtain ⟨h1, h2, h3⟩ := nm_inv h
  have e : tlc (cutS one none (some (at_ : Int)) ++ ⟨#[c]⟩ ++ cutS one (some ((at_ : Int) + 1)) none) = (tlc one).take at_ ++ [c] ++ (tlc one).drop (at_ + 1) := by
    rw [tlc_app, tlc_app, cutS_to (by omega)]
    congr 1
    exact cutS_from (i := at_ + 1) (by omega)
  have hl : (cutS one none (some (at_ : Int)) ++ ⟨#[c]⟩ ++ cutS one (some ((at_ : Int) + 1)) none).length = one.length := by
    rw [← tlc_len, e, List.length_append, List.length_append, List.length_take, List.length_drop, tlc_len]
    show min at_ one.length + 1 + (one.length - (at_ + 1)) = one.length
    omega
  refine nm_of (by omega) (by omega) fun d hd => ?_
  rw [e] at hd
  rcases List.mem_append.mp hd with hd | hd
  · rcases List.mem_append.mp hd with hd | hd
    · exact h3 d (List.mem_of_mem_take hd)
    · rw [List.mem_singleton.mp hd]
      exact hc
  · exact h3 d (List.mem_of_mem_drop hd)
theorem cutS_len (z : Str) (lo hi : Option Int) : (cutS z lo hi).length ≤ z.length := by
  rw [← tlc_len, ← tlc_len]
  unfold cutS tlc
  show (List.take _ (List.drop _ z.cps.toList)).length ≤ _
  rw [List.length_take, List.length_drop]
  omega
/-- _law_name -/
def spLName : Sp := fun vs H Q _ => ∃ (b : Addr) (n : Int), vs = [.ref b] ∧ Bag H b n ∧ n < 900000 ∧ ∀ z G, isNm z = true → Kept b H G → Bag G b (n + 9) → Q (.str z) G
/-- a new list of unlike names -/
def Names (b F : Addr) (H G : Hp) (zs : List Str) (m : Int) : Prop :=
  H F = none ∧ F ≠ b ∧ Kept b H G ∧ Bag G b m ∧ G F = some (.lst (zs.map V.str)) ∧ zs.Nodup ∧ ∀ z ∈ zs, isNm z = true
/-- _law_names -/
def spLNames : Sp := fun vs H Q _ => ∃ (b : Addr) (n : Int) (many : Nat), vs = [.ref b, .int (many : Int)] ∧ Bag H b n ∧ n < 800000 ∧ 1 ≤ many ∧ many ≤ 100 ∧ ∀ F zs G, Names b F H G zs (n + 20 * many) → 1 ≤ zs.length → zs.length ≤ many → Q (.ref F) G
/-- _law_numbers -/
def spLNums : Sp := fun vs H Q _ => ∃ (b : Addr) (n : Int) (many : Nat), vs = [.ref b, .int (many : Int)] ∧ Bag H b n ∧ n < 800000 ∧ 1 ≤ many ∧ many ≤ 100 ∧ ∀ F zs G, Names b F H G zs (n + 20 * many) → 1 ≤ zs.length → zs.length ≤ many + 1 → Q (.ref F) G
theorem seq_by {A B : TS} {D : Ends} {σ : L2.St} {H : Hp} (R : L2.St → Hp → Prop) (h2 : ∀ σ H, R σ H → B D σ H) (h1 : (∀ σ H, R σ H → B D σ H) → A { D with nx := fun σ H => B D σ H } σ H) : tSeq A B D σ H := h1 h2
theorem Bag.but {H G : Hp} {b : Addr} {m : Int} (k : But b H G) {x : Addr} (n : x ≠ b) : G x = H x := k x n
/-- within _law_names: the names found so far at F -/
structure LN (b F : Addr) (H G : Hp) (zs : List Str) (m : Int) : Prop where
  bag : Bag G b m
  fnd : G F = some (.lst (zs.map V.str))
  kept : Kept b H G
  ne : F ≠ b
  nd : zs.Nodup
  nm : ∀ z ∈ zs, isNm z = true
theorem LN.to {b F : Addr} {H G G' : Hp} {zs : List Str} {m m' : Int} (h : LN b F H G zs m) (k : Kept b G G') (hB : Bag G' b m') : LN b F H G' zs m' :=
  ⟨hB, k F _ h.ne h.fnd, h.kept.trans k, h.ne, h.nd, h.nm⟩
theorem LN.le {b F : Addr} {H G : Hp} {zs : List Str} {m m' : Int} (h : LN b F H G zs m) (q : m ≤ m') : LN b F H G zs m' := ⟨h.bag.mono q, h.fnd, h.kept, h.ne, h.nd, h.nm⟩
theorem LN.add {b F : Addr} {H G : Hp} {zs : List Str} {m : Int} {z : Str} (h : LN b F H G zs m) (hF : H F = none) (hz : isNm z = true) (n : z ∉ zs) : LN b F H (upd G F (.lst (zs.map V.str ++ [.str z]))) (zs ++ [z]) m := by
  refine ⟨h.bag.put h.ne, ?_, fun x o nx e => (upd_ne (ne_of_none e hF)).trans (h.kept x o nx e), h.ne, ?_, fun y hy => ?_⟩
  · rw [upd_same, List.map_append]
    rfl
  · refine List.nodup_append.mpr ⟨h.nd, by simp, fun x hx y hy => ?_⟩
    rw [List.mem_singleton.mp hy]
    rintro rfl
    exact n hx
  · rcases List.mem_append.mp hy with hy | hy
    · exact h.nm y hy
    · rw [List.mem_singleton.mp hy]
      exact hz
theorem atI_zero {α : Type} {xs : List α} (h : 0 < xs.length) : ∃ x, atI xs 0 = some x ∧ x ∈ xs := by
  match xs, h with
  | x :: r, _ => exact ⟨x, by unfold atI ixN; rw [if_pos (by decide), if_pos (by rw [List.length_cons]; omega)]; rfl, List.mem_cons_self⟩
theorem nm_line {z : Str} (h : isNm z = true) : z.length ≤ sizeLine := by
  have := (nm_inv h).2.1
  rw [sizeLine_eq]
  omega
theorem flt_take {α : Type} {xs : List α} {i : Nat} {x : α} {p : α → Bool} (h : xs[i]? = some x) : (xs.take (i + 1)).filter p = (xs.take i).filter p ++ (if p x = true then [x] else []) := by
  rw [take_at h, List.filter_append]
  congr 1
  by_cases e : p x = true
  · rw [if_pos e]
    exact List.filter_cons_of_pos e
  · rw [if_neg e]
    exact List.filter_cons_of_neg e
theorem ne_dec (u v : Str) : (!decide (V.str u = V.str v)) = decide (u ≠ v) := by
  rw [str_dec]
  by_cases h : u = v
  · rw [decide_eq_true h, decide_eq_false (fun q => q h)]
    rfl
  · rw [decide_eq_false h, decide_eq_true h]
    rfl
theorem atI_end {α : Type} {xs : List α} (h : 0 < xs.length) : ∃ x, atI xs (-1) = some x ∧ x ∈ xs := by
  have e : ixN xs.length (-1) = some (xs.length - 1) := by
    unfold ixN
    rw [if_neg (by decide), if_pos (by omega)]
    congr 1
    omega
  have hl : xs.length - 1 < xs.length := by omega
  refine ⟨xs[xs.length - 1], ?_, List.getElem_mem hl⟩
  unfold atI
  rw [e]
  exact List.getElem?_eq_getElem hl
theorem atI_map {α β : Type} {f : α → β} {xs : List α} {i : Int} {x : α} (h : atI xs i = some x) : atI (xs.map f) i = some (f x) := by
  rw [atI_len, h]
  rfl
theorem two_unlike {α : Type} : ∀ {xs : List α}, xs.Nodup → 2 ≤ xs.length → ∀ z, ∃ y ∈ xs, y ≠ z
  | x :: y :: r, h, _, z => by
    by_cases e : x = z
    · refine ⟨y, by simp, fun q => ?_⟩
      have := (List.nodup_cons.mp h).1
      rw [e, ← q] at this
      exact this (by simp)
    · exact ⟨x, by simp, e⟩
  | [_], _, h, _ => by simp at h
  | [], _, h, _ => by simp at h
theorem sum_le {m : Nat} : ∀ {ns : List Int}, (∀ x ∈ ns, x.natAbs ≤ m) → ns.sum.natAbs ≤ ns.length * m
  | [], _ => by simp
  | x :: r, h => by
    have h1 := h x List.mem_cons_self
    have h2 := sum_le (ns := r) fun y hy => h y (List.mem_cons_of_mem _ hy)
    rw [List.sum_cons, List.length_cons, Nat.succ_mul]
    omega
/-- a list that grows, made within -/
structure RD (b F : Addr) (H G : Hp) (rs : List Str) (m : Int) : Prop where
  bag : Bag G b m
  fnd : G F = some (.lst (rs.map V.str))
  kept : Kept b H G
  ne : F ≠ b
theorem RD.to {b F : Addr} {H G G' : Hp} {rs : List Str} {m m' : Int} (h : RD b F H G rs m) (k : Kept b G G') (hB : Bag G' b m') : RD b F H G' rs m' := ⟨hB, k F _ h.ne h.fnd, h.kept.trans k, h.ne⟩
theorem RD.le {b F : Addr} {H G : Hp} {rs : List Str} {m m' : Int} (h : RD b F H G rs m) (q : m ≤ m') : RD b F H G rs m' := ⟨h.bag.mono q, h.fnd, h.kept, h.ne⟩
theorem RD.set {b F : Addr} {H G : Hp} {rs qs : List Str} {m : Int} (h : RD b F H G rs m) (hF : H F = none) : RD b F H (upd G F (.lst (qs.map V.str))) qs m :=
  ⟨h.bag.put h.ne, upd_same, fun x o nx e => (upd_ne (ne_of_none e hF)).trans (h.kept x o nx e), h.ne⟩
end KX

set_option Elab.async false
set_option maxRecDepth 100000
set_option maxHeartbeats 2000000
/-! Bounds and rings, in plain words. -/
namespace KX
open PySem PySem.Spec PyProof.Rows L2
abbrev Bd := Str × Str × Int
/-- a bound, if it is one -/
def bd3 : PyData → Option Bd
  | .tuple [.str u, .str v, .int c] => if (isNm u && (isNm v && !decide (u = v))) = true then some (u, v, c) else none
  | _ => none
def bdD (d : PyData) : Bool := (bd3 d).isSome
def okBd (d : PyData) : Prop := ∀ ds, d = .tuple ds → ds.length ≤ 1000 ∧ ∀ e ∈ ds, okN e
def okRing (d : PyData) : Prop := ∀ ds, d = .list ds ∨ d = .tuple ds → ds.length ≤ 1000 ∧ ∀ e ∈ ds, okBd e
def jb (ts : List Bd) (i : Nat) : Bool :=
  match ts[pred ts.length i]?, ts[i]? with
  | some p, some q => decide (p.2.1 = q.1)
  | _, _ => false
def rgT (ts : List Bd) : Bool := (List.range ts.length).all (jb ts) && decide ((ts.map fun t => t.2.2).sum < 0)
def bdOf (d : PyData) : Bd := (bd3 d).getD (⟨#[]⟩, ⟨#[]⟩, 0)
def rgL (ds : List PyData) : Bool := ds.all bdD && rgT (ds.map bdOf)
def rgD : PyData → Bool
  | .list ds => rgL ds
  | .tuple ds => rgL ds
  | _ => false
theorem rg_nil : rgL [] = false := by
  show (true && ((List.range 0).all _ && decide (([] : List Int).sum < 0))) = false
  rfl
/-- a bound that stands at x -/
def BdAt (K : PySem.W.Frag) (H : Hp) (x : V) (t : Bd) : Prop := ∃ a, x = .ref a ∧ SqT K H a [.str t.1, .str t.2.1, .int t.2.2]
theorem bd3_inv {d : PyData} {t : Bd} (h : bd3 d = some t) : d = .tuple [.str t.1, .str t.2.1, .int t.2.2] ∧ isNm t.1 = true ∧ isNm t.2.1 = true ∧ t.1 ≠ t.2.1 := by
  unfold bd3 at h
  split at h
  · split at h
    · rename_i u v c hc
      cases h
      obtain ⟨h1, h2⟩ := Bool.and_eq_true_iff.mp hc
      obtain ⟨h2, h3⟩ := Bool.and_eq_true_iff.mp h2
      refine ⟨rfl, h1, h2, fun e => ?_⟩
      rw [decide_eq_true e] at h3
      cases h3
    · cases h
  · cases h
theorem dp_tup3 {K : PySem.W.Frag} {H : Hp} {x : V} {u v : Str} {c : Int} (h : Dp K H x (.tuple [.str u, .str v, .int c])) : BdAt K H x (u, v, c) := by
  cases h with
  | tup hS ha =>
    cases ha with
    | cons h1 ha =>
      cases ha with
      | cons h2 ha =>
        cases ha with
        | cons h3 ha =>
          cases ha
          cases h1
          cases h2
          cases h3
          exact ⟨_, rfl, hS⟩
theorem bd_at {K : PySem.W.Frag} {H : Hp} {x : V} {d : PyData} (h : Dp K H x d) (hb : bdD d = true) : BdAt K H x (bdOf d) := by
  unfold bdD at hb
  unfold bdOf
  cases e : bd3 d with
  | none =>
    rw [e] at hb
    cases hb
  | some t =>
    obtain ⟨rfl, _⟩ := bd3_inv e
    exact dp_tup3 h
theorem BdAt.same {K : PySem.W.Frag} {H H' : Hp} {x : V} {t : Bd} (s : Same H H') (h : BdAt K H x t) : BdAt K H' x t := h.imp fun a h => ⟨h.1, sqT_same s h.2⟩
theorem bd_off {d : PyData} (h : isTupD d = false) : bdD d = false := by cases d <;> first | rfl | cases h
theorem bd_len {ds : List PyData} (h : ds.length ≠ 3) : bdD (.tuple ds) = false := by
  unfold bdD
  cases e : bd3 (.tuple ds) with
  | none => rfl
  | some t =>
    have q := PyData.tuple.inj (bd3_inv e).1
    rw [q] at h
    exact absurd rfl h
/-- two texts are not the same one -/
def neS : PyData → PyData → Bool
  | .str u, .str v => !decide (u = v)
  | _, _ => true
/-- what bdD is, part by part -/
theorem bd_parts (a b c : PyData) : bdD (.tuple [a, b, c]) = (nmD a && (nmD b && (neS a b && isIntD c))) := by
  unfold bdD bd3
  cases a <;> try rfl
  rename_i u
  cases b <;> try (show (false : Bool) = (isNm u && (false && _)); cases isNm u <;> rfl)
  rename_i v
  cases c <;> try (show false = (isNm u && (isNm v && (!decide (u = v) && false))); cases isNm u <;> cases isNm v <;> cases decide (u = v) <;> rfl)
  show (if (isNm u && (isNm v && !decide (u = v))) = true then some ((u, v, _) : Bd) else none).isSome = (isNm u && (isNm v && (!decide (u = v) && true)))
  cases isNm u <;> cases isNm v <;> cases decide (u = v) <;> rfl
theorem bds_at {K : PySem.W.Frag} {H : Hp} {xs : List V} {ds : List PyData} {i : Nat} {x : V} (hA : DpAll K H xs ds) (hb : ds.all bdD = true) (h : xs[i]? = some x) : ∃ t, (ds.map bdOf)[i]? = some t ∧ BdAt K H x t := by
  obtain ⟨d, hd, hx⟩ := dpall_at hA h
  refine ⟨bdOf d, ?_, bd_at hx (List.all_eq_true.mp hb d (List.mem_of_getElem? hd))⟩
  rw [List.getElem?_map, hd]
  rfl
theorem jb_eq {ts : List Bd} {i : Nat} {p q : Bd} (hp : ts[pred ts.length i]? = some p) (hq : ts[i]? = some q) : jb ts i = decide (p.2.1 = q.1) := by
  unfold jb
  rw [hp, hq]
/-- what _law_is_round asks of a list of things -/
def okE (e : PyData) : Prop := okBd e ∧ e.canLay0 = true ∧ e.depth ≤ 60
def spRound (K : PySem.W.Frag) : Sp := fun vs H Q _ => ∃ (l : Addr) (xs : List V) (ds : List PyData), vs = [.ref l] ∧ SqL K H l xs ∧ DpAll K H xs ds ∧ ds.length ≤ 1000 ∧ (∀ e ∈ ds, okE e) ∧ ∀ H', Same H H' → Q (.bl (rgL ds)) H'
def spBound (K : PySem.W.Frag) : Sp := fun vs H Q _ => ∃ (x : V) (d : PyData), vs = [x] ∧ Dp K H x d ∧ okBd d ∧ ∀ H', Same H H' → Q (.bl (bdD d)) H'
def spOpp (K : PySem.W.Frag) : Sp := fun vs H Q _ => ∃ (a : Addr) (x y : V) (c : Int), vs = [.ref a] ∧ SqT K H a [x, y, .int c] ∧ ∀ p, H p = none → Q (.ref p) (upd H p (.tup [y, x, .int (-c - 1)]))
def spRing (K : PySem.W.Frag) : Sp := fun vs H Q _ => ∃ (x : V) (d : PyData), vs = [x] ∧ Dp K H x d ∧ okRing d ∧ ∀ H', Same H H' → Q (.bl (rgD d)) H'
/-- a bound's data, its constant not beyond m -/
def BdX (m : Nat) (d : PyData) : Prop := ∃ u v c, d = .tuple [.str u, .str v, .int c] ∧ isNm u = true ∧ isNm v = true ∧ c.natAbs ≤ m
/-- _law_round -/
def spRnd (K : PySem.W.Frag) : Sp := fun vs H Q _ => ∃ (b L : Addr) (n : Int) (zs : List Str), vs = [.ref b, .ref L] ∧ Bag H b n ∧ n < 700000 ∧ L ≠ b ∧ H L = some (.lst (zs.map V.str)) ∧ zs.Nodup ∧ 2 ≤ zs.length ∧ zs.length ≤ 100 ∧ (∀ z ∈ zs, isNm z = true) ∧
  ∀ R rs ds G, H R = none → R ≠ b → Kept b H G → Bag G b (n + 60) → G R = some (.lst rs) → DpAll K G rs ds → 1 ≤ ds.length → ds.length ≤ 8 → (∀ d ∈ ds, BdX (10 ^ 29) d) → Q (.ref R) G
/-- a bound's tuple, made within -/
def BdT (G : Hp) (x : V) (t : Bd) : Prop := ∃ a, x = .ref a ∧ G a = some (.tup [.str t.1, .str t.2.1, .int t.2.2])
theorem BdT.off {G : Hp} {x : V} {t : Bd} {R : Addr} {ys : List V} {o : HO} (h : BdT G x t) (e : G R = some (.lst ys)) : BdT (upd G R o) x t := by
  obtain ⟨a, rfl, ha⟩ := h
  refine ⟨a, rfl, (upd_ne ?_).trans ha⟩
  rintro rfl
  rw [e] at ha
  cases ha
theorem BdT.kept {b : Addr} {n : Int} {G G' : Hp} {x : V} {t : Bd} (h : BdT G x t) (hB : Bag G b n) (k : Kept b G G') : BdT G' x t := by
  obtain ⟨a, rfl, ha⟩ := h
  refine ⟨a, rfl, k a _ ?_ ha⟩
  rintro rfl
  obtain ⟨d, m, c, e, _⟩ := hB
  rw [e] at ha
  cases ha
theorem BdT.same {G G' : Hp} {x : V} {t : Bd} (h : BdT G x t) (k : Same G G') : BdT G' x t := h.imp fun a h => ⟨h.1, k _ _ h.2⟩
def bdX (t : Bd) : PyData := .tuple [.str t.1, .str t.2.1, .int t.2.2]
theorem bts_dp {K : PySem.W.Frag} {G : Hp} : ∀ {xs : List V} {ts : List Bd}, Paired (BdT G) xs ts → DpAll K G xs (ts.map bdX)
  | _, _, .nil => .nil
  | _, _, .cons h r => by
    obtain ⟨a, rfl, ha⟩ := h
    exact .cons (.tup (SqT.of ha) (.cons (.str _) (.cons (.str _) (.cons (.int _) .nil)))) (bts_dp r)
theorem pair_imp {α β : Type} {P Q : α → β → Prop} (h : ∀ x y, P x y → Q x y) : ∀ {xs : List α} {ys : List β}, Paired P xs ys → Paired Q xs ys
  | _, _, .nil => .nil
  | _, _, .cons a r => .cons (h _ _ a) (pair_imp h r)
theorem pair_snoc {α β : Type} {P : α → β → Prop} {x : α} {y : β} (h : P x y) : ∀ {xs : List α} {ys : List β}, Paired P xs ys → Paired P (xs ++ [x]) (ys ++ [y])
  | _, _, .nil => .cons h .nil
  | _, _, .cons a r => .cons a (pair_snoc h r)
theorem pair_len {α β : Type} {P : α → β → Prop} : ∀ {xs : List α} {ys : List β}, Paired P xs ys → xs.length = ys.length
  | _, _, .nil => rfl
  | _, _, .cons _ r => congrArg (· + 1) (pair_len r)
theorem cut_from {α : Type} (xs : List V) (i : Nat) (h : i ≤ xs.length) : cutV xs (some (i : Int)) none = xs.drop i := by
  unfold cutV
  rw [HT.sIx_none, HT.sIx_nat, Nat.min_eq_left h]
  refine List.take_of_length_le ?_
  rw [List.length_drop]
  exact Nat.le_refl _
end KX

set_option Elab.async false
set_option maxRecDepth 100000
set_option maxHeartbeats 2000000
namespace K31
open PySem PySem.Spec PyProof.Rows L2 KX
section
variable {P : Program} {w : World} {K : PySem.W.Frag} {mg : Str → Option Value} {base : Heap}
theorem scOpp : FnScope ["bound", "u", "v", "c"] ["bound"] (defScope sOpp) := ⟨rfl, rfl, rfl, by decide +kernel, rfl, by decide +kernel, by decide +kernel⟩
theorem ok_opp {f : Addr} {fd : FuncData} (F : FnP K "opposite" sOpp f fd) : FnOk P w K mg base CX0 1 f fd ["bound"] (spOpp K) := by
  refine F.ok scOpp (fun vs H Q E h => ?_) (fun cdv A outer s H vs Q E hr h => ?_)
  · obtain ⟨a, x, y, c, rfl, _⟩ := h
    rfl
  · obtain ⟨a, x, y, c, rfl, hS, k⟩ := h
    have nd := scOpp.nd
    refine ⟨_, PSs.nox (pss_cons (ps_asg (pv 0) (pg_tup rfl (pgs_cons (pg_name (i := 1) nd rfl (Or.inl rfl)) (pgs_cons (pg_name (i := 2) nd rfl (Or.inl rfl)) (pgs_cons (pg_name (i := 3) nd rfl (Or.inl rfl)) pgs_nil)))))
      (pss_one (ps_ret (pe_tup (pa_cons (pv 2) (pa_cons (pv 1) (pa_cons (pe_op op_sub (pe_un un_neg (pv 3)) pe_int) pa_nil))))))), ?_⟩
    refine ⟨_, rfl, _, _, rfl, hS, rfl, _, _, rfl, _, _, rfl, _, _, rfl, rfl, ?_⟩
    exact ⟨_, rfl, _, rfl, _, rfl, _, rfl, _, _, rfl, rfl, (by show 3 ≤ sizeLine; decide), fun p np => k p np⟩
theorem scBound : FnScope ["thing", "u", "v", "c"] ["thing"] (defScope sBound) := ⟨rfl, rfl, rfl, by decide +kernel, rfl, by decide +kernel, by decide +kernel⟩
theorem ok_bound {f fI fN : Addr} {fd fdI fdN : FuncData} (F : FnP K "is_bound" sBound f fd) (FI : FnP K "is_integer" sInt fI fdI) (FN : FnP K "is_name" sName fN fdN) (g : mg "is_integer" = some (.ref fI)) (gN : mg "is_name" = some (.ref fN))
    (n_isinstance : mg "isinstance" = none) (n_int : mg "int" = none) (n_bool : mg "bool" = none) (n_str : mg "str" = none) (n_tuple : mg "tuple" = none) (n_len : mg "len" = none) (n_all : mg "all" = none) : FnOk P w K mg base CX0 2 f fd ["thing"] (spBound K) := by
  have GI : FnOk P w K mg base CX0 1 fI fdI ["thing"] (spInt K) := ok_int FI n_isinstance n_int n_bool
  have bI : Binds K fdI ["thing"] [] := FI.bindsN fun _ _ _ _ _ _ us hl => match us, hl with | [_], _ => rfl
  have GN : FnOk P w K mg base CX0 1 fN fdN ["thing"] (spName K) := ok_name FN n_isinstance n_str n_len n_all
  have bN : Binds K fdN ["thing"] [] := FN.bindsN fun _ _ _ _ _ _ us hl => match us, hl with | [_], _ => rfl
  refine F.ok scBound (fun vs H Q E h => ?_) (fun cdv A outer s H vs Q E hr h => ?_)
  · obtain ⟨x, t, rfl, _⟩ := h
    rfl
  · obtain ⟨x, d, rfl, hk, ho, k⟩ := h
    have nd := scBound.nd
    refine ⟨_, PSs.nox (pss_cons (ps_if (PW.pt (pw_or (pt_not (pt_val (pe_callB call_isi (by rfl) n_isinstance (by decide +kernel) (pa_cons (pv 0) (pa_cons (pe_bltn (v := .ty "tuple") (by rfl) n_tuple (by decide +kernel) rfl) pa_nil))))) (pw_or1 (pt_cmpR op_ne (pe_callB call_len_seq (by rfl) n_len PySem.boot_len (pa_cons (pv 0) pa_nil)) pe_int (nomark _)))))
(pss_one (ps_ret pe_bl))
pss_nil)
(pss_cons (ps_asg (pv 0) (pg_tup rfl (pgs_cons (pg_name (i := 1) nd rfl (Or.inl rfl)) (pgs_cons (pg_name (i := 2) nd rfl (Or.inl rfl)) (pgs_cons (pg_name (i := 3) nd rfl (Or.inl rfl)) pgs_nil)))))
(pss_one (ps_ret (pe_and (pe_call GN hr rfl gN FN.kp bN .nil pass0 (pa_cons (pv 1) pa_nil)) (pe_and (pe_call GN hr rfl gN FN.kp bN .nil pass0 (pa_cons (pv 2) pa_nil)) (pe_and (pe_cmpR op_ne (pv 1) (pv 2) (nomark _)) (pe_one (pe_call GI hr rfl g FI.kp bI .nil pass0 (pa_cons (pv 3) pa_nil)))))))))), ?_⟩
    refine ⟨_, rfl, _, _, _, _, _, rfl, .ty _, dp_ty hk, kit_tup d, _, rfl, ?_⟩
    by_cases ht : isTupD d = true
    · obtain ⟨ds, rfl⟩ : ∃ ds, d = .tuple ds := by cases d <;> first | exact ⟨_, rfl⟩ | cases ht
      obtain ⟨hl, hn⟩ := ho ds rfl
      cases hk with
      | @tup a xs _ hS hA =>
        have hxd := dpall_len hA
        refine ⟨_, rfl, _, _, rfl, .inr hS, rfl, _, rfl, ite2' (fun c3 => ?_) (fun c3 => ?_)⟩
        · have n : ds.length ≠ 3 := by
            have := len_notN 3 c3
            omega
          have q := k H (Same.refl H)
          rw [bd_len n] at q
          exact q
        · have e := len_isN 3 c3
          · obtain ⟨x, y, z, da, db, dc, rfl, rfl, h1, h2, h3⟩ := dpall_3 hA e
            clear hA e c3
            refine ⟨_, rfl, _, _, rfl, hS, rfl, _, _, rfl, _, _, rfl, _, _, rfl, rfl, ?_⟩
            have hq : ∀ H', Same H H' → Q (.bl (nmD da && (nmD db && (neS da db && isIntD dc)))) H' := fun H' s => by rw [← bd_parts]; exact k H' s
            refine ⟨_, rfl, x, da, rfl, h1, hn da (by simp), fun H1 s1 => ⟨_, rfl, ite2' (fun c1 => ?_) (fun c1 => ?_)⟩⟩
            · rw [c1] at hq
              refine ⟨_, rfl, y, db, rfl, dp_same s1 _ _ h2, hn db (by simp), fun H2 s2 => ⟨_, rfl, ite2' (fun c2 => ?_) (fun c2 => ?_)⟩⟩
              · rw [c2] at hq
                have s3 := s1.trans s2
                obtain ⟨u, rfl⟩ : ∃ u, da = .str u := by cases da <;> first | exact ⟨_, rfl⟩ | cases c1
                obtain ⟨v, rfl⟩ : ∃ u, db = .str u := by cases db <;> first | exact ⟨_, rfl⟩ | cases c2
                cases h1
                cases h2
                have ed : decide (V.str u = V.str v) = decide (u = v) := by
                  by_cases h : u = v
                  · rw [h, decide_eq_true rfl, decide_eq_true rfl]
                  · rw [decide_eq_false (fun q => h (V.str.inj q)), decide_eq_false h]
                have hq2 : ∀ H', Same H H' → Q (.bl ((!decide (u = v)) && isIntD dc)) H' := hq
                refine ⟨_, rfl, _, rfl, rfl, _, rfl, ?_⟩
                rw [ed]
                refine ite2' (fun c4 => ?_) (fun c4 => ?_)
                · rw [c4] at hq2
                  exact ⟨_, rfl, z, dc, rfl, dp_same s3 _ _ h3, hq2 H2 s3⟩
                · rw [c4] at hq2
                  exact hq2 H2 s3
              · rw [c2] at hq
                exact hq H2 (s1.trans s2)
            · rw [c1] at hq
              exact hq H1 s1
    · have e : isTupD d = false := Bool.eq_false_iff.mpr ht
      rw [e]
      have q := k H (Same.refl H)
      rw [bd_off e] at q
      exact q
end
end K31

set_option Elab.async false
set_option maxRecDepth 100000
set_option maxHeartbeats 1000000
/-! Bounds (u, v, c), raised in passes: the causes, their cycles and what the passes give. No Lean of the program. -/
namespace Sol
open PySem
abbrev B := Str × Str × Int
structure St where
  val : Str → Int
  cau : Str → Option B
def St.raise (s : St) (b : B) : St := ⟨fun x => if x = b.2.1 then s.val b.1 - b.2.2 else s.val x, fun x => if x = b.2.1 then some b else s.cau x⟩
def lifts (s : St) (b : B) : Prop := s.val b.1 - b.2.2 > s.val b.2.1
/-- from x backward to y along the causes bs -/
inductive Ch (cau : Str → Option B) : Str → List B → Str → Prop
  | nil (x : Str) : Ch cau x [] x
  | cons {x y : Str} {b : B} {bs : List B} : cau x = some b → Ch cau b.1 bs y → Ch cau x (b :: bs) y
def sumC (bs : List B) : Int := (bs.map fun b => b.2.2).sum
theorem sumC_cons (b : B) (bs : List B) : sumC (b :: bs) = b.2.2 + sumC bs := by unfold sumC; rw [List.map_cons, List.sum_cons]
theorem sumC_app (xs ys : List B) : sumC (xs ++ ys) = sumC xs + sumC ys := by
  induction xs with
  | nil => show sumC ys = 0 + sumC ys; omega
  | cons b r ih => rw [List.cons_append, sumC_cons, sumC_cons, ih]; omega
section
variable {cau : Str → Option B} {x y z : Str} {bs cs : List B} {s : St}
theorem Ch.app (h : Ch cau x bs y) (k : Ch cau y cs z) : Ch cau x (bs ++ cs) z := by
  induction h with
  | nil => exact k
  | cons e _ ih => exact .cons e (ih k)
structure Ok (s : St) : Prop where
  own : ∀ x b, s.cau x = some b → b.2.1 = x
  edge : ∀ x b, s.cau x = some b → s.val x ≤ s.val b.1 - b.2.2
  neg : ∀ x bs, bs ≠ [] → Ch s.cau x bs x → sumC bs < 0
theorem Ok.pot (h : Ok s) (c : Ch s.cau x bs y) : s.val x ≤ s.val y - sumC bs := by
  induction c with
  | nil => show _ ≤ _ - (0 : Int); omega
  | cons e _ ih =>
    have := h.edge _ _ e
    rw [sumC_cons]
    omega
theorem raise_old {b : B} {x : Str} (h : x ≠ b.2.1) : (s.raise b).cau x = s.cau x := by unfold St.raise; dsimp only; rw [if_neg h]
theorem raise_new {b : B} : (s.raise b).cau b.2.1 = some b := by unfold St.raise; dsimp only; rw [if_pos rfl]
/-- a chain behind a raise is an old one, or old up to the raised name -/
theorem Ch.split {b : B} (c : Ch (s.raise b).cau x bs y) : Ch s.cau x bs y ∨ ∃ r1 r2, bs = r1 ++ r2 ∧ Ch s.cau x r1 b.2.1 ∧ Ch (s.raise b).cau x r1 b.2.1 ∧ Ch (s.raise b).cau b.2.1 r2 y := by
  induction c with
  | nil x => exact .inl (.nil x)
  | @cons x y d ds e k ih =>
    by_cases hx : x = b.2.1
    · subst hx
      exact .inr ⟨[], _, rfl, .nil _, .nil _, .cons e k⟩
    · have e' := e
      rw [raise_old hx] at e'
      rcases ih with ih | ⟨r1, r2, rfl, h1, h2, h3⟩
      · exact .inl (.cons e' ih)
      · exact .inr ⟨d :: r1, r2, rfl, .cons e' h1, .cons e h2, h3⟩
theorem Ok.loop {b : B} (h : Ok s) (hl : lifts s b) : ∀ (n : Nat) (bs : List B), bs.length ≤ n → bs ≠ [] → Ch (s.raise b).cau b.2.1 bs b.2.1 → sumC bs < 0
  | 0, bs, hn, hne, _ => absurd (List.length_eq_zero_iff.mp (Nat.le_zero.mp hn)) hne
  | n + 1, bs, hn, hne, c => by
    cases c with
    | nil => exact absurd rfl hne
    | @cons _ _ d ds e k =>
      rw [raise_new] at e
      obtain rfl := Option.some.inj e
      rw [sumC_cons]
      rcases k.split with k | ⟨r1, r2, rfl, h1, _, h3⟩
      · have := h.pot k
        unfold lifts at hl
        omega
      · have := h.pot h1
        unfold lifts at hl
        rw [sumC_app]
        by_cases e2 : r2 = []
        · subst e2
          have : sumC [] = 0 := rfl
          omega
        · have hl2 : r2.length ≤ n := by
            rw [List.length_cons, List.length_append] at hn
            omega
          have := h.loop hl n r2 hl2 e2 h3
          omega
theorem Ok.raise {b : B} (h : Ok s) (hl : lifts s b) (huv : b.1 ≠ b.2.1) : Ok (s.raise b) := by
  have mono : ∀ x, s.val x ≤ (s.raise b).val x := fun x => by
    unfold St.raise
    dsimp only
    split
    · rename_i e
      subst e
      unfold lifts at hl
      omega
    · exact Int.le_refl _
  refine ⟨fun x d e => ?_, fun x d e => ?_, fun x bs hne c => ?_⟩
  · by_cases hx : x = b.2.1
    · subst hx
      rw [raise_new] at e
      rw [← Option.some.inj e]
    · rw [raise_old hx] at e
      exact h.own x d e
  · by_cases hx : x = b.2.1
    · subst hx
      rw [raise_new] at e
      obtain rfl := Option.some.inj e
      show (if _ then _ else _) ≤ (if _ then _ else _) - _
      rw [if_pos rfl, if_neg huv]
      exact Int.le_refl _
    · rw [raise_old hx] at e
      have h1 := h.edge x d e
      have h2 := mono d.1
      have h3 : (s.raise b).val x = s.val x := by unfold St.raise; dsimp only; rw [if_neg hx]
      omega
  · rcases c.split with c | ⟨r1, r2, rfl, h1, h2, h3⟩
    · exact h.neg x bs hne c
    · have q := h.loop hl _ (r2 ++ r1) (Nat.le_refl _) (fun e => hne (by rw [List.append_eq_nil_iff] at e ⊢; exact ⟨e.2, e.1⟩)) (h3.app h2)
      rw [sumC_app] at q ⊢
      omega
end
end Sol

set_option Elab.async false
set_option maxRecDepth 100000
set_option maxHeartbeats 1000000
/-! The passes over the bounds: what they end with. No Lean of the program. -/
namespace Sol
open PySem
variable {Z : Str}
theorem Ch.inv {cau : Str → Option B} {x y : Str} {bs : List B} (h : Ch cau x bs y) : (bs = [] ∧ x = y) ∨ ∃ b r, bs = b :: r ∧ cau x = some b ∧ Ch cau b.1 r y := by
  cases h with
  | nil => exact .inl ⟨rfl, rfl⟩
  | cons e k => exact .inr ⟨_, _, rfl, e, k⟩
/-- one pass: where it stops (the zero name was raised), or the state and the last raised name behind it -/
def pass (Z : Str) : List B → St → Option Str → Bool × St × Option Str
  | [], s, r => (false, s, r)
  | b :: bs, s, r => if s.val b.1 - b.2.2 > s.val b.2.1 then (if b.2.1 = Z then (true, s.raise b, some b.2.1) else pass Z bs (s.raise b) (some b.2.1)) else pass Z bs s r
/-- passes until none raises, the zero name is raised, or they are used up: (state, where the ring is asked for) -/
def passes (Z : Str) (bs : List B) : Nat → St → Option Str → St × Option Str
  | 0, s, r => (s, r)
  | n + 1, s, _ => match pass Z bs s none with
    | (true, s', r') => (s', r')
    | (false, s', none) => (s', none)
    | (false, s', some v) => passes Z bs n s' (some v)
def start (Z : Str) (ns : List Str) : St := ⟨fun _ => 0, fun x => if x ∈ ns ∧ x ≠ Z then some (Z, x, 0) else none⟩
def sat (s : St) (b : B) : Prop := s.val b.1 - b.2.2 ≤ s.val b.2.1
/-- a pass that raises nothing leaves all as it was, and all bounds hold -/
theorem pass_none {bs : List B} {s s' : St} {f : Bool} : ∀ {r : Option Str}, pass Z bs s r = (f, s', none) → f = false ∧ s' = s ∧ r = none ∧ ∀ b ∈ bs, sat s b := by
  induction bs generalizing s with
  | nil =>
    intro r h
    unfold pass at h
    cases h
    exact ⟨rfl, rfl, rfl, fun b hb => absurd hb (by simp)⟩
  | cons b bs ih =>
    intro r h
    unfold pass at h
    split at h
    · split at h
      · cases h
      · obtain ⟨_, _, e, _⟩ := ih h
        cases e
    · rename_i hn
      obtain ⟨h1, h2, h3, h4⟩ := ih h
      refine ⟨h1, h2, h3, fun d hd => ?_⟩
      rcases List.mem_cons.mp hd with rfl | hd
      · unfold sat
        omega
      · exact h4 d hd
/-- an invariant that each raise keeps holds behind a pass -/
theorem pass_inv {I : St → Prop} {bs : List B} (hr : ∀ s b, b ∈ bs → I s → lifts s b → I (s.raise b)) : ∀ {cs : List B} {s : St} {r : Option Str}, (∀ b ∈ cs, b ∈ bs) → I s → I (pass Z cs s r).2.1 := by
  intro cs
  induction cs with
  | nil => intro s r _ h; exact h
  | cons b cs ih =>
    intro s r hc h
    unfold pass
    split
    · rename_i hl
      split
      · exact hr s b (hc b List.mem_cons_self) h hl
      · exact ih (fun d hd => hc d (List.mem_cons_of_mem _ hd)) (hr s b (hc b List.mem_cons_self) h hl)
    · exact ih (fun d hd => hc d (List.mem_cons_of_mem _ hd)) h
theorem passes_inv {I : St → Prop} {bs : List B} (hr : ∀ s b, b ∈ bs → I s → lifts s b → I (s.raise b)) : ∀ {n : Nat} {s : St} {r : Option Str}, I s → I (passes Z bs n s r).1 := by
  intro n
  induction n with
  | zero => intro s r h; exact h
  | succ n ih =>
    intro s r h
    unfold passes
    have q := pass_inv (Z := Z) hr (cs := bs) (s := s) (r := none) (fun _ h => h) h
    split
    · rename_i e
      rw [e] at q
      exact q
    · rename_i e
      rw [e] at q
      exact q
    · rename_i e
      rw [e] at q
      exact ih q
/-- where the passes end without a ring, all bounds hold -/
theorem passes_none {bs : List B} : ∀ {n : Nat} {s s' : St} {r : Option Str}, passes Z bs (n + 1) s r = (s', none) → ∀ b ∈ bs, sat s' b := by
  intro n
  induction n with
  | zero =>
    intro s s' r h
    unfold passes at h
    split at h
    · rename_i s1 r1 e
      cases h
      exact absurd (pass_none e).1 (by decide)
    · rename_i s1 e
      cases h
      obtain ⟨_, rfl, _, h4⟩ := pass_none e
      exact h4
    · cases h
  | succ n ih =>
    intro s s' r h
    unfold passes at h
    split at h
    · rename_i s1 r1 e
      cases h
      exact absurd (pass_none e).1 (by decide)
    · rename_i s1 e
      cases h
      obtain ⟨_, rfl, _, h4⟩ := pass_none e
      exact h4
    · exact ih h
/-- the values rise from 0, and the zero name stays at 0 unless it is raised -/
theorem start_ok (Z : Str) (ns : List Str) : Ok (start Z ns) := by
  have c : ∀ {x : Str} {b : B}, (start Z ns).cau x = some b → x ≠ Z ∧ b = (Z, x, 0) := fun {x b} e => by
    unfold start at e
    dsimp only at e
    split at e
    · rename_i h
      exact ⟨h.2, (Option.some.inj e).symm⟩
    · cases e
  refine ⟨fun x b e => by rw [(c e).2], fun x b e => ?_, fun x bs hne k => ?_⟩
  · rw [(c e).2]
    show (0 : Int) ≤ 0 - 0
    omega
  · rcases k.inv with ⟨h, _⟩ | ⟨b, r, _, e, k⟩
    · exact absurd h hne
    · obtain ⟨h1, rfl⟩ := c e
      rcases k.inv with ⟨_, h⟩ | ⟨b2, r2, _, e2, _⟩
      · exact absurd h.symm h1
      · exact absurd rfl (c e2).1
/-- the causes are bounds, or the first ones -/
def Own (Z : Str) (bs : List B) (s : St) : Prop := ∀ x b, s.cau x = some b → b ∈ bs ∨ (x ≠ Z ∧ b = (Z, x, 0))
theorem own_raise {bs : List B} {s : St} {b : B} (h : Own Z bs s) (hb : b ∈ bs) : Own Z bs (s.raise b) := fun x d e => by
  by_cases hx : x = b.2.1
  · subst hx
    rw [raise_new] at e
    obtain rfl := Option.some.inj e
    exact .inl hb
  · rw [raise_old hx] at e
    exact h x d e
theorem own_start (bs : List B) (ns : List Str) : Own Z bs (start Z ns) := fun x b e => by
  unfold start at e
  dsimp only at e
  split at e
  · rename_i h
    exact .inr ⟨h.2, (Option.some.inj e).symm⟩
  · cases e
/-- no value is greater than that of a solution at or above 0 -/
theorem raise_least {bs : List B} {s : St} {b : B} {w : Str → Int} (hw : ∀ b ∈ bs, w b.1 - b.2.2 ≤ w b.2.1) (h : ∀ x, s.val x ≤ w x) (hb : b ∈ bs) : ∀ x, (s.raise b).val x ≤ w x := fun x => by
  unfold St.raise
  dsimp only
  split
  · rename_i e
    subst e
    have := hw b hb
    have := h b.1
    omega
  · exact h x
end Sol

set_option Elab.async false
set_option maxRecDepth 100000
set_option maxHeartbeats 1000000
/-! Stamps of the passes; behind more passes than names the causes run into a cycle. No Lean of the program. -/
namespace Sol
open PySem
variable {Z : Str}
structure Stp (Z : Str) (bs : List B) (k : Nat) (s : St) (t : Str → Nat) : Prop where
  lt : ∀ x, t x < k
  old : ∀ b ∈ bs, t b.1 + 1 < k → sat s b
  cau : ∀ x, 1 ≤ t x → ∃ b, s.cau x = some b ∧ t x ≤ t b.1 + 1
  zero : t Z = 0
structure Mid (Z : Str) (bs ds : List B) (k : Nat) (s : St) (t : Str → Nat) : Prop where
  le : ∀ x, t x ≤ k
  old : ∀ b ∈ bs, t b.1 + 1 < k → sat s b
  now : ∀ b ∈ ds, t b.1 < k → sat s b
  cau : ∀ x, 1 ≤ t x → ∃ b, s.cau x = some b ∧ t x ≤ t b.1 + 1
  zero : t Z = 0
theorem sat_raise {s : St} {b d : B} (h : sat s d) (hl : lifts s b) (hd : d.1 ≠ b.2.1) : sat (s.raise b) d := by
  unfold sat at h ⊢
  unfold St.raise
  dsimp only
  rw [if_neg hd]
  split
  · rename_i e
    rw [e] at h
    unfold lifts at hl
    omega
  · exact h
theorem Mid.raise {bs ds : List B} {k : Nat} {s : St} {t : Str → Nat} {b : B} (h : Mid Z bs ds k s t) (hb : b ∈ bs) (hl : lifts s b) (huv : b.1 ≠ b.2.1) (hz : b.2.1 ≠ Z) : Mid Z bs (ds ++ [b]) k (s.raise b) (fun x => if x = b.2.1 then k else t x) := by
  have tl : ∀ x, t x ≤ (if x = b.2.1 then k else t x) := fun x => by
    split
    · exact h.le x
    · exact Nat.le_refl _
  refine ⟨fun x => ?_, fun d hd ht => ?_, fun d hd ht => ?_, fun x hx => ?_, ?_⟩
  · split
    · exact Nat.le_refl _
    · exact h.le x
  · by_cases hx : d.1 = b.2.1
    · rw [if_pos hx] at ht
      omega
    · rw [if_neg hx] at ht
      exact sat_raise (h.old d hd ht) hl hx
  · by_cases hx : d.1 = b.2.1
    · rw [if_pos hx] at ht
      omega
    · rw [if_neg hx] at ht
      rcases List.mem_append.mp hd with hd | hd
      · exact sat_raise (h.now d hd ht) hl hx
      · rw [List.mem_singleton.mp hd]
        unfold sat St.raise
        dsimp only
        rw [if_neg huv, if_pos rfl]
        exact Int.le_refl _
  · by_cases e : x = b.2.1
    · subst e
      refine ⟨b, raise_new, ?_⟩
      rw [if_pos rfl, if_neg huv]
      rcases Nat.lt_or_ge (t b.1 + 1) k with c | c
      · have := h.old b hb c
        unfold sat at this
        unfold lifts at hl
        omega
      · exact c
    · rw [if_neg e] at hx ⊢
      obtain ⟨d, h1, h2⟩ := h.cau x hx
      exact ⟨d, (raise_old e).trans h1, Nat.le_trans h2 (Nat.succ_le_succ (tl d.1))⟩
  · rw [if_neg (fun e => hz e.symm)]
    exact h.zero
theorem pass_mid {bs : List B} {k : Nat} (hne : ∀ b ∈ bs, b.1 ≠ b.2.1) : ∀ (cs ds : List B) (s s' : St) (t : Str → Nat) (r r' : Option Str), bs = ds ++ cs → Mid Z bs ds k s t → (∀ v, r = some v → t v = k) → pass Z cs s r = (false, s', r') → ∃ t', Mid Z bs bs k s' t' ∧ ∀ v, r' = some v → t' v = k
  | [], ds, s, s', t, r, r', e, h, hr, hp => by
    unfold pass at hp
    cases hp
    rw [List.append_nil] at e
    subst e
    exact ⟨t, h, hr⟩
  | b :: cs, ds, s, s', t, r, r', e, h, hr, hp => by
    have hb : b ∈ bs := by rw [e]; exact List.mem_append.mpr (.inr List.mem_cons_self)
    have e2 : bs = (ds ++ [b]) ++ cs := by rw [e, List.append_assoc]; rfl
    unfold pass at hp
    split at hp
    · rename_i hl
      split at hp
      · cases hp
      · rename_i hz
        refine pass_mid hne cs (ds ++ [b]) _ s' _ _ r' e2 (h.raise hb hl (hne b hb) hz) (fun v ev => ?_) hp
        rw [← Option.some.inj ev]
        exact if_pos rfl
    · rename_i hl
      refine pass_mid hne cs (ds ++ [b]) s s' t r r' e2 ⟨h.le, h.old, fun d hd ht => ?_, h.cau, h.zero⟩ hr hp
      rcases List.mem_append.mp hd with hd | hd
      · exact h.now d hd ht
      · rw [List.mem_singleton.mp hd]
        unfold sat
        omega
/-- a pass that stops has raised the zero name -/
theorem pass_stop : ∀ (cs : List B) (s s' : St) (r r' : Option Str), pass Z cs s r = (true, s', r') → r' = some Z ∧ ∃ b, s'.cau Z = some b
  | [], s, s', r, r', h => by unfold pass at h; cases h
  | b :: cs, s, s', r, r', h => by
    unfold pass at h
    split at h
    · split at h
      · rename_i hz
        cases h
        exact ⟨congrArg some hz, b, by rw [← hz]; exact raise_new⟩
      · exact pass_stop cs _ s' _ r' h
    · exact pass_stop cs s s' r r' h
/-- where the passes end with a name: the zero name was raised, or the stamp of the name is that of the last pass -/
theorem passes_some {bs : List B} (hne : ∀ b ∈ bs, b.1 ≠ b.2.1) : ∀ (m k : Nat) (s s' : St) (t : Str → Nat) (r : Option Str) (v : Str), 1 ≤ k → Stp Z bs k s t → (m = 0 → ∃ k0, k = k0 + 1 ∧ ∀ w, r = some w → t w = k0) → passes Z bs m s r = (s', some v) →
    (v = Z ∧ ∃ b, s'.cau Z = some b) ∨ ∃ t' : Str → Nat, t' v + 1 = k + m ∧ (∀ x, 1 ≤ t' x → ∃ b, s'.cau x = some b ∧ t' x ≤ t' b.1 + 1) ∧ t' Z = 0
  | 0, k, s, s', t, r, v, hk, h, h0, hp => by
    unfold passes at hp
    cases hp
    obtain ⟨k0, rfl, h1⟩ := h0 rfl
    exact .inr ⟨t, by rw [h1 v rfl], h.cau, h.zero⟩
  | m + 1, k, s, s', t, r, v, hk, h, h0, hp => by
    unfold passes at hp
    split at hp
    · rename_i s1 r1 e
      cases hp
      obtain ⟨e1, e2⟩ := pass_stop _ _ _ _ _ e
      exact .inl ⟨Option.some.inj e1, e2⟩
    · cases hp
    · rename_i s1 w e
      obtain ⟨t', M, hw⟩ := pass_mid hne bs [] s s1 t none (some w) (by simp) ⟨fun x => Nat.le_of_lt (h.lt x), h.old, fun b hb => absurd hb (by simp), h.cau, h.zero⟩ (fun v z => by cases z) e
      have S : Stp Z bs (k + 1) s1 t' := ⟨fun x => Nat.lt_succ_of_le (M.le x), fun b hb ht => M.now b hb (by omega), M.cau, M.zero⟩
      have q := passes_some hne m (k + 1) s1 s' t' (some w) v (by omega) S (fun _ => ⟨k, rfl, fun w' e' => by rw [← Option.some.inj e']; exact hw w rfl⟩) hp
      rw [show k + (m + 1) = k + 1 + m by omega]
      exact q
end Sol

set_option Elab.async false
set_option maxRecDepth 100000
set_option maxHeartbeats 1000000
/-! The cycle that the causes run into. No Lean of the program. -/
namespace Sol
open PySem
variable {Z : Str}
def nx (s : St) (x : Str) : Str := match s.cau x with | some b => b.1 | none => x
def it (s : St) : Nat → Str → Str
  | 0, x => x
  | m + 1, x => nx s (it s m x)
theorem it_add (s : St) (a : Nat) (x : Str) : ∀ m, it s (m + a) x = it s m (it s a x)
  | 0 => by rw [Nat.zero_add]; rfl
  | m + 1 => by
    rw [show m + 1 + a = (m + a) + 1 by omega]
    show nx s (it s (m + a) x) = nx s (it s m (it s a x))
    rw [it_add s a x m]
theorem few : ∀ (l D : List Str), l.Nodup → (∀ x ∈ l, x ∈ D) → l.length ≤ D.length
  | [], _, _, _ => Nat.zero_le _
  | x :: l, D, hn, h => by
    obtain ⟨h1, h2⟩ := List.nodup_cons.mp hn
    have hx := h x List.mem_cons_self
    have q := few l (D.erase x) h2 fun y hy => (List.mem_erase_of_ne (fun e => h1 (by rw [← e]; exact hy))).mpr (h y (List.mem_cons_of_mem _ hy))
    rw [List.length_erase_of_mem hx] at q
    have := List.length_pos_of_mem hx
    rw [List.length_cons]
    omega
/-- more places than names: two places with the same name -/
theorem twice (f : Nat → Str) (D : List Str) : ∀ n, D.length < n → (∀ j, j < n → f j ∈ D) → ∃ i j, i < j ∧ j < n ∧ f i = f j := by
  intro n hn h
  refine Classical.byContradiction fun hc => ?_
  have nd : ((List.range n).map f).Nodup := by
    refine List.pairwise_map.mpr ?_
    refine (List.pairwise_lt_range (n := n)).imp_of_mem ?_
    intro a b ha hb hab e
    exact hc ⟨a, b, hab, List.mem_range.mp hb, e⟩
  have q := few _ D nd fun x hx => by
    obtain ⟨j, hj, rfl⟩ := List.mem_map.mp hx
    exact h j (List.mem_range.mp hj)
  rw [List.length_map, List.length_range] at q
  omega
theorem least (P : Nat → Prop) : ∀ n, P n → ∃ k, k ≤ n ∧ P k ∧ ∀ q, q < k → ¬ P q := by
  intro n
  induction n using Nat.strongRecOn with
  | ind n ih =>
    intro h
    by_cases c : ∃ m, m < n ∧ P m
    · obtain ⟨m, hm, hp⟩ := c
      obtain ⟨k, h1, h2, h3⟩ := ih m hm hp
      exact ⟨k, by omega, h2, h3⟩
    · exact ⟨n, Nat.le_refl _, h, fun q hq hp => c ⟨q, hq, hp⟩⟩
/-- from v the causes go on for ever, and behind as many steps as names one is in a cycle -/
theorem runs_in {s : St} {ns : List Str} {v : Str} (h : ∀ j, j ≤ ns.length → it s j v ∈ ns ∧ ∃ b, s.cau (it s j v) = some b) :
    (∀ m, it s m v ∈ ns ∧ ∃ b, s.cau (it s m v) = some b) ∧ ∀ M, ns.length ≤ M → ∃ p, 1 ≤ p ∧ p ≤ ns.length ∧ it s p (it s M v) = it s M v ∧ ∀ q, 1 ≤ q → q < p → it s q (it s M v) ≠ it s M v := by
  obtain ⟨i, j, hij, hj, e⟩ := twice (fun j => it s j v) ns (ns.length + 1) (Nat.lt_succ_self _) fun j hj => (h j (by omega)).1
  have back : ∀ m, j ≤ m → it s m v = it s (m - (j - i)) v := fun m hm => by
    rw [show m = (m - j) + j by omega, it_add, ← e, ← it_add]
    congr 1
    omega
  have all : ∀ m, it s m v ∈ ns ∧ ∃ b, s.cau (it s m v) = some b := fun m => by
    induction m using Nat.strongRecOn with
    | ind m ih =>
      by_cases c : m ≤ ns.length
      · exact h m c
      · rw [back m (by omega)]
        exact ih _ (by omega)
  refine ⟨all, fun M hM => ?_⟩
  have per : it s (j - i) (it s M v) = it s M v := by
    rw [← it_add, back (j - i + M) (by omega)]
    congr 1
    omega
  obtain ⟨p, h1, h2, h3⟩ := least (fun p => 1 ≤ p ∧ it s p (it s M v) = it s M v) (j - i) ⟨by omega, per⟩
  exact ⟨p, h2.1, by omega, h2.2, fun q hq hqp e => h3 q hqp ⟨hq, e⟩⟩
/-- the causes from x backward -/
def back (s : St) : Nat → Str → List B
  | 0, _ => []
  | m + 1, x => back s m x ++ (match s.cau (it s m x) with | some b => [b] | none => [])
theorem back_len {s : St} {x : Str} (h : ∀ m, ∃ b, s.cau (it s m x) = some b) : ∀ m, (back s m x).length = m
  | 0 => rfl
  | m + 1 => by
    obtain ⟨b, e⟩ := h m
    show (back s m x ++ _).length = _
    rw [e, List.length_append, back_len h m]
    rfl
theorem back_ch {s : St} {x : Str} (h : ∀ m, ∃ b, s.cau (it s m x) = some b) : ∀ m, Ch s.cau x (back s m x) (it s m x)
  | 0 => .nil x
  | m + 1 => by
    obtain ⟨b, e⟩ := h m
    refine (back_ch h m).app ?_
    show Ch s.cau (it s m x) (match s.cau (it s m x) with | some b => [b] | none => []) (nx s (it s m x))
    rw [e]
    have : nx s (it s m x) = b.1 := by unfold nx; rw [e]
    rw [this]
    exact .cons e (.nil _)
/-- what the walk along the causes gives: a ring of bounds with a sum below zero -/
theorem ring_sum {s : St} (ok : Ok s) {x : Str} (h : ∀ m, ∃ b, s.cau (it s m x) = some b) {p : Nat} (hp : 1 ≤ p) (e : it s p x = x) : sumC (back s p x) < 0 := by
  have c := back_ch h p
  rw [e] at c
  exact ok.neg x _ (fun z => by have := back_len h p; rw [z] at this; have : (0 : Nat) = p := this; omega) c
/-- what the passes leave of the causes -/
structure Tot (Z : Str) (ns : List Str) (s : St) : Prop where
  has : ∀ x ∈ ns, x ≠ Z → ∃ b, s.cau x = some b
  dom : ∀ x b, s.cau x = some b → x ∈ ns
  inn : ∀ x b, s.cau x = some b → b.1 ∈ ns
theorem Tot.raise {ns : List Str} {s : St} {b : B} (h : Tot Z ns s) (hu : b.1 ∈ ns) (hv : b.2.1 ∈ ns) : Tot Z ns (s.raise b) := by
  refine ⟨fun x hx hz => ?_, fun x d e => ?_, fun x d e => ?_⟩
  · by_cases e : x = b.2.1
    · exact ⟨b, by rw [e]; exact raise_new⟩
    · obtain ⟨d, hd⟩ := h.has x hx hz
      exact ⟨d, (raise_old e).trans hd⟩
  · by_cases hx : x = b.2.1
    · rw [hx]
      exact hv
    · rw [raise_old hx] at e
      exact h.dom x d e
  · by_cases hx : x = b.2.1
    · subst hx
      rw [raise_new] at e
      rw [← Option.some.inj e]
      exact hu
    · rw [raise_old hx] at e
      exact h.inn x d e
theorem tot_start {ns : List Str} (hz : Z ∈ ns) : Tot Z ns (start Z ns) := by
  refine ⟨fun x hx hne => ⟨(Z, x, 0), by unfold start; dsimp only; rw [if_pos ⟨hx, hne⟩]⟩, fun x b e => ?_, fun x b e => ?_⟩
  · unfold start at e
    dsimp only at e
    split at e
    · rename_i h
      exact h.1
    · cases e
  · unfold start at e
    dsimp only at e
    split at e
    · rw [← Option.some.inj e]
      exact hz
    · cases e
/-- the state where a ring is asked for -/
theorem ring_at {ns : List Str} {bs : List B} {s : St} {v : Str} (hz : Z ∈ ns) (hb : ∀ b ∈ bs, b.1 ∈ ns ∧ b.2.1 ∈ ns ∧ b.1 ≠ b.2.1) (hp : passes Z bs (ns.length + 1) (start Z ns) none = (s, some v)) : Ok s ∧ Own Z bs s ∧ v ∈ ns ∧
    (∀ m, it s m v ∈ ns ∧ ∃ b, s.cau (it s m v) = some b) ∧ ∀ M, ns.length ≤ M → ∃ p, 1 ≤ p ∧ p ≤ ns.length ∧ it s p (it s M v) = it s M v ∧ ∀ q, 1 ≤ q → q < p → it s q (it s M v) ≠ it s M v := by
  have e1 : (passes Z bs (ns.length + 1) (start Z ns) none).1 = s := by rw [hp]
  have ok : Ok s := e1 ▸ passes_inv (I := Ok) (Z := Z) (bs := bs) (fun s b hb' h hl => h.raise hl (hb b hb').2.2) (start_ok Z ns)
  have ow : Own Z bs s := e1 ▸ passes_inv (I := Own Z bs) (Z := Z) (bs := bs) (fun s b hb' h hl => own_raise h hb') (own_start bs ns)
  have tt : Tot Z ns s := e1 ▸ passes_inv (I := Tot Z ns) (Z := Z) (bs := bs) (fun s b hb' h hl => h.raise (hb b hb').1 (hb b hb').2.1) (tot_start hz)
  have key : ∀ j, j ≤ ns.length → it s j v ∈ ns ∧ ∃ b, s.cau (it s j v) = some b := by
    rcases passes_some (fun b h => (hb b h).2.2) (ns.length + 1) 1 (start Z ns) s (fun _ => 0) none v (Nat.le_refl _) ⟨fun _ => Nat.zero_lt_one, fun b _ h => absurd h (by omega), fun x h => absurd h (by omega), rfl⟩ (fun h => by omega) hp with ⟨rfl, b0, hb0⟩ | ⟨t, ht, hc, h0⟩
    · intro j
      induction j with
      | zero => intro _; exact ⟨hz, b0, hb0⟩
      | succ j ih =>
        intro hj
        obtain ⟨h1, b, h2⟩ := ih (by omega)
        have e : it s (j + 1) v = b.1 := by show nx s (it s j v) = _; unfold nx; rw [h2]
        rw [e]
        have hin := tt.inn _ _ h2
        refine ⟨hin, ?_⟩
        by_cases c : b.1 = v
        · exact ⟨b0, c ▸ hb0⟩
        · exact tt.has _ hin c
    · have st : ∀ j, j ≤ ns.length → ns.length + 1 ≤ t (it s j v) + j := by
        intro j
        induction j with
        | zero => intro _; show ns.length + 1 ≤ t v + 0; omega
        | succ j ih =>
          intro hj
          have h1 := ih (by omega)
          obtain ⟨b, h2, h3⟩ := hc (it s j v) (by omega)
          have e : it s (j + 1) v = b.1 := by show nx s (it s j v) = _; unfold nx; rw [h2]
          rw [e]
          omega
      intro j hj
      have h1 := st j hj
      obtain ⟨b, h2, h3⟩ := hc (it s j v) (by omega)
      exact ⟨tt.dom _ _ h2, b, h2⟩
  obtain ⟨h1, h2⟩ := runs_in key
  exact ⟨ok, ow, (h1 0).1, h1, h2⟩
end Sol

set_option Elab.async false
set_option maxRecDepth 100000
set_option maxHeartbeats 2000000
/-! name = {k: v for ..} on one line, the name a local. -/
namespace KX
open PySem PySem.Spec PyProof.Rows L2
section
variable {X : Cx}
theorem ps_setDc {j : Nat} {nm : Str} {pn : Pos} {kx vx tg iter : Expr} {ifs : List Expr} {scope : Scope} {own : List (Str × Nat)} {pos ps0 : Pos} {wi : TI} {g : TG} {tt : TT} {tk tv : TE} (hc : X.calm = true) (hN : X.N.Nodup) (hy : X.N[j]? = some nm) (hyl : X.env.scope.names.lookup nm = some .local)
    (hw : swapsWith (.DictComp kx vx [⟨tg, iter, ifs, 0⟩] scope pos) (some (.Name nm pn)) ps0.line X.env = pure true) (hi : PI X tg iter wi) (ok : BlkOk X.N X.env.scope scope own)
    (g1 : ∀ (s : Shared) (H : Hp) (C : Addr) (cl : List (Str × Addr)) (fp : List Addr), PG (X.blk s H scope (compEnvC scope cl C X.env) fp) tg g) (g2 : ∀ (s : Shared) (H : Hp) (C : Addr) (cl : List (Str × Addr)) (fp : List Addr), PTs (X.blk s H scope (compEnvC scope cl C X.env) fp) ifs tt)
    (g3 : ∀ (s : Shared) (H : Hp) (C : Addr) (cl : List (Str × Addr)) (fp : List Addr), PE (X.blk s H scope (compEnvC scope cl C X.env) fp) kx tk) (g4 : ∀ (s : Shared) (H : Hp) (C : Addr) (cl : List (Str × Addr)) (fp : List Addr), PE (X.blk s H scope (compEnvC scope cl C X.env) fp) vx tv)
    (hs : ∀ x, foldedSetIterable iter X.env x = pure x := by intro _; rfl) :
    PS X (.Assign [.Name nm pn] (.DictComp kx vx [⟨tg, iter, ifs, 0⟩] scope pos) ps0) (tAsg (tDc wi g tt tk tv (own.map (·.2))) (gName j)) := by
  refine ⟨fun pins s σ H D I h => ?_⟩
  rw [exec_Assign_Name_used _ _ _ _ hw]
  refine wpAny_bind (wpAny_standAt (wpAny_bind ?_))
  show wpAny _ X.A (do let _ ← comprehension (.DictComp kx vx [⟨tg, iter, ifs, 0⟩] scope pos) scope X.env (firstIterPos [⟨tg, iter, ifs, 0⟩] pos) newDict false (eval iter X.env) (some (assign (.Name nm pn) X.env))) _ _ s
  have h0 : tDc wi g tt tk tv (own.map (·.2)) σ H (fun x H1 => gName j x σ H1 D.nx) := h
  refine wpAny_bind (thn (dc_core (Qf := fun _ s' => SP X pins D .next s') hc hN I hi ok g1 g2 g3 g4 hs h0 fun D0 C s' m H' I1 q hn f => ?_) fun _ s' hq => wpAny_pure (wpAny_pure hq))
  show wpAny _ _ (assign (.Name nm pn) X.env (.ref D0)) _ _ _
  refine wpAny_assign_Name (store_ok2 (v := V.ref D0) I1 hN hy (.inl hyl) rfl (fun s2 I2 ⟨a, sb, ha⟩ => ?_) (.inr hyl))
  obtain ⟨f0, f1, f2, f3, f4, f5⟩ := f
  have hCa : C ≠ a := ha.elim (fun z => by rw [z]; exact f1) fun z e => f4 nm a z e.symm
  exact ⟨m, hn.sameBut sb hCa, fun h3 sb3 => ⟨_, H', I2.turned (t' := s2.toks) (fun b o hb e => (sb3.2 b hb).trans e) f0 f1 f3 f4 f5, q⟩⟩
theorem swd_true {kx vx : Expr} {gs : List Comprehension} {scope : Scope} {pos pn : Pos} {nm : Str} {l : Nat} {env : Env} (hk : env.scope.kind = .function) (hy : env.scope.names.lookup nm = some .local) (hl : (pn.line == pos.line) = true)
    (ha : (scope.names.any fun (n, k) => n == nm && (k == .local || k == .cell)) = false) : swapsWith (.DictComp kx vx gs scope pos) (some (.Name nm pn)) l env = pure true := by
  have k1 : env.kindOf nm = some .local := hy
  have k2 : env.blockKind = .function := by unfold Env.blockKind; rw [hk]; rfl
  unfold swapsWith
  simp only [k2, k1, ha, Expr.pos, hl]
  rfl
end
end KX

set_option Elab.async false
set_option maxRecDepth 100000
set_option maxHeartbeats 2000000
namespace K31
open PySem PySem.Spec PyProof.Rows L2 He KX Sol StX
abbrev sSolved : Stmt := top 11
abbrev sRing2 : Stmt := top 12
/-- a bound as a tuple -/
def BAt (H : Hp) (x : V) (b : Sol.B) : Prop := ∃ t, x = .ref t ∧ H t = some (.tup [.str b.1, .str b.2.1, .int b.2.2])
theorem BAt.same {H G : Hp} {x : V} {b : Sol.B} (h : BAt H x b) (s : Same H G) : BAt G x b := h.imp fun t h => ⟨h.1, s _ _ h.2⟩
/-- the dict of causes -/
structure CausAt (H : Hp) (d : Addr) (s : Sol.St) (ks : List Str) (kvs : List (Key × V)) : Prop where
  at_ : H d = some (.dK kvs)
  ent : Paired (fun (kv : Key × V) x => kv.1 = .inr x ∧ ∃ b, s.cau x = some b ∧ BAt H kv.2 b) kvs ks
  nd : ks.Nodup
  dom : ∀ x b, s.cau x = some b → x ∈ ks
def spRing2 : Sp := fun vs H Q _ => ∃ (d : Addr) (v : Str) (s : Sol.St) (ks : List Str) (kvs : List (Key × V)) (p : Nat), vs = [.ref d, .str v] ∧ CausAt H d s ks kvs ∧ ks.length ≤ 500 ∧ (∀ m, ∃ b, s.cau (it s m v) = some b) ∧ 1 ≤ p ∧ p ≤ 500 ∧
  it s p (it s (ks.length + 1) v) = it s (ks.length + 1) v ∧ (∀ q, 1 ≤ q → q < p → it s q (it s (ks.length + 1) v) ≠ it s (ks.length + 1) v) ∧
  ∀ r xs H', Same H H' → H r = none → H' r = some (.lst xs) → Paired (BAt H') xs (back s p (it s (ks.length + 1) v)).reverse → Q (.ref r) H'
theorem pr_imp {α β : Type} {R S : α → β → Prop} (f : ∀ a b, R a b → S a b) : ∀ {xs : List α} {ys : List β}, Paired R xs ys → Paired S xs ys
  | _, _, .nil => .nil
  | _, _, .cons h t => .cons (f _ _ h) (pr_imp f t)
theorem pr_app {α β : Type} {R : α → β → Prop} : ∀ {xs us : List α} {ys vs : List β}, Paired R xs ys → Paired R us vs → Paired R (xs ++ us) (ys ++ vs)
  | _, _, _, _, .nil, h => h
  | _, _, _, _, .cons h t, g => .cons h (pr_app t g)
theorem pr_at {α β : Type} {R : α → β → Prop} : ∀ {xs : List α} {ys : List β}, Paired R xs ys → ∀ {i : Nat} {x : α}, xs[i]? = some x → ∃ y, ys[i]? = some y ∧ R x y
  | _, _, .nil, _, _, e => by simp at e
  | _, _, .cons h t, 0, x, e => by
    cases e
    exact ⟨_, rfl, h⟩
  | _, _, .cons h t, i + 1, x, e => pr_at t (i := i) e
theorem pr_rev {α β : Type} {R : α → β → Prop} : ∀ {xs : List α} {ys : List β}, Paired R xs ys → Paired R xs.reverse ys.reverse
  | _, _, .nil => .nil
  | _, _, .cons h t => by
    rw [List.reverse_cons, List.reverse_cons]
    exact pr_app (pr_rev t) (.cons h .nil)
theorem atI_last {α : Type} (xs : List α) (x : α) : atI (xs ++ [x]) (-1) = some x := by
  unfold atI ixN
  have hl : (xs ++ [x]).length = xs.length + 1 := by simp
  rw [if_neg (by decide), if_pos (by rw [hl]; omega), hl]
  show (xs ++ [x])[((xs.length + 1 : Nat) + (-1 : Int)).toNat]? = some x
  rw [show (((xs.length + 1 : Nat) : Int) + (-1)).toNat = xs.length by omega]
  simp
theorem pr_last {α β : Type} {R : α → β → Prop} {ys : List β} {y : β} : ∀ {xs : List α} {zs : List β}, zs = ys ++ [y] → Paired R xs zs → ∃ x0 x, xs = x0 ++ [x] ∧ Paired R x0 ys ∧ R x y := by
  induction ys with
  | nil =>
    rintro xs zs rfl h
    cases h with
    | cons h t => cases t; exact ⟨[], _, rfl, .nil, h⟩
  | cons z ys ih =>
    rintro xs zs rfl h
    cases h with
    | cons h t =>
      obtain ⟨x0, x, rfl, h1, h2⟩ := ih rfl t
      exact ⟨_ :: x0, x, rfl, .cons h h1, h2⟩
theorem BAt.kept {F : Addr} {H G : Hp} {x : V} {b : Sol.B} (h : BAt H x b) (k : ∀ y o, y ≠ F → H y = some o → G y = some o) (hF : ∀ zs, H F ≠ some (.tup zs)) : BAt G x b :=
  h.imp fun t h => ⟨h.1, k _ _ (fun e => hF _ (e ▸ h.2)) h.2⟩
theorem val_in : ∀ {kvs : List (Key × V)} {ks : List Str} {R : Key × V → Str → Prop}, Paired R kvs ks → (∀ kv x, R kv x → kv.1 = .inr x) → ks.Nodup → ∀ {x : Str}, x ∈ ks → ∃ v, valV kvs (.inr x) = some v ∧ R (.inr x, v) x
  | _, _, _, .nil, _, _, _, h => absurd h (by simp)
  | kv :: kvs, k :: ks, R, .cons h t, hR, hn, x, hx => by
    obtain ⟨h1, h2⟩ := List.nodup_cons.mp hn
    obtain ⟨key, val⟩ := kv
    have ek : key = .inr k := hR _ _ h
    subst ek
    rcases List.mem_cons.mp hx with rfl | hx
    · refine ⟨val, ?_, h⟩
      unfold valV
      rw [List.find?_cons, show decide ((Sum.inr x : Key) = Sum.inr x) = true from decide_eq_true rfl]
      rfl
    · obtain ⟨v, e1, e2⟩ := val_in t hR h2 hx
      refine ⟨v, ?_, e2⟩
      unfold valV at e1 ⊢
      have hne : k ≠ x := fun e => h1 (by rw [e]; exact hx)
      rw [List.find?_cons, show decide ((Sum.inr k : Key) = Sum.inr x) = false from decide_eq_false fun e => hne (by injection e)]
      exact e1
theorem CausAt.get {H : Hp} {d : Addr} {s : Sol.St} {ks : List Str} {kvs : List (Key × V)} (h : CausAt H d s ks kvs) {x : Str} {b : Sol.B} (e : s.cau x = some b) : ∃ t, DGet H d (V.str x) (some (V.ref t)) ∧ H t = some (.tup [.str b.1, .str b.2.1, .int b.2.2]) := by
  obtain ⟨v, e1, _, b', e2, t, e3, ht⟩ := val_in h.ent (fun _ _ z => z.1) h.nd (h.dom x b e)
  rw [e] at e2
  obtain rfl := Option.some.inj e2
  dsimp only at e3
  subst e3
  exact ⟨t, .inl ⟨kvs, .inr x, .inl h.at_, rfl, e1.symm⟩, ht⟩
theorem CausAt.same {H G : Hp} {d : Addr} {s : Sol.St} {ks : List Str} {kvs : List (Key × V)} (h : CausAt H d s ks kvs) (k : Same H G) : CausAt G d s ks kvs :=
  ⟨k _ _ h.at_, pr_imp (fun _ _ z => ⟨z.1, z.2.imp fun b z => ⟨z.1, z.2.same k⟩⟩) h.ent, h.nd, h.dom⟩
section
variable {P : Program} {w : World} {K : PySem.W.Frag} {mg : Str → Option Value} {base : Heap}
theorem scRing2 : FnScope ["causes", "name", "_", "found"] ["causes", "name"] (defScope sRing2) := ⟨rfl, rfl, rfl, by decide +kernel, rfl, by decide +kernel, by decide +kernel⟩
-- ["bounds", "values", "causes", "_", "raised", "u", "v", "c", "name", "bound", "end"]
theorem ok_ring2 {f : Addr} {fd : FuncData} (F : FnP K "_ring" sRing2 f fd) (n_range : mg "range" = none) (n_len : mg "len" = none) : FnOk P w K mg base CX0 1 f fd ["causes", "name"] spRing2 := by
  refine F.ok scRing2 (fun vs H Q E h => ?_) (fun cdv A outer s H vs Q E hr h => ?_)
  · obtain ⟨d, v, s, ks, kvs, p, rfl, _⟩ := h
    rfl
  · obtain ⟨d, v, st, ks, kvs, p, rfl, hC, hlk, hall, hp1, hp5, hper, hmin, k⟩ := h
    have nd := scRing2.nd
    have hu := Nat.lt_of_le_of_lt (Nat.add_le_add_left (by decide : 1 ≤ 64) _) hr.units
    refine ⟨_, PSs.nox (pss_cons (ps_for PassesOwn.never rfl (pi_range1 (by rfl) n_range (pa_cons (pe_op op_add (pe_callB call_lenD (by rfl) n_len PySem.boot_len (pa_cons (pv 0) pa_nil)) pe_int) pa_nil)) (pg_name (i := 2) nd rfl (Or.inl rfl))
(pss_one (ps_set (i := 1) nd rfl (Or.inl rfl) (pe_ix ix_tup (pe_dget hu (pv 0) (pv 1) (fun _ _ => rfl)) pe_int (fun _ _ => rfl)))))
(pss_cons (ps_set (i := 3) nd rfl (Or.inl rfl) (pe_lst (pa_cons (pe_dget hu (pv 0) (pv 1) (fun _ _ => rfl)) pa_nil)))
(pss_cons (ps_while PassesOwn.never (pt_cmpR op_ne (pe_ix ix_tup (pe_ix ix_list (pv 3) (pe_un un_neg pe_int) (fun _ _ => rfl)) pe_int (fun _ _ => rfl)) (pv 1) (nomark _))
(pss_one (ps_expr (pe_bm PySem.F.plainAttrs_list PySem.F.slot_list_append PySem.F.type_list_append mt_append (pv 3) (pa_cons (pe_dget hu (pv 0) (pe_ix ix_tup (pe_ix ix_list (pv 3) (pe_un un_neg pe_int) (fun _ _ => rfl)) pe_int (fun _ _ => rfl)) (fun _ _ => rfl)) pa_nil)))))
(pss_one (ps_ret (pe_revL (pv 3))))))), ?_⟩
    have nxe : ∀ {x : Str} {b : Sol.B}, st.cau x = some b → nx st x = b.1 := fun {x b} e => by unfold nx; rw [e]
    -- the steps
    refine ⟨_, rfl, d, kvs, rfl, hC.at_, _, _, rfl, rfl, _, rfl, ?_, ?_, ?_⟩
    · have := Paired.length hC.ent
      omega
    · have := Paired.length hC.ent
      omega
    rw [Paired.length hC.ent, show ((ks.length : Int) + 1).toNat = ks.length + 1 by omega]
    refine for_it (walk_rng (n := ks.length + 1)) (fun i σ G => ∃ w2 w3, σ = [some (.ref d), some (.str (it st i v)), w2, w3] ∧ G = H)
      ⟨none, none, rfl, rfl⟩ (fun _ _ _ _ _ => trivial) ?_ ?_
    · rintro i x σ G' G hi ⟨w2, w3, rfl, rfl⟩ ⟨rfl, rfl⟩
      obtain ⟨b, hb⟩ := hall i
      obtain ⟨t, hg, ht⟩ := hC.get hb
      dsimp only [gName, List.set]
      refine ⟨_, rfl, _, rfl, d, _, rfl, hg, t, _, _, _, rfl, rfl, SqT.of ht, rfl, some (.int (i : Int)), w3, ?_, rfl⟩
      show [some (V.ref d), some (V.str b.1), _, _] = [some (V.ref d), some (V.str (nx st (it st i v))), _, _]
      rw [nxe hb]
    rintro σ G ⟨w2, w3, rfl, rfl⟩
    generalize hy : it st (ks.length + 1) v = y at hper hmin k ⊢
    have hally : ∀ m, ∃ b, st.cau (it st m y) = some b := fun m => by rw [← hy, ← it_add]; exact hall _
    obtain ⟨b0, hb0⟩ := hally 0
    obtain ⟨t0, hg0, ht0⟩ := hC.get hb0
    refine ⟨_, rfl, _, rfl, d, _, rfl, hg0, (by show 1 ≤ sizeLine; decide), fun F0 nF => ?_⟩
    have nd1 : d ≠ F0 := fun e => by rw [← e, hC.at_] at nF; cases nF
    dsimp only [gName, List.set]
    refine ⟨fun m σ G' => ∃ q, m + (q + 1) = p ∧ ∃ xs, σ = [some (.ref d), some (.str y), w2, some (.ref F0)] ∧ G' F0 = some (.lst xs) ∧ Paired (BAt G') xs (back st (q + 1) y) ∧ ∀ x o, x ≠ F0 → G x = some o → G' x = some o, ⟨p - 1, 0, by omega, _, rfl, upd_same, ?_, fun x o nx e => (upd_ne nx).trans e⟩, ?_⟩
    · show Paired _ _ ([] ++ match st.cau y with | some b => [b] | none => [])
      rw [show st.cau y = some b0 from hb0]
      exact .cons ⟨t0, rfl, (upd_ne (fun e => by rw [e, nF] at ht0; cases ht0)).trans ht0⟩ .nil
    rintro m σ G' ⟨q, hm, xs, rfl, hF, hP, hk⟩
    have hCk : CausAt G' d st ks kvs := ⟨hk _ _ nd1 hC.at_, pr_imp (fun _ _ z => ⟨z.1, z.2.imp fun b z => ⟨z.1, z.2.kept hk (fun zs e => by rw [nF] at e; cases e)⟩⟩) hC.ent, hC.nd, hC.dom⟩
    obtain ⟨bl, hbl⟩ := hally q
    have eb : back st (q + 1) y = back st q y ++ [bl] := by
      show back st q y ++ (match st.cau (it st q y) with | some b => [b] | none => []) = _
      rw [hbl]
    have hP0 := hP
    obtain ⟨x0, xl, rfl, _, tl, rfl, htl⟩ := pr_last eb hP
    have enx : it st (q + 1) y = bl.1 := nxe hbl
    refine ⟨_, rfl, _, rfl, F0, _, _, _, rfl, rfl, SqL.of hF, atI_last _ _, tl, _, _, _, rfl, rfl, SqT.of htl, rfl, _, rfl, rfl, _, rfl, ?_⟩
    have hxl : (x0 ++ [V.ref tl]).length = q + 1 := by rw [Paired.length hP, back_len hally]
    by_cases c : bl.1 = y
    · rw [show (!decide (V.str bl.1 = V.str y)) = false from by rw [c, decide_eq_true rfl]; rfl]
      dsimp only
      rw [if_neg (by decide)]
      have hq : q + 1 = p := by
        rcases Nat.lt_or_ge (q + 1) p with h | h
        · exact absurd (enx.trans c) (hmin (q + 1) (by omega) h)
        · omega
      refine ⟨_, rfl, F0, _, rfl, SqL.of hF, fun r nr => ?_⟩
      have sr : Same G (upd G' r (.lst (x0 ++ [V.ref tl]).reverse)) := fun x o e => by
        have h1 := hk x o (fun z => by rw [z, nF] at e; cases e) e
        exact (upd_ne (ne_of_none h1 nr)).trans h1
      have nrG : G r = none := by
        cases e : G r with
        | none => rfl
        | some o => rw [hk r o (fun z => by rw [z, nF] at e; cases e) e] at nr; cases nr
      refine k r _ _ sr nrG upd_same ?_
      rw [← hq]
      exact pr_rev (pr_imp (fun x b z => z.imp fun t h => ⟨h.1, (upd_ne (ne_of_none h.2 nr)).trans h.2⟩) hP)
    · rw [show (!decide (V.str bl.1 = V.str y)) = true from by rw [decide_eq_false (fun e => c (by injection e))]; rfl]
      dsimp only
      rw [if_pos rfl]
      obtain ⟨bn, hbn⟩ := hally (q + 1)
      obtain ⟨tn, hgn, htn⟩ := hCk.get hbn
      rw [enx] at hgn
      have hqp : q + 1 < p := by
        rcases Nat.lt_or_ge (q + 1) p with h | h
        · exact h
        · rw [show p = q + 1 by omega, enx] at hper
          exact absurd hper c
      refine ⟨fun σ' G' => ∃ m', m' < m ∧ _, fun _ _ h => h, ?_⟩
      refine ⟨_, rfl, .inl ⟨rfl, _, SqL.of hF⟩, _, rfl, _, rfl, _, rfl, F0, _, _, _, rfl, rfl, SqL.of hF, atI_last _ _, tl, _, _, _, rfl, rfl, SqT.of htl, rfl, d, _, rfl, hgn, F0, _, _, rfl, rfl, hF, (by rw [hxl, sizeLine_eq]; omega), ?_⟩
      have kF : ∀ x o, x ≠ F0 → G' x = some o → upd G' F0 (.lst (x0 ++ [V.ref tl] ++ [V.ref tn])) x = some o := fun x o nx e => (upd_ne nx).trans e
      have hn : ∀ zs, G' F0 ≠ some (.tup zs) := fun zs e => by rw [hF] at e; cases e
      refine ⟨m - 1, by omega, q + 1, by omega, _, rfl, upd_same, ?_, fun x o nx e => kF x o nx (hk x o nx e)⟩
      show Paired _ _ (back st (q + 1) y ++ (match st.cau (it st (q + 1) y) with | some b => [b] | none => []))
      rw [hbn]
      exact pr_app (pr_imp (fun x b z => z.kept kF hn) hP) (.cons ⟨tn, rfl, kF _ _ (fun e => hn _ (e ▸ htn)) htn⟩ .nil)
end
end K31

set_option Elab.async false
set_option maxRecDepth 100000
set_option maxHeartbeats 2000000
/-! [e for a in xs for b in ys]: the two walks. -/
namespace KX
open PySem PySem.Spec PyProof.Rows L2
section
variable {J : It} {n : Nat} {G : Hp → Prop} {Y : Nat → Hp → V → Hp → Prop} {g g1 : TG} {tt tt1 : TT} {te : TE} {wi1 : TI} {vs vs1 : List Nat} {σ : L2.St} {H1 : Hp} {D : Addr} {Qd : Hp → Prop}
/-- what the inner walk asks -/
def Inn (J1 : It) (g1 : TG) (tt1 : TT) (te : TE) (vs1 : List Nat) (σ2 : L2.St) (D : Addr) (Nx : Hp → Prop) (H4 : Hp) : Prop := ∃ W1 : Nat → Nat → Hp → Prop, (∃ m, W1 0 m H4) ∧ ∀ j k H, W1 j k H →
  (J1.stop j H ∧ Nx H) ∨ (J1.go j H ∧ ∃ Nx1 : Hp → Prop, (∀ H', Nx1 H' → ∃ k', k' < k ∧ W1 (j + 1) k' H') ∧ ∀ x H', J1.yld j H x H' → g1 x (wipe σ2 vs1) H' fun σ3 H5 => wipe σ3 vs1 = wipe σ2 vs1 ∧ tt1 σ3 H5 fun b H6 =>
    if b = true then te σ3 H6 fun y H7 => ∃ acc, H7 D = some (.lst acc) ∧ acc.length < sizeLine ∧ Nx1 (upd H7 D (.lst (acc ++ [y]))) else Nx1 H6)
theorem in_it {Nx : Hp → Prop} (w : Walk J n G Y) (Pv : Nat → Hp → Prop) (h0 : Pv 0 H1) (hG : ∀ i H, i ≤ n → Pv i H → G H)
    (hs : ∀ i x H H', i < n → Pv i H → Y i H x H' → g1 x (wipe σ vs1) H' fun σ3 H5 => wipe σ3 vs1 = wipe σ vs1 ∧ tt1 σ3 H5 fun b H6 =>
      if b = true then te σ3 H6 fun y H7 => ∃ acc, H7 D = some (.lst acc) ∧ acc.length < sizeLine ∧ Pv (i + 1) (upd H7 D (.lst (acc ++ [y]))) else Pv (i + 1) H6) (hd : ∀ H, Pv n H → Nx H) : Inn J g1 tt1 te vs1 σ D Nx H1 := by
  refine ⟨fun i m H => i + m = n ∧ Pv i H, ⟨n, Nat.zero_add n, h0⟩, fun i m H h => ?_⟩
  obtain ⟨hm, p⟩ := h
  have q := hG i H (by omega) p
  rcases Nat.lt_or_ge i n with hi | hi
  · exact .inr ⟨w.goes i H hi q, Pv (i + 1), fun H' p' => ⟨m - 1, by omega, by omega, p'⟩, fun x H' y => hs i x H H' hi p (w.yields i H x H' hi q y)⟩
  · obtain rfl : i = n := by omega
    exact .inl ⟨w.stops H q, hd H p⟩
theorem lc2_it (w : Walk J n G Y) (Pv : Nat → Hp → Prop) (h0 : Pv 0 (upd H1 D (.lst []))) (hG : ∀ i H, i ≤ n → Pv i H → G H)
    (hs : ∀ i x H H', i < n → Pv i H → Y i H x H' → g x (wipe σ vs) H' fun σ2 H2 => wipe σ2 vs = wipe σ vs ∧ tt σ2 H2 fun b H3 =>
      if b = true then wi1 σ2 H3 fun J1 H4 => Inn J1 g1 tt1 te vs1 σ2 D (Pv (i + 1)) H4 else Pv (i + 1) H3) (hd : ∀ H, Pv n H → Qd H) :
    ∃ W : Nat → Nat → Hp → Prop, (∃ m, W 0 m (upd H1 D (.lst []))) ∧ ∀ i m H, W i m H →
      (J.stop i H ∧ Qd H) ∨ (J.go i H ∧ ∃ Nx : Hp → Prop, (∀ H', Nx H' → ∃ m', m' < m ∧ W (i + 1) m' H') ∧ ∀ x H', J.yld i H x H' → g x (wipe σ vs) H' fun σ2 H2 => wipe σ2 vs = wipe σ vs ∧ tt σ2 H2 fun b H3 =>
        if b = true then wi1 σ2 H3 fun J1 H4 => Inn J1 g1 tt1 te vs1 σ2 D Nx H4 else Nx H3) := by
  refine ⟨fun i m H => i + m = n ∧ Pv i H, ⟨n, Nat.zero_add n, h0⟩, fun i m H h => ?_⟩
  obtain ⟨hm, p⟩ := h
  have q := hG i H (by omega) p
  rcases Nat.lt_or_ge i n with hi | hi
  · exact .inr ⟨w.goes i H hi q, Pv (i + 1), fun H' p' => ⟨m - 1, by omega, by omega, p'⟩, fun x H' y => hs i x H H' hi p (w.yields i H x H' hi q y)⟩
  · obtain rfl : i = n := by omega
    exact .inl ⟨w.stops H q, hd H p⟩
end
theorem dc_it {J : It} {n : Nat} {Gd : Hp → Prop} {Y : Nat → Hp → V → Hp → Prop} (w : Walk J n Gd Y) {g : TG} {tt : TT} {tk tv : TE} {vs : List Nat} {σ : L2.St} {H1 : Hp} {D : Addr} {Qd : Hp → Prop} (Pv : Nat → Hp → Prop) (h0 : Pv 0 (upd H1 D (.dK []))) (hl : ∀ i H, i ≤ n → Pv i H → Gd H)
    (hs : ∀ (i : Nat) (x : V) (H H' : Hp), i < n → Pv i H → Y i H x H' → g x (wipe σ vs) H' fun σ2 H2 => wipe σ2 vs = wipe σ vs ∧ tt σ2 H2 fun b H3 => if b = true then tk σ2 H3 fun y H4 => tv σ2 H4 fun z H5 => ∃ (kvs : List (Key × V)) (k : Key), y = kV k ∧ H5 D = some (.dK kvs) ∧ kvs.length < sizeLine ∧ Pv (i + 1) (upd H5 D (.dK (putK kvs k z))) else Pv (i + 1) H3)
    (hd : ∀ H, Pv n H → Qd H) :
    ∃ W : Nat → Nat → Hp → Prop, (∃ m, W 0 m (upd H1 D (.dK []))) ∧ ∀ i m H, W i m H →
      (J.stop i H ∧ Qd H) ∨ (J.go i H ∧ ∃ Nx : Hp → Prop, (∀ H', Nx H' → ∃ m', m' < m ∧ W (i + 1) m' H') ∧ ∀ x H', J.yld i H x H' → g x (wipe σ vs) H' fun σ2 H2 => wipe σ2 vs = wipe σ vs ∧ tt σ2 H2 fun b H3 => if b = true then tk σ2 H3 fun y H4 => tv σ2 H4 fun z H5 =>
        ∃ (kvs : List (Key × V)) (k : Key), y = kV k ∧ H5 D = some (.dK kvs) ∧ kvs.length < sizeLine ∧ Nx (upd H5 D (.dK (putK kvs k z))) else Nx H3) := by
  refine ⟨fun i m H => i + m = n ∧ Pv i H, ⟨n, Nat.zero_add _, h0⟩, fun i m H h => ?_⟩
  obtain ⟨hm, hp⟩ := h
  rcases Nat.lt_or_ge i n with hi | hi
  · refine .inr ⟨w.goes i H hi (hl i H (Nat.le_of_lt hi) hp), fun H' => Pv (i + 1) H', fun H' hp' => ⟨m - 1, by omega, by omega, hp'⟩, fun x H' hy => ?_⟩
    exact hs i x H H' hi hp (w.yields i H x H' hi (hl i H (Nat.le_of_lt hi) hp) hy)
  · have e : i = n := by omega
    subst e
    exact .inl ⟨w.stops H (hl i H (Nat.le_refl _) hp), hd H hp⟩
end KX

set_option Elab.async false
set_option maxRecDepth 100000
set_option maxHeartbeats 2000000
namespace K31
open PySem PySem.Spec PyProof.Rows L2 He KX Sol StX
abbrev Zr : Str := "zero"
def endsL (bs : List Sol.B) : List Str := bs.flatMap fun b => [b.1, b.2.1]
theorem endsL_len (l : List Sol.B) : (endsL l).length = 2 * l.length := by
  induction l with
  | nil => rfl
  | cons b r ih =>
    unfold endsL at ih ⊢
    rw [List.flatMap_cons, List.length_append, ih]
    show 2 + 2 * r.length = 2 * (r.length + 1)
    omega
def addN (acc : List Str) (x : Str) : List Str := if x ∈ acc then acc else acc ++ [x]
def nsOf (bs : List Sol.B) : List Str := (Zr :: endsL bs).foldl addN []
theorem addN_mem {acc : List Str} {x y : Str} : y ∈ addN acc x ↔ y ∈ acc ∨ y = x := by
  unfold addN
  split
  · rename_i h
    exact ⟨.inl, fun h2 => h2.elim id fun e => e ▸ h⟩
  · rw [List.mem_append, List.mem_singleton]
theorem addN_nodup {acc : List Str} {x : Str} (h : acc.Nodup) : (addN acc x).Nodup := by
  unfold addN
  split
  · exact h
  · rename_i hx
    refine List.nodup_append.mpr ⟨h, by simp, fun a ha b hb e => ?_⟩
    rw [List.mem_singleton] at hb
    rw [e, hb] at ha
    exact hx ha
theorem addN_len {acc : List Str} {x : Str} : (addN acc x).length ≤ acc.length + 1 := by
  unfold addN
  split
  · omega
  · rw [List.length_append]; exact Nat.le_refl _
theorem fold_mem : ∀ (l acc : List Str) {y : Str}, y ∈ l.foldl addN acc ↔ y ∈ acc ∨ y ∈ l
  | [], acc, y => by simp
  | x :: l, acc, y => by
    rw [List.foldl_cons, fold_mem l, addN_mem, List.mem_cons, or_assoc]
theorem fold_nodup : ∀ (l acc : List Str), acc.Nodup → (l.foldl addN acc).Nodup
  | [], _, h => h
  | x :: l, acc, h => fold_nodup l _ (addN_nodup h)
theorem fold_len : ∀ (l acc : List Str), (l.foldl addN acc).length ≤ acc.length + l.length
  | [], _ => Nat.le_refl _
  | x :: l, acc => by
    have := fold_len l (addN acc x)
    have := @addN_len acc x
    rw [List.foldl_cons, List.length_cons]
    omega
def zeroK (ns : List Str) : List (Key × V) := ns.map fun x => (.inr x, .int 0)
theorem zeroK_put (ns : List Str) (x : Str) : putK (zeroK ns) (.inr x) (.int 0) = zeroK (addN ns x) := by
  have e : ((zeroK ns).any fun kv => decide (kv.1 = (Sum.inr x : Key))) = decide (x ∈ ns) := by
    unfold zeroK
    rw [List.any_map, Bool.eq_iff_iff, List.any_eq_true, decide_eq_true_iff]
    constructor
    · rintro ⟨y, hy, h⟩
      have := of_decide_eq_true h
      injection this with this
      exact this ▸ hy
    · exact fun h => ⟨x, h, decide_eq_true rfl⟩
  unfold putK addN
  rw [e]
  by_cases h : x ∈ ns
  · rw [decide_eq_true h, if_pos rfl, if_pos h]
    unfold zeroK
    rw [List.map_map]
    refine List.map_congr_left fun y _ => ?_
    dsimp only [Function.comp]
    split
    · rfl
    · rfl
  · rw [decide_eq_false h, if_neg (by decide), if_neg h]
    unfold zeroK
    rw [List.map_append]
    rfl
def valK (s : Sol.St) (ns : List Str) : List (Key × V) := ns.map fun x => (.inr x, .int (s.val x))
def BIs (K : PySem.W.Frag) (H : Hp) (x : V) (b : Sol.B) : Prop := ∃ t, x = .ref t ∧ SqT K H t [.str b.1, .str b.2.1, .int b.2.2]
theorem BIs.same {K : PySem.W.Frag} {H G : Hp} {x : V} {b : Sol.B} (h : BIs K H x b) (s : Same H G) : BIs K G x b := h.imp fun t h => ⟨h.1, sqT_same s h.2⟩
theorem seq_by {A B : TS} {D : Ends} {σ : L2.St} {H : Hp} (R : L2.St → Hp → Prop) (h2 : ∀ σ H, R σ H → B D σ H) (h1 : (∀ σ H, R σ H → B D σ H) → A { D with nx := fun σ H => B D σ H } σ H) : tSeq A B D σ H := h1 h2
theorem yes {b : Bool} {A B : Prop} (h : b = true) (a : A) : if b = true then A else B := by rw [if_pos h]; exact a
theorem no {b : Bool} {A B : Prop} (h : b = false) (a : B) : if b = true then A else B := by rw [if_neg (by rw [h]; decide)]; exact a
theorem flt_len {z : Str} : ∀ {l : List Str}, l.Nodup → l.length ≤ (l.filter fun x => decide (x ≠ z)).length + 1
  | [], _ => Nat.zero_le _
  | x :: l, h => by
    obtain ⟨h1, h2⟩ := List.nodup_cons.mp h
    rw [List.filter_cons]
    by_cases c : x = z
    · rw [if_neg (by rw [c]; simp)]
      have : l.filter (fun x => decide (x ≠ z)) = l := List.filter_eq_self.mpr fun y hy => decide_eq_true fun e => h1 (by rw [c, ← e]; exact hy)
      rw [this]
      exact Nat.le_refl _
    · rw [if_pos (decide_eq_true c), List.length_cons, List.length_cons]
      have := flt_len (z := z) h2
      omega
theorem valK_get {s : Sol.St} : ∀ {ns : List Str} {u : Str}, u ∈ ns → valV (valK s ns) (.inr u) = some (.int (s.val u))
  | [], _, h => absurd h (by simp)
  | x :: ns, u, h => by
    unfold valV valK
    rw [List.map_cons, List.find?_cons]
    by_cases c : x = u
    · rw [show decide ((Sum.inr x : Key) = Sum.inr u) = true from decide_eq_true (congrArg _ c), c]
      rfl
    · rw [show decide ((Sum.inr x : Key) = Sum.inr u) = false from decide_eq_false fun e => c (by injection e)]
      exact valK_get (s := s) ((List.mem_cons.mp h).resolve_left fun e => c e.symm)
theorem valK_any {s : Sol.St} {ns : List Str} {v : Str} (h : v ∈ ns) : ((valK s ns).any fun kv => decide (kv.1 = (Sum.inr v : Key))) = true :=
  List.any_eq_true.mpr ⟨(.inr v, .int (s.val v)), List.mem_map.mpr ⟨v, h, rfl⟩, decide_eq_true rfl⟩
theorem valK_put {s : Sol.St} {ns : List Str} {b : Sol.B} (h : b.2.1 ∈ ns) : putK (valK s ns) (.inr b.2.1) (.int (s.val b.1 - b.2.2)) = valK (s.raise b) ns := by
  unfold putK
  rw [valK_any h, if_pos rfl]
  unfold valK
  rw [List.map_map]
  refine List.map_congr_left fun y _ => ?_
  dsimp only [Function.comp, Sol.St.raise]
  by_cases c : y = b.2.1
  · rw [if_pos (congrArg _ c), if_pos c]
  · rw [if_neg (fun e => c (by injection e)), if_neg c]
theorem CausAt.put {G : Hp} {cd T : Addr} {s : Sol.St} {ks : List Str} {kvs : List (Key × V)} {b : Sol.B} (h : CausAt G cd s ks kvs) (hT : G T = some (.tup [.str b.1, .str b.2.1, .int b.2.2])) :
    CausAt (upd G cd (.dK (putK kvs (.inr b.2.1) (.ref T)))) cd (s.raise b) (addN ks b.2.1) (putK kvs (.inr b.2.1) (.ref T)) := by
  have ne : ∀ t zs, G t = some (.tup zs) → t ≠ cd := fun t zs e e2 => by rw [e2, h.at_] at e; cases e
  have hB : BAt (upd G cd (.dK (putK kvs (.inr b.2.1) (.ref T)))) (.ref T) b := ⟨T, rfl, (upd_ne (ne _ _ hT)).trans hT⟩
  have mv : ∀ (kv : Key × V) x, (kv.1 = .inr x ∧ ∃ d, s.cau x = some d ∧ BAt G kv.2 d) → x ≠ b.2.1 → kv.1 = .inr x ∧ ∃ d, (s.raise b).cau x = some d ∧ BAt (upd G cd (.dK (putK kvs (.inr b.2.1) (.ref T)))) kv.2 d :=
    fun kv x q hx => ⟨q.1, q.2.imp fun d q => ⟨(raise_old hx).trans q.1, q.2.imp fun t z => ⟨z.1, (upd_ne (ne _ _ z.2)).trans z.2⟩⟩⟩
  have eany : (kvs.any fun kv => decide (kv.1 = (Sum.inr b.2.1 : Key))) = decide (b.2.1 ∈ ks) := by
    have : ∀ {kvs : List (Key × V)} {ks : List Str}, Paired (fun (kv : Key × V) x => kv.1 = .inr x ∧ ∃ d, s.cau x = some d ∧ BAt G kv.2 d) kvs ks → (kvs.any fun kv => decide (kv.1 = (Sum.inr b.2.1 : Key))) = decide (b.2.1 ∈ ks) := by
      intro kvs ks h
      induction h with
      | nil => exact (decide_eq_false (by simp)).symm
      | @cons kv x kvs ks q _ ih =>
        rw [List.any_cons, ih, q.1]
        by_cases c : x = b.2.1
        · rw [decide_eq_true (congrArg _ c), decide_eq_true (List.mem_cons.mpr (.inl c.symm))]
          rfl
        · rw [decide_eq_false (fun e => c (by injection e)), Bool.false_or]
          exact decide_eq_decide.mpr ⟨List.mem_cons_of_mem _, fun e => (List.mem_cons.mp e).resolve_left fun e => c e.symm⟩
    exact this h.ent
  refine ⟨upd_same, ?_, addN_nodup h.nd, fun x d e => ?_⟩
  · generalize hkk : putK kvs (.inr b.2.1) (.ref T) = kk at mv hB ⊢
    unfold putK at hkk
    rw [eany] at hkk
    unfold addN
    by_cases c : b.2.1 ∈ ks
    · rw [decide_eq_true c, if_pos rfl] at hkk
      rw [if_pos c]
      have : ∀ {kvs : List (Key × V)} {ks : List Str}, Paired (fun (kv : Key × V) x => kv.1 = .inr x ∧ ∃ d, s.cau x = some d ∧ BAt G kv.2 d) kvs ks → Paired (fun (kv : Key × V) x => kv.1 = .inr x ∧ ∃ d, (s.raise b).cau x = some d ∧ BAt (upd G cd (.dK kk)) kv.2 d) (kvs.map fun kv => if kv.1 = (Sum.inr b.2.1 : Key) then (kv.1, .ref T) else kv) ks := by
        intro kvs ks h
        induction h with
        | nil => exact .nil
        | @cons kv x kvs ks q _ ih =>
          refine .cons ?_ ih
          dsimp only
          by_cases e : x = b.2.1
          · rw [if_pos (by rw [q.1, e])]
            exact ⟨q.1, b, by rw [e]; exact raise_new, hB⟩
          · rw [if_neg (by rw [q.1]; exact fun z => e (by injection z))]
            exact mv kv x q e
      have q := this h.ent
      rw [hkk] at q
      exact q
    · rw [decide_eq_false c, if_neg (by decide)] at hkk
      rw [if_neg c]
      have : ∀ {kvs : List (Key × V)} {ks2 : List Str}, (∀ x ∈ ks2, x ∈ ks) → Paired (fun (kv : Key × V) x => kv.1 = .inr x ∧ ∃ d, s.cau x = some d ∧ BAt G kv.2 d) kvs ks2 → Paired (fun (kv : Key × V) x => kv.1 = .inr x ∧ ∃ d, (s.raise b).cau x = some d ∧ BAt (upd G cd (.dK kk)) kv.2 d) kvs ks2 := by
        intro kvs ks2 hsub h
        induction h with
        | nil => exact .nil
        | @cons kv x kvs ks2 q _ ih => exact .cons (mv kv x q fun e => c (e ▸ hsub x List.mem_cons_self)) (ih fun y hy => hsub y (List.mem_cons_of_mem _ hy))
      have q := pr_app (this (fun _ h => h) h.ent) (.cons (a := ((Sum.inr b.2.1 : Key), V.ref T)) (b := b.2.1) ⟨rfl, b, raise_new, hB⟩ .nil)
      rw [hkk] at q
      exact q
  · by_cases c : x = b.2.1
    · exact addN_mem.mpr (.inr c)
    · rw [raise_old c] at e
      exact addN_mem.mpr (.inl (h.dom x d e))
theorem pass_cons {b : Sol.B} {bs : List Sol.B} {s : Sol.St} {r : Option Str} : pass Zr (b :: bs) s r = if s.val b.1 - b.2.2 > s.val b.2.1 then (if b.2.1 = Zr then (true, s.raise b, some b.2.1) else pass Zr bs (s.raise b) (some b.2.1)) else pass Zr bs s r := rfl
theorem passes_stop {bs : List Sol.B} {n : Nat} {s s' : Sol.St} {r r' : Option Str} (h : pass Zr bs s none = (true, s', r')) : passes Zr bs (n + 1) s r = (s', r') := by
  unfold passes
  rw [h]
theorem passes_fin {bs : List Sol.B} {n : Nat} {s s' : Sol.St} {r : Option Str} (h : pass Zr bs s none = (false, s', none)) : passes Zr bs (n + 1) s r = (s', none) := by
  unfold passes
  rw [h]
theorem passes_next {bs : List Sol.B} {n : Nat} {s s' : Sol.St} {r : Option Str} {v : Str} (h : pass Zr bs s none = (false, s', some v)) : passes Zr bs (n + 1) s r = passes Zr bs n s' (some v) := by
  conv => lhs; unfold passes
  rw [h]
def spSolved (K : PySem.W.Frag) : Sp := fun vs H Q _ => ∃ (a : Addr) (xs : List V) (bs : List Sol.B), vs = [.ref a] ∧ Sq K H a xs ∧ Paired (BIs K H) xs bs ∧ bs.length ≤ 100 ∧ (∀ b ∈ bs, b.1 ≠ b.2.1) ∧
  (∀ s, passes Zr bs ((nsOf bs).length + 1) (start Zr (nsOf bs)) none = (s, none) → ∀ T vd G, Same H G → H T = none → H vd = none → G T = some (.tup [.ref vd, .non]) → G vd = some (.dK (valK s (nsOf bs))) → Q (.ref T) G) ∧
  ∀ s v, passes Zr bs ((nsOf bs).length + 1) (start Zr (nsOf bs)) none = (s, some v) → ∀ T vd R ys p y G, Same H G → H T = none → H vd = none → H R = none → G T = some (.tup [.ref vd, .ref R]) → G vd = some (.dK (valK s (nsOf bs))) → G R = some (.lst ys) → Paired (BAt G) ys (back s p y).reverse → 1 ≤ p → p ≤ (nsOf bs).length → it s p y = y → (∀ m, ∃ b, s.cau (it s m y) = some b) → Sol.Ok s → Own Zr bs s → Q (.ref T) G
section
variable {P : Program} {w : World} {K : PySem.W.Frag} {mg : Str → Option Value} {base : Heap}
theorem scSolved : FnScope ["bounds", "values", "causes", "_", "raised", "u", "v", "c", "name", "bound", "end"] ["bounds"] (defScope sSolved) := ⟨rfl, rfl, rfl, by decide +kernel, rfl, by decide +kernel, by decide +kernel⟩
theorem ok_solved {f fRg : Addr} {fd fdRg : FuncData} {tz : Tok} (F : FnP K "_solved" sSolved f fd) (GRg : FnOk P w K mg base CX0 1 fRg fdRg ["causes", "name"] spRing2) (bRg : Binds K fdRg ["causes", "name"] []) (kRg : PySem.W.keepIn K (.ref fRg) = true) (gRg : mg "_ring" = some (.ref fRg))
    (gZ : mg "ZERO" = some (.str "zero" tz)) (n_range : mg "range" = none) (n_len : mg "len" = none) : FnOk P w K mg base CX0 2 f fd ["bounds"] (spSolved K) := by
  refine F.ok scSolved (fun vs H Q E h => ?_) (fun cdv A outer s H vs Q E hr h => ?_)
  · obtain ⟨a, xs, bs, rfl, _⟩ := h
    rfl
  · obtain ⟨a, xs, bs, rfl, hS, hP, hbl, hne, kn, kr⟩ := h
    have nd := scSolved.nd
    have hr1 := hr.mono (j := 1) (by decide)
    have hu := Nat.lt_of_le_of_lt (Nat.add_le_add_left (by decide : 1 ≤ 64) _) hr.units
    have hxl := Paired.length hP
    refine ⟨_, PSs.nox (pss_cons (ps_setDc (j := 1) (own := [("name", 8)]) (g := (gName 8)) (tt := tYes) rfl nd rfl rfl (swd_true rfl rfl rfl (by decide +kernel)) (pi_list (pe_lst (pa_cons (pe_glob (v := .str "zero") rfl gZ ⟨tz, rfl⟩) (pa_star (pe_lc2 (own := [("bound", 9), ("end", 10)]) (vs1 := [10]) (g := gName 9) (tt := tYes) (g1 := gName 10) (tt1 := tYes) rfl nd (pi_seq (pv 0)) (blkOk_by (own := [("bound", 9), ("end", 10)]) (N := ["bounds", "values", "causes", "_", "raised", "u", "v", "c", "name", "bound", "end"]) (sc := defScope sSolved) (by decide +kernel)) (by decide) (fun _ _ _ _ _ => pg_name (i := 9) nd rfl (Or.inl rfl)) (fun _ _ _ _ _ => pts_nil) (fun _ _ _ _ _ => (show PI _ _ _ (iTup K (tSl (rSlT K) (tVar 9) tNoPart (tPart (tC (V.int 2))))) from pi_tup (pe_slice (show SlR _ (rSlT K) from sl_tup) (pv 9) po_none (po_some pe_int)))) (fun _ _ _ _ _ => pg_name (i := 10) nd rfl (Or.inl rfl)) (fun _ _ _ _ _ => pts_nil) (fun _ _ _ _ _ => (pv 10))) pa_nil)))) (blkOk_by (own := [("name", 8)]) (N := ["bounds", "values", "causes", "_", "raised", "u", "v", "c", "name", "bound", "end"]) (sc := defScope sSolved) (by decide +kernel)) (fun _ _ _ _ _ => (pg_name (i := 8) nd rfl (Or.inl rfl))) (fun _ _ _ _ _ => pts_nil) (fun _ _ _ _ _ => (pv 8)) (fun _ _ _ _ _ => pe_int))
(pss_cons (ps_lock (ps_setDc (j := 2) (own := [("name", 8)]) (g := (gName 8))  rfl nd rfl rfl (swd_true rfl rfl rfl (by decide +kernel)) (pi_keys (pv 1)) (blkOk_by (own := [("name", 8)]) (N := ["bounds", "values", "causes", "_", "raised", "u", "v", "c", "name", "bound", "end"]) (sc := defScope sSolved) (by decide +kernel)) (fun _ _ _ _ _ => (pg_name (i := 8) nd rfl (Or.inl rfl))) (fun _ _ _ _ _ => (pts_one (pt_cmpR op_ne (pv 8) (pe_glob (v := .str "zero") rfl gZ ⟨tz, rfl⟩) (nomark _)))) (fun _ _ _ _ _ => (pv 8)) (fun _ _ _ _ _ => (pe_tup (pa_cons (pe_glob (v := .str "zero") rfl gZ ⟨tz, rfl⟩) (pa_cons (pv 8) (pa_cons pe_int pa_nil)))))))
(pss_cons (ps_for PassesOwn.never rfl (pi_range1 (by rfl) n_range (pa_cons (pe_op op_add (pe_callB call_lenD (by rfl) n_len PySem.boot_len (pa_cons (pv 1) pa_nil)) pe_int) pa_nil)) (pg_name (i := 3) nd rfl (Or.inl rfl))
(pss_cons (ps_set (i := 4) nd rfl (Or.inl rfl) pe_non)
(pss_cons (ps_for PassesOwn.never rfl (pi_or (pi_list (pv 0)) (pi_tup (pv 0))) (pg_tup rfl (pgs_cons (pg_name (i := 5) nd rfl (Or.inl rfl)) (pgs_cons (pg_name (i := 6) nd rfl (Or.inl rfl)) (pgs_cons (pg_name (i := 7) nd rfl (Or.inl rfl)) pgs_nil))))
(pss_one (ps_if (pt_cmpR op_gt (pe_op op_sub (pe_dget hu (pv 1) (pv 5) (fun _ _ => rfl)) (pv 7)) (pe_dget hu (pv 1) (pv 6) (fun _ _ => rfl)) (nomark _))
(pss_cons (ps_dput hu (pv 1) (pv 6) (pe_op op_sub (pe_dget hu (pv 1) (pv 5) (fun _ _ => rfl)) (pv 7)) rfl)
(pss_cons (ps_dput hu (pv 2) (pv 6) (pe_tup (pa_cons (pv 5) (pa_cons (pv 6) (pa_cons (pv 7) pa_nil)))) rfl)
(pss_cons (ps_set (i := 4) nd rfl (Or.inl rfl) (pv 6))
(pss_one (ps_if (pt_cmpR op_eq (pv 6) (pe_glob (v := .str "zero") rfl gZ ⟨tz, rfl⟩) (nomark _))
(pss_one (ps_ret (pe_tup (pa_cons (pv 1) (pa_cons (pe_call GRg hr1 (by rfl) gRg kRg bRg .nil pass0 (pa_cons (pv 2) (pa_cons (pv 6) pa_nil))) pa_nil)))))
pss_nil)))))
pss_nil)))
(pss_one (ps_if (pt_cmpR op_isN (pv 4) pe_non (nomark _))
(pss_one (ps_ret (pe_tup (pa_cons (pv 1) (pa_cons pe_non pa_nil)))))
pss_nil)))))
(pss_one (ps_ret (pe_tup (pa_cons (pv 1) (pa_cons (pe_call GRg hr1 (by rfl) gRg kRg bRg .nil pass0 (pa_cons (pv 2) (pa_cons (pv 4) pa_nil))) pa_nil)))))))), ?_⟩
    -- the ends
    refine ⟨_, rfl, a, xs, rfl, hS, fun J wJ D nD => ?_⟩
    refine lc2_it wJ (fun i G => G D = some (.lst ((endsL (bs.take i)).map V.str)) ∧ Same H G) ⟨upd_same, same_put nD⟩ (fun i G _ h => h.2) ?_ ?_
    · rintro i x G' G hi ⟨hD, sG⟩ ⟨rfl, hx⟩
      obtain ⟨b, hb, t, rfl, ht⟩ := pr_at hP hx
      have ht' := sqT_same sG ht
      refine ⟨rfl, ?_⟩
      dsimp only [tYes]
      rw [if_pos rfl]
      have eT : endsL (bs.take (i + 1)) = endsL (bs.take i) ++ [b.1, b.2.1] := by
        unfold endsL
        rw [List.take_succ, hb, List.flatMap_append]
        rfl
      have hel : (endsL (bs.take i)).length ≤ 200 := by
        rw [endsL_len, List.length_take]
        omega
      refine ⟨_, rfl, _, rfl, t, _, rfl, ht', (by show ¬ ((0 : Nat) = 0 ∧ (2 : Nat) = 3); decide), fun T nT => ?_⟩
      have hT : upd G T (.tup (cutV [V.str b.1, V.str b.2.1, V.int b.2.2] none (some 2))) T = some (.tup [V.str b.1, V.str b.2.1]) := upd_same
      have sT' : Same G (upd G T (.tup (cutV [V.str b.1, V.str b.2.1, V.int b.2.2] none (some 2)))) := same_put nT
      generalize upd G T (.tup (cutV [V.str b.1, V.str b.2.1, V.int b.2.2] none (some 2))) = G2 at hT sT' ⊢
      refine ⟨T, rfl, ⟨_, SqT.of hT⟩, ?_⟩
      refine in_it (walk_tup (K := K) (a := T) (xs := [V.str b.1, V.str b.2.1])) (fun j G => G D = some (.lst ((endsL (bs.take i) ++ [b.1, b.2.1].take j).map V.str)) ∧ Same H G ∧ G T = some (.tup [V.str b.1, V.str b.2.1])) ⟨by rw [List.take_zero, List.append_nil]; exact sT' _ _ hD, sG.trans sT', hT⟩ (fun _ _ _ h => SqT.of h.2.2) ?_ ?_
      · rintro j x G3' G3 hj ⟨hD3, sG3, hT3⟩ ⟨rfl, hx3⟩
        obtain ⟨z, hz, rfl⟩ : ∃ z, [b.1, b.2.1][j]? = some z ∧ x = V.str z := by
          match j, hx3 with
          | 0, e => exact ⟨_, rfl, (Option.some.inj e).symm⟩
          | 1, e => exact ⟨_, rfl, (Option.some.inj e).symm⟩
        refine ⟨rfl, ?_⟩
        dsimp only [tYes]
        rw [if_pos rfl]
        refine ⟨_, rfl, _, hD3, ?_, ?_, fun y o e => ?_, ?_⟩
        · rw [List.length_map, List.length_append, List.length_take, sizeLine_eq]
          have : ([b.1, b.2.1] : List Str).length = 2 := rfl
          omega
        · rw [upd_same, List.take_succ, hz, List.map_append, List.map_append, List.map_append, List.append_assoc]
          rfl
        · rw [upd_ne (ne_of_none e nD)]
          exact sG3 _ _ e
        · rw [upd_ne (fun e => by rw [e, hD3] at hT3; cases hT3)]
          exact hT3
      · rintro G3 ⟨hD3, sG3, _⟩
        exact ⟨by rw [eT]; exact hD3, sG3⟩
    · rintro G1 ⟨hD, sG⟩
      rw [hxl, List.take_length] at hD
      have hel : (endsL bs).length ≤ 200 := by
        rw [endsL_len]
        omega
      refine ⟨D, _, rfl, .inr (SqL.of hD), ?_⟩
      refine ⟨by rw [List.append_nil, List.length_cons, List.length_map, sizeLine_eq]; omega, fun L nL => ?_⟩
      have s2 := sG.trans (same_put (o := .lst (V.str "zero" :: ((endsL bs).map V.str ++ []))) nL)
      have hL : upd G1 L (.lst (V.str "zero" :: ((endsL bs).map V.str ++ []))) L = some (.lst ((Zr :: endsL bs).map V.str)) := by rw [upd_same, List.append_nil]; rfl
      generalize upd G1 L (.lst (V.str "zero" :: ((endsL bs).map V.str ++ []))) = G2 at s2 hL ⊢
      refine ⟨L, rfl, ⟨_, SqL.of hL⟩, fun vd nvd => ?_⟩
      refine dc_it (walk_list (K := K) (a := L) (xs := (Zr :: endsL bs).map V.str)) (fun i G => G vd = some (.dK (zeroK (((Zr :: endsL bs).take i).foldl addN []))) ∧ Same G2 G) ⟨upd_same, same_put nvd⟩ (fun i G _ h => SqL.of (h.2 _ _ hL)) ?_ ?_
      · rintro i x G' G hi ⟨hV, sG3⟩ ⟨rfl, hx⟩
        obtain ⟨z, hz, rfl⟩ := Option.map_eq_some_iff.mp ((List.getElem?_map ..).symm.trans hx)
        refine ⟨rfl, ?_⟩
        dsimp only [tYes]
        rw [if_pos rfl]
        refine ⟨_, rfl, _, .inr z, rfl, hV, ?_, ?_, fun y o e => ?_⟩
        · have h1 := fold_len ((Zr :: endsL bs).take i) []
          rw [List.length_take, List.length_cons] at h1
          unfold zeroK
          rw [List.length_map, sizeLine_eq]
          have : ([] : List Str).length = 0 := rfl
          omega
        · rw [upd_same, zeroK_put, List.take_succ, hz, List.foldl_append]
          rfl
        · rw [upd_ne (ne_of_none e nvd)]
          exact sG3 _ _ e
      rintro G3 ⟨hV, sG3⟩
      rw [List.length_map, List.take_length] at hV
      have hV2 : G3 vd = some (.dK (zeroK (nsOf bs))) := hV
      have s3 := s2.trans sG3
      have nvdH : H vd = none := by
        cases e : H vd with
        | none => rfl
        | some o => rw [s2 _ _ e] at nvd; cases nvd
      clear hV hD hL nL nD s2 sG3 nvd sG
      have hNd : (nsOf bs).Nodup := fold_nodup _ _ List.nodup_nil
      have hZ : Zr ∈ nsOf bs := (fold_mem _ _).mpr (.inr List.mem_cons_self)
      have hEn : ∀ b ∈ bs, b.1 ∈ nsOf bs ∧ b.2.1 ∈ nsOf bs := fun b hb => by
        have h : ∀ x ∈ [b.1, b.2.1], x ∈ nsOf bs := fun x hx => (fold_mem _ _).mpr (.inr (List.mem_cons_of_mem _ (List.mem_flatMap.mpr ⟨b, hb, hx⟩)))
        exact ⟨h _ (by simp), h _ (by simp)⟩
      have hNl : (nsOf bs).length ≤ 201 := by
        have h1 := fold_len (Zr :: endsL bs) []
        rw [List.length_cons] at h1
        have : ([] : List Str).length = 0 := rfl
        show ((Zr :: endsL bs).foldl addN []).length ≤ 201
        omega
      generalize hns : nsOf bs = ns at hV2 hNd hZ hEn hNl kn kr ⊢
      dsimp only [gName, List.set]
      -- the first causes
      refine seq_by (fun σ G => ∃ cd kvs, σ = [some (.ref a), some (.ref vd), some (.ref cd), none, none, none, none, none, none, none, none] ∧ Same H G ∧ G vd = some (.dK (valK (Sol.start Zr ns) ns)) ∧ CausAt G cd (Sol.start Zr ns) (ns.filter fun x => decide (x ≠ Zr)) kvs ∧ H cd = none ∧ cd ≠ vd) ?_ (fun nxt => ?_)
      rotate_left
      · refine ⟨vd, _, hV2, trivial, fun od => ?_⟩
        have sHf : ∀ x o, x ≠ vd → G3 x = some o → upd G3 vd (.frz od (.dK (zeroK ns))) x = some o := fun x o n e => (upd_ne n).trans e
        have fd0 : upd G3 vd (.frz od (.dK (zeroK ns))) vd = some (.frz od (.dK (zeroK ns))) := upd_same
        have hback : ∀ G, Same (upd G3 vd (.frz od (.dK (zeroK ns)))) G → Same G3 (upd G vd (.dK (zeroK ns))) := fun G sG x o e => by
          by_cases hx : x = vd
          · subst hx
            rw [hV2] at e
            rw [upd_same]
            exact e
          · rw [upd_ne hx]
            exact sG _ _ (sHf _ _ hx e)
        generalize upd G3 vd (.frz od (.dK (zeroK ns))) = Hf at sHf fd0 hback ⊢
        refine ⟨_, rfl, vd, od, rfl, .inl ⟨zeroK ns, fd0, fun cd ncd => ?_⟩⟩
        have hcv : cd ≠ vd := fun e => by rw [e, fd0] at ncd; cases ncd
        refine dc_it (walk_keys (d := vd) (o := od) (kvs := zeroK ns)) (fun i G => ∃ kvs, G cd = some (.dK kvs) ∧ Paired (fun (kv : Key × V) x => kv.1 = .inr x ∧ ∃ b, (Sol.start Zr ns).cau x = some b ∧ BAt G kv.2 b) kvs ((ns.take i).filter fun x => decide (x ≠ Zr)) ∧ Same Hf G) ⟨[], upd_same, .nil, same_put ncd⟩ (fun i G _ h => by obtain ⟨_, _, _, q⟩ := h; exact q _ _ fd0) ?_ ?_
        · rintro i x G' G hi ⟨kvs, hD, hPk, sG⟩ ⟨rfl, key, val, hkv, rfl⟩
          obtain ⟨z, hz, ekv⟩ := Option.map_eq_some_iff.mp ((List.getElem?_map ..).symm.trans hkv)
          injection ekv with ek ev
          subst ek
          have hzn := List.mem_of_getElem? hz
          have etk : (ns.take (i + 1)).filter (fun x => decide (x ≠ Zr)) = (ns.take i).filter (fun x => decide (x ≠ Zr)) ++ (if decide (z ≠ Zr) = true then [z] else []) := by
            rw [List.take_succ, hz, List.filter_append]
            congr 1
            show List.filter (fun x => decide (x ≠ Zr)) [z] = _
            rw [List.filter_cons]
            rfl
          refine ⟨rfl, ?_⟩
          refine ⟨_, rfl, rfl, _, rfl, ?_⟩
          by_cases c : z = Zr
          · rw [show (!decide (kV (Sum.inr z) = V.str "zero")) = false from by rw [c]; exact congrArg not (decide_eq_true rfl)]
            refine no rfl ?_
            rw [etk, if_neg (by rw [c]; decide), List.append_nil]
            exact ⟨kvs, hD, hPk, sG⟩
          · rw [show (!decide (kV (Sum.inr z) = V.str "zero")) = true from congrArg not (decide_eq_false fun e => c (by injection e))]
            refine yes rfl ?_
            refine ⟨_, rfl, _, rfl, (by show 3 ≤ sizeLine; decide), fun T nT => ?_⟩
            have sT := same_put (o := .tup [V.str "zero", kV (.inr z), V.int 0]) nT
            have hT : upd G T (.tup [V.str "zero", kV (.inr z), V.int 0]) T = some (.tup [V.str "zero", V.str z, V.int 0]) := upd_same
            generalize upd G T (.tup [V.str "zero", kV (.inr z), V.int 0]) = G5 at sT hT ⊢
            have hD5 := sT _ _ hD
            have hfresh : (kvs.any fun kv => decide (kv.1 = (Sum.inr z : Key))) = false := by
              rw [List.any_eq_false]
              intro kv hkv2 e
              obtain ⟨j, hj⟩ := List.getElem?_of_mem hkv2
              obtain ⟨y, hy, ey, _⟩ := pr_at hPk hj
              have e1 : y = z := by
                have := ey.symm.trans (of_decide_eq_true e)
                injection this
              have hyt := (List.mem_filter.mp (List.mem_of_getElem? hy)).1
              rw [e1] at hyt
              obtain ⟨j2, hj2, ej2⟩ := List.mem_iff_getElem.mp hyt
              rw [List.getElem_take] at ej2
              rw [List.length_take] at hj2
              have hil := (List.getElem?_eq_some_iff.mp hz).1
              have hne := List.pairwise_iff_getElem.mp hNd j2 i (by omega) hil (by omega)
              rw [ej2, (List.getElem?_eq_some_iff.mp hz).2] at hne
              exact hne rfl
            have eput : putK kvs (Sum.inr z : Key) (V.ref T) = kvs ++ [(.inr z, V.ref T)] := by
              unfold putK
              rw [hfresh]
              rfl
            have ht : ∀ zs, G5 cd ≠ some (.tup zs) := fun zs e => by rw [hD5] at e; cases e
            have kF : ∀ y o, y ≠ cd → G5 y = some o → upd G5 cd (.dK (putK kvs (.inr z) (V.ref T))) y = some o := fun y o n e => (upd_ne n).trans e
            refine ⟨kvs, .inr z, rfl, hD5, ?_, _, upd_same, ?_, fun y o e => kF y o (ne_of_none e ncd) (sT _ _ (sG _ _ e))⟩
            · have h1 := Paired.length hPk
              have h2 := List.length_filter_le (fun x => decide (x ≠ Zr)) (ns.take i)
              rw [List.length_take] at h2
              rw [sizeLine_eq]
              omega
            · rw [etk, if_pos (decide_eq_true c)]
              rw [eput] at kF ⊢
              refine pr_app (pr_imp (fun _ _ q => ⟨q.1, q.2.imp fun b q => ⟨q.1, (q.2.same sT).kept kF ht⟩⟩) hPk) (.cons ⟨rfl, (Zr, z, 0), ?_, T, rfl, kF _ _ (fun e => ht _ (e ▸ hT)) hT⟩ .nil)
              unfold Sol.start
              dsimp only
              rw [if_pos ⟨hzn, c⟩]
        · rintro G ⟨kvs, hD, hPk, sG⟩
          refine ⟨sG _ _ fd0, ?_⟩
          have hb := hback G sG
          rw [show (zeroK ns).length = ns.length from List.length_map _, List.take_length] at hPk
          have s4 := s3.trans hb
          have nvt : ∀ t zs, G t = some (.tup zs) → t ≠ vd := fun t zs e e2 => by rw [e2, sG _ _ fd0] at e; cases e
          refine nxt _ _ ⟨cd, kvs, rfl, s4, upd_same, ⟨(upd_ne hcv).trans hD, pr_imp (fun _ _ q => ⟨q.1, q.2.imp fun b q => ⟨q.1, q.2.imp fun t h => ⟨h.1, (upd_ne (nvt _ _ h.2)).trans h.2⟩⟩⟩) hPk, hNd.filter _, fun x b e => ?_⟩, ?_, hcv⟩
          · unfold Sol.start at e
            dsimp only at e
            split at e
            · rename_i h
              exact List.mem_filter.mpr ⟨h.1, decide_eq_true h.2⟩
            · cases e
          · cases e : H cd with
            | none => rfl
            | some o =>
              have h1 := sHf _ _ hcv (s3 _ _ e)
              rw [h1] at ncd
              cases ncd
      clear hV2 s3
      rintro σ G4 ⟨cd, kvs, rfl, s4, hV, hC, ncd, hcv⟩
      have hbn : ∀ b ∈ bs, b.1 ∈ ns ∧ b.2.1 ∈ ns ∧ b.1 ≠ b.2.1 := fun b hb => ⟨(hEn b hb).1, (hEn b hb).2, hne b hb⟩
      have ring : ∀ (s : Sol.St) (v : Str) (G : Hp) (ks : List Str) (kvs : List (Key × V)), passes Zr bs (ns.length + 1) (Sol.start Zr ns) none = (s, some v) → Same H G → G vd = some (.dK (valK s ns)) → CausAt G cd s ks kvs → ns.length ≤ ks.length + 1 → ks.length ≤ 300 →
          spRing2 [.ref cd, .str v] G (fun x G2 => 2 ≤ sizeLine ∧ ∀ T, G2 T = none → Q (.ref T) (upd G2 T (.tup [.ref vd, x]))) E0 := by
        intro s v G ks kvs hp sG hV hC h1 h2
        obtain ⟨ok, ow, hvn, hall, hcy⟩ := ring_at hZ hbn hp
        obtain ⟨p, p1, p2, p3, p4⟩ := hcy (ks.length + 1) h1
        refine ⟨cd, v, s, ks, kvs, p, rfl, hC, by omega, fun m => (hall m).2, p1, by omega, p3, p4, fun R ys G2 s2 nR hR hP => ⟨by decide, fun T nT => ?_⟩⟩
        have sT := same_put (o := .tup [V.ref vd, V.ref R]) nT
        have sA := sG.trans s2
        have fT : H T = none := by
          cases e : H T with
          | none => rfl
          | some o => rw [sA _ _ e] at nT; cases nT
        have fR : H R = none := by
          cases e : H R with
          | none => rfl
          | some o => rw [sG _ _ e] at nR; cases nR
        exact kr s v hp T vd R ys p _ _ (sA.trans sT) fT nvdH fR upd_same (sT _ _ (s2 _ _ hV)) (sT _ _ hR) (pr_imp (fun _ _ z => z.same sT) hP) p1 p2 p3 (fun m => by rw [← it_add]; exact (hall _).2) ok ow
      have hvl : (valK (Sol.start Zr ns) ns).length = ns.length := List.length_map _
      refine ⟨_, rfl, vd, _, rfl, hV, _, _, rfl, rfl, _, rfl, ?_, ?_, ?_⟩
      · rw [hvl]; omega
      · rw [hvl]; omega
      rw [hvl, show ((ns.length : Int) + 1).toNat = ns.length + 1 by omega]
      refine for_it (walk_rng (n := ns.length + 1)) (fun k σ G => ∃ w3 w4 w5 w6 w7 s r ks kvs, σ = [some (.ref a), some (.ref vd), some (.ref cd), w3, w4, w5, w6, w7, none, none, none] ∧ Same H G ∧ G vd = some (.dK (valK s ns)) ∧ CausAt G cd s ks kvs ∧ ns.length ≤ ks.length + 1 ∧ ks.length ≤ ns.length ∧
          passes Zr bs (ns.length + 1) (Sol.start Zr ns) none = passes Zr bs (ns.length + 1 - k) s r ∧ (∀ x ∈ ks, x ∈ ns ∧ x ≠ Zr) ∧ (1 ≤ k → ∃ v, r = some v ∧ w4 = some (.str v)))
        ⟨none, none, none, none, none, _, none, _, kvs, rfl, s4, hV, hC, flt_len hNd, List.length_filter_le _ _, rfl, fun x hx => ⟨(List.mem_filter.mp hx).1, of_decide_eq_true (List.mem_filter.mp hx).2⟩, fun h => absurd h (by omega)⟩ (fun _ _ _ _ _ => trivial) ?_ ?_
      · rintro k x σ G' G hk ⟨w3, w4, w5, w6, w7, s, r, ks, kvs, rfl, sG, hV, hC, hl1, hl2, hps, hkn, _⟩ ⟨rfl, rfl⟩
        obtain ⟨mm, hmm⟩ : ∃ mm, ns.length + 1 - k = mm + 1 := ⟨ns.length - k, by omega⟩
        rw [hmm] at hps
        dsimp only [gName, List.set]
        obtain ⟨J, Gd, wJ, hGd, hgo⟩ : ∃ J Gd, Walk J xs.length Gd (YAt xs) ∧ (∀ G', Same H G' → Gd G') ∧ ∀ R : It → Hp → Prop, R J G → (iList K (tVar 0) [some (.ref a), some (.ref vd), some (.ref cd), some (.int (k : Int)), some .non, w5, w6, w7, none, none, none] G R ∨ iTup K (tVar 0) [some (.ref a), some (.ref vd), some (.ref cd), some (.int (k : Int)), some .non, w5, w6, w7, none, none, none] G R) := by
          rcases hS with hS | hS
          · exact ⟨_, _, walk_list (K := K) (a := a) (xs := xs), fun G' s => sqL_same s hS, fun R h => .inl ⟨_, rfl, a, rfl, ⟨_, sqL_same sG hS⟩, h⟩⟩
          · exact ⟨_, _, walk_tup (K := K) (a := a) (xs := xs), fun G' s => sqT_same s hS, fun R h => .inr ⟨_, rfl, a, rfl, ⟨_, sqT_same sG hS⟩, h⟩⟩
        refine hgo _ ?_
        refine for_it wJ (fun i σ G' => ∃ w4 w5 w6 w7 s' r' ks' kvs', σ = [some (.ref a), some (.ref vd), some (.ref cd), some (.int (k : Int)), some w4, w5, w6, w7, none, none, none] ∧ Same H G' ∧ G' vd = some (.dK (valK s' ns)) ∧ CausAt G' cd s' ks' kvs' ∧ ns.length ≤ ks'.length + 1 ∧ ks'.length ≤ ns.length ∧
            pass Zr bs s none = pass Zr (bs.drop i) s' r' ∧ (∀ x ∈ ks', x ∈ ns ∧ x ≠ Zr) ∧ w4 = (match r' with | none => V.non | some v => .str v))
          ⟨_, _, _, _, s, none, ks, kvs, rfl, sG, hV, hC, hl1, hl2, rfl, hkn, rfl⟩ (fun _ _ _ _ h => by obtain ⟨_, _, _, _, _, _, _, _, _, h, _⟩ := h; exact hGd _ h) ?_ ?_
        · rintro i x σ G' G1 hi ⟨w4, w5, w6, w7, s', r', ks', kvs', rfl, sG1, hV1, hC1, h1, h2, hpp, hkn1, rfl⟩ ⟨rfl, hx⟩
          obtain ⟨b, hb, t, rfl, ht⟩ := pr_at hP hx
          have hbm := List.mem_of_getElem? hb
          have ht1 := sqT_same sG1 ht
          obtain ⟨hun, hvn, huv⟩ := hbn b hbm
          have edr : bs.drop i = b :: bs.drop (i + 1) := by
            have hil := (List.getElem?_eq_some_iff.mp hb).1
            rw [List.drop_eq_getElem_cons hil, (List.getElem?_eq_some_iff.mp hb).2]
          have gU : DGet G1 vd (V.str b.1) (some (.int (s'.val b.1))) := .inl ⟨_, .inr b.1, .inl hV1, rfl, (valK_get hun).symm⟩
          have gV : DGet G1 vd (V.str b.2.1) (some (.int (s'.val b.2.1))) := .inl ⟨_, .inr b.2.1, .inl hV1, rfl, (valK_get hvn).symm⟩
          refine ⟨t, _, rfl, ht1, rfl, _, _, rfl, _, _, rfl, _, _, rfl, rfl, ?_⟩
          dsimp only [gName, List.set]
          refine ⟨_, rfl, _, rfl, vd, _, rfl, gU, _, rfl, _, _, rfl, rfl, _, rfl, _, rfl, vd, _, rfl, gV, _, _, rfl, rfl, _, rfl, ?_⟩
          refine ite2' (fun c => ?_) (fun c => ?_)
          · have hl : s'.val b.1 - b.2.2 > s'.val b.2.1 := of_decide_eq_true c
            rw [edr, pass_cons, if_pos hl] at hpp
            have hvl2 : (valK s' ns).length < sizeLine := by rw [show (valK s' ns).length = ns.length from List.length_map _, sizeLine_eq]; omega
            refine ⟨_, rfl, _, rfl, vd, _, rfl, gU, _, rfl, _, _, rfl, rfl, _, rfl, _, rfl, vd, _, rfl, .inl ⟨_, .inr b.2.1, hV1, rfl, hvl2, rfl⟩, ?_⟩
            rw [valK_put hvn]
            have hV2 : upd G1 vd (.dK (valK (s'.raise b) ns)) vd = some (.dK (valK (s'.raise b) ns)) := upd_same
            have hvt : ∀ zs, G1 vd ≠ some (.tup zs) := fun zs e => by rw [hV1] at e; cases e
            have kV : ∀ y o, y ≠ vd → G1 y = some o → upd G1 vd (.dK (valK (s'.raise b) ns)) y = some o := fun y o n e => (upd_ne n).trans e
            have hC2 : CausAt (upd G1 vd (.dK (valK (s'.raise b) ns))) cd s' ks' kvs' := ⟨kV _ _ hcv hC1.at_, pr_imp (fun _ _ q => ⟨q.1, q.2.imp fun d q => ⟨q.1, q.2.kept kV hvt⟩⟩) hC1.ent, hC1.nd, hC1.dom⟩
            have sG2 : Same H (upd G1 vd (.dK (valK (s'.raise b) ns))) := fun y o e => kV y o (ne_of_none e nvdH) (sG1 _ _ e)
            generalize upd G1 vd (.dK (valK (s'.raise b) ns)) = G2 at hV2 hC2 sG2 ⊢
            refine ⟨_, rfl, _, rfl, _, rfl, (by show 3 ≤ sizeLine; decide), fun T nT => ?_⟩
            have sT := same_put (o := .tup [V.str b.1, V.str b.2.1, V.int b.2.2]) nT
            have hT : upd G2 T (.tup [V.str b.1, V.str b.2.1, V.int b.2.2]) T = some (.tup [V.str b.1, V.str b.2.1, V.int b.2.2]) := upd_same
            have hC3 := hC2.same sT
            have hV3 := sT _ _ hV2
            have sG3 := sG2.trans sT
            generalize upd G2 T (.tup [V.str b.1, V.str b.2.1, V.int b.2.2]) = G3 at hT hC3 hV3 sG3 ⊢
            have hC4 := hC3.put hT
            have hkl : kvs'.length < sizeLine := by rw [Paired.length hC3.ent, sizeLine_eq]; omega
            refine ⟨_, rfl, _, rfl, cd, _, rfl, .inl ⟨_, .inr b.2.1, hC3.at_, rfl, hkl, rfl⟩, ?_⟩
            have hV4 : upd G3 cd (.dK (putK kvs' (.inr b.2.1) (.ref T))) vd = some (.dK (valK (s'.raise b) ns)) := (upd_ne hcv.symm).trans hV3
            have sG4 : Same H (upd G3 cd (.dK (putK kvs' (.inr b.2.1) (.ref T)))) := fun y o e => (upd_ne (ne_of_none e ncd)).trans (sG3 _ _ e)
            generalize upd G3 cd (.dK (putK kvs' (.inr b.2.1) (.ref T))) = G4 at hC4 hV4 sG4 ⊢
            have hlo : ks'.length ≤ (addN ks' b.2.1).length := by
              unfold addN
              split
              · exact Nat.le_refl _
              · rw [List.length_append]; omega
            have hhi : (addN ks' b.2.1).length ≤ ks'.length + 1 := addN_len
            refine ⟨_, rfl, ?_⟩
            dsimp only [gName, List.set]
            refine ⟨_, rfl, rfl, _, rfl, ite2' (fun cz => ?_) (fun cz => ?_)⟩
            · have ez : b.2.1 = Zr := by have := of_decide_eq_true cz; injection this
              rw [if_pos ez] at hpp
              exact ⟨_, rfl, _, rfl, _, rfl, ring (s'.raise b) b.2.1 G4 _ _ (hps.trans (passes_stop hpp)) sG4 hV4 hC4 (by omega) (by omega)⟩
            · have nz : b.2.1 ≠ Zr := fun e => by rw [e] at cz; exact absurd cz (by rw [decide_eq_true rfl]; decide)
              rw [if_neg nz] at hpp
              have hkn4 : ∀ x ∈ addN ks' b.2.1, x ∈ ns ∧ x ≠ Zr := fun x hx => by
                rcases addN_mem.mp hx with h | rfl
                · exact hkn1 x h
                · exact ⟨hvn, nz⟩
              exact ⟨_, _, _, _, s'.raise b, some b.2.1, _, _, rfl, sG4, hV4, hC4, by omega, few _ _ hC4.nd fun x hx => (hkn4 x hx).1, hpp, hkn4, rfl⟩
          · have hl : ¬ s'.val b.1 - b.2.2 > s'.val b.2.1 := of_decide_eq_false c
            rw [edr, pass_cons, if_neg hl] at hpp
            exact ⟨_, _, _, _, s', r', ks', kvs', rfl, sG1, hV1, hC1, h1, h2, hpp, hkn1, rfl⟩
        · rintro σ G1 ⟨w4, w5, w6, w7, s', r', ks', kvs', rfl, sG1, hV1, hC1, h1, h2, hpp, hkn1, rfl⟩
          rw [hxl, List.drop_length] at hpp
          have hpp2 : pass Zr bs s none = (false, s', r') := hpp
          cases r' with
          | none =>
            refine ⟨_, rfl, rfl, _, rfl, yes rfl ?_⟩
            refine ⟨_, rfl, (by show 2 ≤ sizeLine; decide), fun T nT => ?_⟩
            have sT := same_put (o := .tup [V.ref vd, V.non]) nT
            have fT : H T = none := by
              cases e : H T with
              | none => rfl
              | some o => rw [sG1 _ _ e] at nT; cases nT
            exact kn s' (hps.trans (passes_fin hpp2)) T vd _ (sG1.trans sT) fT nvdH upd_same (sT _ _ hV1)
          | some v =>
            refine ⟨_, rfl, rfl, _, rfl, no rfl ?_⟩
            refine ⟨_, _, _, _, _, s', some v, ks', kvs', rfl, sG1, hV1, hC1, h1, h2, ?_, hkn1, fun _ => ⟨v, rfl, rfl⟩⟩
            rw [hps, passes_next hpp2]
            congr 1
            omega
      · rintro σ G ⟨w3, w4, w5, w6, w7, s, r, ks, kvs, rfl, sG, hV, hC, hl1, hl2, hps, _, hr⟩
        obtain ⟨v, rfl, rfl⟩ := hr (by omega)
        rw [Nat.sub_self] at hps
        exact ⟨_, rfl, _, rfl, _, rfl, ring s v G ks kvs hps sG hV hC hl1 (by omega)⟩
end
end K31

set_option Elab.async false
set_option maxRecDepth 100000
set_option maxHeartbeats 2000000
namespace K31
open PySem PySem.Spec PyProof.Rows L2 He KX Sol StX
abbrev sNRing : Stmt := inClass (top 8) 2
abbrev sNLen : Stmt := inClass (top 8) 5
abbrev MtP (K : PySem.W.Frag) (x q : Str) (st : Stmt) (f : Addr) (fd : FuncData) : Prop := FunD K x q (defArgs st) (defBody st) (defScope st) [] [] f fd
structure Bnd (K : PySem.W.Frag) : Prop where
  made : Mk K (ga K "Bounds") (ma K (ga K "Bounds") "__init__")
  cls : Cls K (ga K "Bounds")
  noat : NoAttr K (ga K "Bounds") "_bounds"
  mth : ∀ m ∈ meths, Meth K (ga K "Bounds") m (ma K (ga K "Bounds") m)
  kit : PySem.W.kitOne K (.ref (ga K "Bounds")) (.ref (ga K "Bounds")) = some true
  fst : PySem.W.selfFirst K (ga K "Bounds") = true
  add : PySem.W.findIn K (.ref (ga K "Bounds")) (PySem.dunder "add") = some (some (.ref (ma K (ga K "Bounds") "__add__")))
  radd : PySem.W.findIn K (.ref (ga K "Bounds")) (dunderR "add") = some none
  tadd : PySem.W.findIn K (.type "tuple") (PySem.dunder "add") = some (some (.builtin "tuple.__add__"))
  tradd : PySem.W.findIn K (.type "tuple") (dunderR "add") = some none
  tsub : PySem.W.subIn K (.type "tuple") (.ref (ga K "Bounds")) = some false
  cl : PySem.W.findIn K (.ref (ga K "Bounds")) "__class__" = some (some (.builtin "object.__class__"))
  ob : PySem.W.mroIn K (ga K "Bounds") (.type "object") = some true
  afn : PySem.W.isFn K (.ref (ma K (ga K "Bounds") "__add__")) = true
/-- a system of bounds -/
def BnAt (K : PySem.W.Frag) (H : Hp) (a : Addr) (bs : List Sol.B) : Prop := ∃ dx tz xs, H a = some (.ins (ga K "Bounds") dx [("_bounds", V.ref tz)]) ∧ SqT K H tz xs ∧ Paired (BIs K H) xs bs
theorem BnAt.same {K : PySem.W.Frag} {H G : Hp} {a : Addr} {bs : List Sol.B} (h : BnAt K H a bs) (s : Same H G) : BnAt K G a bs := by
  obtain ⟨dx, tz, xs, h1, h2, h3⟩ := h
  exact ⟨dx, tz, xs, s _ _ h1, sqT_same s h2, pr_imp (fun _ _ z => z.same s) h3⟩
def spNLen (K : PySem.W.Frag) : Sp := fun vs H Q _ => ∃ (a : Addr) (bs : List Sol.B), vs = [.ref a] ∧ BnAt K H a bs ∧ bs.length ≤ 100 ∧ Q (.int (bs.length : Nat)) H
def spNRing (K : PySem.W.Frag) : Sp := fun vs H Q _ => ∃ (a : Addr) (bs : List Sol.B), vs = [.ref a] ∧ BnAt K H a bs ∧ bs.length ≤ 100 ∧ (∀ b ∈ bs, b.1 ≠ b.2.1) ∧
  (∀ s, passes Zr bs ((nsOf bs).length + 1) (start Zr (nsOf bs)) none = (s, none) → ∀ G, Same H G → Q .non G) ∧
  ∀ s v, passes Zr bs ((nsOf bs).length + 1) (start Zr (nsOf bs)) none = (s, some v) → ∀ R ys p y G, Same H G → H R = none → G R = some (.lst ys) → Paired (BAt G) ys (back s p y).reverse → 1 ≤ p → p ≤ (nsOf bs).length → it s p y = y → (∀ m, ∃ b, s.cau (it s m y) = some b) → Sol.Ok s → Own Zr bs s → Q (.ref R) G
section
variable {P : Program} {w : World} {K : PySem.W.Frag} {mg : Str → Option Value} {base : Heap}
theorem scNLen : FnScope ["self"] ["self"] (defScope sNLen) := ⟨rfl, rfl, rfl, by decide +kernel, rfl, by decide +kernel, by decide +kernel⟩
theorem scNRing : FnScope ["self"] ["self"] (defScope sNRing) := ⟨rfl, rfl, rfl, by decide +kernel, rfl, by decide +kernel, by decide +kernel⟩
theorem ok_nlen {f : Addr} {fd : FuncData} (F : MtP K "__len__" "Bounds.__len__" sNLen f fd) (S : Bnd K) (n_len : mg "len" = none) : FnOk P w K mg base CX0 1 f fd ["self"] (spNLen K) := by
  refine F.ok scNLen (fun vs H Q E h => ?_) (fun cdv A outer s H vs Q E hr h => ?_)
  · obtain ⟨a, bs, rfl, _⟩ := h
    rfl
  · obtain ⟨a, bs, rfl, hB, hl, k⟩ := h
    have nd := scNLen.nd
    refine ⟨_, PSs.nox (pss_one (ps_ret (pe_callB call_len_seq (by rfl) n_len PySem.boot_len (pa_cons (pe_fld (pv 0) rfl) pa_nil)))), ?_⟩
    obtain ⟨dx, tz, xs, ha, ht, hP⟩ := hB
    rw [← Paired.length hP] at k
    exact ⟨_, rfl, a, _, dx, _, _, rfl, ha, S.cls, S.noat, rfl, tz, xs, rfl, .inr ht, k⟩
theorem ok_nring {f fSv : Addr} {fd fdSv : FuncData} (F : MtP K "ring" "Bounds.ring" sNRing f fd) (S : Bnd K) (GSv : FnOk P w K mg base CX0 2 fSv fdSv ["bounds"] (spSolved K)) (bSv : Binds K fdSv ["bounds"] []) (kSv : PySem.W.keepIn K (.ref fSv) = true) (gSv : mg "_solved" = some (.ref fSv)) : FnOk P w K mg base CX0 3 f fd ["self"] (spNRing K) := by
  refine F.ok scNRing (fun vs H Q E h => ?_) (fun cdv A outer s H vs Q E hr h => ?_)
  · obtain ⟨a, bs, rfl, _⟩ := h
    rfl
  · obtain ⟨a, bs, rfl, hB, hl, hne, kn, kr⟩ := h
    have nd := scNRing.nd
    refine ⟨_, PSs.nox (pss_one (ps_ret (pe_ix ix_tup (pe_call GSv hr (by rfl) gSv kSv bSv .nil pass0 (pa_cons (pe_fld (pv 0) rfl) pa_nil)) pe_int (fun _ _ => rfl)))), ?_⟩
    obtain ⟨dx, tz, xs, ha, ht, hP⟩ := hB
    refine ⟨_, rfl, a, _, dx, _, _, rfl, ha, S.cls, S.noat, rfl, tz, xs, bs, rfl, .inr ht, hP, hl, hne, fun s hp T vd G sG nT nvd hT hV => ?_, fun s v hp T vd R ys p y G sG nT nvd nR hT hV hR hPr p1 p2 p3 p4 p5 p6 => ?_⟩
    · exact ⟨T, _, _, _, rfl, rfl, SqT.of hT, rfl, kn s hp G sG⟩
    · exact ⟨T, _, _, _, rfl, rfl, SqT.of hT, rfl, kr s v hp R ys p y G sG nR hR hPr p1 p2 p3 p4 p5 p6⟩
end
end K31

set_option Elab.async false
set_option maxRecDepth 100000
set_option maxHeartbeats 2000000
namespace K31
open PySem PySem.Spec PyProof.Rows L2 He KX Sol StX
abbrev sBBI : Stmt := inClass (top 5) 0
abbrev sNInit : Stmt := inClass (top 8) 0
def spX1 (C : Addr) (f : Str) : Sp := fun vs H Q _ => ∃ (a : Addr) (x : V) (H0 : Hp), vs = [.ref a, x] ∧ H = upd H0 a (exo a C none) ∧ H0 a = none ∧
  ∀ d H', H0 d = none → d ≠ a → H' a = some (exo a C (some d)) → H' d = some (exd d [(f, x)]) → (∀ y, y ≠ a → y ≠ d → H' y = H0 y) → Q .non H'
def Raised (C : Addr) (H : Hp) (fs : List (Str × V)) (E : XK) : Prop := ∀ d H', Same H H' → H' d = some (.xd fs) → E (.ref C) (some d) H'
theorem raised_at {C : Addr} {H J : Hp} {fs : List (Str × V)} {E : XK} (h : Raised C H fs E) (s : Same H J) {e d : Addr} {H' : Hp} (he : J e = none) (hd : J d = none) (hne : d ≠ e) (h3 : ∀ y, y ≠ e → y ≠ d → H' y = J y) : E (.ref C) (some d) (upd (del H' e) d (.xd fs)) := by
  refine h d _ (fun b o q => ?_) upd_same
  have q1 := s _ _ q
  have nb : b ≠ d := ne_of_none q1 hd
  have ne : b ≠ e := ne_of_none q1 he
  rw [upd_ne nb, del_ne ne, h3 b ne nb]
  exact q1
/-- Bounds(*things): the things as data -/
def spNBody (K : PySem.W.Frag) : Sp := fun vs H Q E => ∃ (a dx t : Addr) (xs : List V) (ds : List PyData), vs = [.ref a, .ref t] ∧ H a = some (.ins (ga K "Bounds") dx []) ∧ H t = some (.tup xs) ∧ xs.length ≤ 100 ∧ Paired (fun x d => Dp K H x d ∧ okBd d) xs ds ∧
  (∀ i d, ds[i]? = some d → bdD d = false → (∀ d' ∈ ds.take i, bdD d' = true) → Raised (ga K "BadBound") H [("index", .int (i : Nat))] E) ∧
  ((∀ d ∈ ds, bdD d = true) → ∀ H', Kept a H H' → H' a = some (.ins (ga K "Bounds") dx [("_bounds", V.ref t)]) → Q .non H')
section
variable {P : Program} {w : World} {K : PySem.W.Frag} {mg : Str → Option Value} {base : Heap}
theorem scBBI : FnScope ["self", "index"] ["self", "index"] (defScope sBBI) := ⟨rfl, rfl, rfl, by decide +kernel, rfl, by decide +kernel, by decide +kernel⟩
theorem scNInit : FnScope ["self", "bounds", "index", "bound"] ["self", "bounds"] (defScope sNInit) := ⟨rfl, rfl, rfl, by decide +kernel, rfl, by decide +kernel, by decide +kernel⟩
theorem ok_bbi {f : Addr} {fd : FuncData} (F : FunD K "__init__" "BadBound.__init__" (defArgs sBBI) (defBody sBBI) (defScope sBBI) [] [] f fd) (B : ErBB K) : FnOk P w K mg base CX0 1 f fd ["self", "index"] (spX1 (ga K "BadBound") "index") := by
  refine F.ok scBBI (fun vs H Q E h => ?_) (fun cdv A outer s H vs Q E hr h => ?_)
  · obtain ⟨a, x, H0, rfl, _⟩ := h
    rfl
  · obtain ⟨a, x, H0, rfl, rfl, ha, k⟩ := h
    refine ⟨_, PSs.nox (pss_one (ps_st (pv 0) (pv 1))), ?_⟩
    refine ⟨_, rfl, _, rfl, a, _, _, _, rfl, B.T, bsV, B.no _ List.mem_cons_self, .inl ⟨upd_same, fun d hd hda => ?_⟩⟩
    exact k d _ ((upd_ne hda).symm.trans hd) hda upd_same ((upd_ne hda).trans upd_same) (fun x n1 n2 => (upd_ne n1).trans ((upd_ne n2).trans (upd_ne n1)))
theorem ok_ninit {f fB : Addr} {fd fdB fdE : FuncData} (F : FunD K "__init__" "Bounds.__init__" (defArgs sNInit) (defBody sNInit) (defScope sNInit) [] [] f fd) (B : ErBB K) (gC : mg "BadBound" = some (.ref (ga K "BadBound")))
    (FE : FunD K "__init__" "BadBound.__init__" (defArgs sBBI) (defBody sBBI) (defScope sBBI) [] [] (ma K (ga K "BadBound") "__init__") fdE)
    (GB : FnOk P w K mg base CX0 2 fB fdB ["thing"] (spBound K)) (bB : Binds K fdB ["thing"] []) (kB : PySem.W.keepIn K (.ref fB) = true) (gB : mg "is_bound" = some (.ref fB)) (n_enumerate : mg "enumerate" = none)
    (cS : Cls K (ga K "Bounds")) (nS : NoAttr K (ga K "Bounds") "_bounds") :
    FnR P w K mg base (L2N.CX P w) 3 f (fun vs H Q E => ∃ ws rest, vs = ws ++ rest ∧ ws.length = (["self"] : List Str).length ∧ rest.length ≤ sizeLine ∧ ∀ p, H p = Option.none → spNBody K (ws ++ [V.ref p]) (upd H p (.tup rest)) Q E) := by
  have GE : FnOk P w K mg base CX0 1 (ma K (ga K "BadBound") "__init__") fdE ["self", "index"] (spX1 (ga K "BadBound") "index") := ok_bbi FE B
  have bE : Binds K fdE ["self", "index"] [] := FE.bindsN fun _ _ _ _ _ _ us hl => match us, hl with | [_, _], _ => rfl
  obtain ⟨oc, od, dV, kV, doc, pm, an, cdv, ct, osl, rfl, lk, hcd, hD, _⟩ := F.ex
  obtain rfl : dV = .none := hD.elim (fun h => h.2) fun h => absurd rfl h.1
  refine fn_star (ps := ["self"]) (pv := "bounds") (N := ["self", "bounds", "index", "bound"]) lk hcd scNInit cxUpN (fun us rest e => bind_star1 (B := fun us => bindArgs _ ⟨us, []⟩) (p1 := "self") (pv := "bounds") (fun _ => rfl) (fun _ _ _ => rfl) us rest e) fun A outer s H vs Q E hr h => ?_
  obtain ⟨a, dx, t, xs, ds, rfl, ha, ht, hl, hP, hbad, hgood⟩ := h
  have nd := scNInit.nd
  have hr2 := hr.mono (j := 2) (by decide)
  refine ⟨_, (by exact (pss_cons (ps_for (passes_of rfl) rfl (by exact (pi_enumT (by rfl) n_enumerate (pa_cons (pv 1) pa_nil))) (pg_tup rfl (pgs_cons (pg_name (i := 2) nd rfl (Or.inl rfl)) (pgs_cons (pg_name (i := 3) nd rfl (Or.inl rfl)) pgs_nil)))
      (by exact (pss_one (ps_if (pt_not (pt_val (by exact (pe_call GB hr2 rfl gB kB bB .nil pass0 (pa_cons (pv 3) pa_nil)))))
        (pss_one (L2N.ps_raise rfl (L2N.takes_of rfl rfl rfl rfl) (by exact (pmk_x B.T B.ty bsV B.iC B.fn GE hr2 bE pass0 rfl gC (pa_cons (pv 2) pa_nil))))) pss_nil))))
    (pss_one (ps_fld (pv 0) (pv 1) rfl)))), ?_⟩
  refine ⟨_, rfl, t, xs, rfl, SqT.of ht, for_it (walk_enumT (K := K) (a := t) (xs := xs)) (fun i σ G => ∃ w2 w3, σ = [some (.ref a), some (.ref t), w2, w3] ∧ Same H G ∧ ∀ d ∈ ds.take i, bdD d = true) ⟨none, none, rfl, .refl _, by simp⟩ (fun i σ G _ h => by obtain ⟨_, _, _, h, _⟩ := h; exact SqT.of (h _ _ ht)) ?_ ?_⟩
  · rintro i x σ G G1 hi ⟨w2, w3, rfl, s0, hall⟩ hY
    obtain ⟨T, ki, ev, rfl, nT, rfl, hk1, hk2⟩ := hY
    obtain rfl : V.int ((i : Nat) : Int) = ki := Option.some.inj hk1
    obtain ⟨d, hd, hdp, hok⟩ := pr_at hP hk2
    have s1 := s0.trans (same_put (o := .tup [.int ((i : Nat) : Int), ev]) nT)
    have fT : upd G T (.tup [.int ((i : Nat) : Int), ev]) T = some (.tup [.int ((i : Nat) : Int), ev]) := upd_same
    generalize upd G T (.tup [.int ((i : Nat) : Int), ev]) = G1 at s1 fT
    refine ⟨T, _, rfl, SqT.of fT, rfl, ⟨_, _, rfl, ⟨_, _, rfl, ⟨rfl, ?_⟩⟩⟩⟩
    dsimp only [gName, List.set]
    refine ⟨_, rfl, ev, d, rfl, dp_same s1 d _ hdp, hok, fun G2 s2 => ⟨_, rfl, ?_⟩⟩
    cases c : bdD d with
    | false => exact yes rfl ⟨_, rfl, (by show 1 ≤ 1000; decide), fun e he => ⟨e, _, G2, rfl, rfl, he, fun dd H' hdd hde h1 h2 h3 => ⟨rfl, dd, _, h1, h2, hdd, raised_at (hbad i d hd c hall) (s1.trans s2) he hdd hde h3⟩⟩⟩
    | true =>
      refine no rfl ⟨_, _, rfl, s1.trans s2, fun d' hd' => ?_⟩
      rw [List.take_succ, hd] at hd'
      rcases List.mem_append.mp hd' with h | h
      · exact hall d' h
      · rw [show d' = d by simpa using h]
        exact c
  · rintro σ G ⟨w2, w3, rfl, sG, hall⟩
    rw [Paired.length hP, List.take_length] at hall
    refine ⟨_, rfl, _, rfl, a, _, dx, [], rfl, sG _ _ ha, cS, nS, by decide, ?_⟩
    exact hgood hall _ (fun b o n e => by rw [upd_ne n]; exact sG _ _ e) upd_same
end
end K31

set_option Elab.async false
set_option maxRecDepth 100000
set_option maxHeartbeats 2000000
namespace K31
open PySem PySem.Spec PyProof.Rows L2 He KX Sol StX
abbrev sNHas : Stmt := inClass (top 8) 3
/-- a ring is told -/
def ringQ (bs : List Sol.B) : Bool := (passes Zr bs ((nsOf bs).length + 1) (start Zr (nsOf bs)) none).2.isSome
def hasQ (bs : List Sol.B) (d : PyData) : Bool := match bd3 d with
  | some (u, v, c) => ringQ (bs ++ [(v, u, -c - 1)])
  | none => false
def spNHas (K : PySem.W.Frag) : Sp := fun vs H Q _ => ∃ (a : Addr) (bs : List Sol.B) (x : V) (d : PyData), vs = [.ref a, x] ∧ BnAt K H a bs ∧ bs.length ≤ 90 ∧ (∀ b ∈ bs, b.1 ≠ b.2.1) ∧ Dp K H x d ∧ okBd d ∧ ∀ G, Same H G → Q (.bl (hasQ bs d)) G
section
variable {P : Program} {w : World} {K : PySem.W.Frag} {mg : Str → Option Value} {base : Heap}
theorem scNHas : FnScope ["self", "x"] ["self", "x"] (defScope sNHas) := ⟨rfl, rfl, rfl, by decide +kernel, rfl, by decide +kernel, by decide +kernel⟩
theorem ok_nhas {f fB fO fSv : Addr} {fd fdB fdO fdSv : FuncData} (F : MtP K "__contains__" "Bounds.__contains__" sNHas f fd) (S : Bnd K)
    (GB : FnOk P w K mg base CX0 2 fB fdB ["thing"] (spBound K)) (bB : Binds K fdB ["thing"] []) (kB : PySem.W.keepIn K (.ref fB) = true) (gB : mg "is_bound" = some (.ref fB))
    (GO : FnOk P w K mg base CX0 1 fO fdO ["bound"] (spOpp K)) (bO : Binds K fdO ["bound"] []) (kO : PySem.W.keepIn K (.ref fO) = true) (gO : mg "opposite" = some (.ref fO))
    (GSv : FnOk P w K mg base CX0 2 fSv fdSv ["bounds"] (spSolved K)) (bSv : Binds K fdSv ["bounds"] []) (kSv : PySem.W.keepIn K (.ref fSv) = true) (gSv : mg "_solved" = some (.ref fSv)) : FnOk P w K mg base CX0 3 f fd ["self", "x"] (spNHas K) := by
  refine F.ok scNHas (fun vs H Q E h => ?_) (fun cdv A outer s H vs Q E hr h => ?_)
  · obtain ⟨a, bs, x, d, rfl, _⟩ := h
    rfl
  · obtain ⟨a, bs, x, d, rfl, hB, hl, hne, hd, hok, k⟩ := h
    have nd := scNHas.nd
    have hr1 := hr.mono (j := 1) (by decide)
    refine ⟨_, PSs.nox (pss_one (ps_ret (pe_and (pe_call GB hr (by rfl) gB kB bB .nil pass0 (pa_cons (pv 1) pa_nil)) (pe_one (pe_cmpR op_notN (pe_ix ix_tup (pe_call GSv hr (by rfl) gSv kSv bSv .nil pass0 (pa_cons (pe_lst (pa_star (pe_fld (pv 0) rfl) (pa_cons (pe_call GO hr1 (by rfl) gO kO bO .nil pass0 (pa_cons (pv 1) pa_nil)) pa_nil))) pa_nil)) pe_int (fun _ _ => rfl)) pe_non (nomark _)))))), ?_⟩
    refine ⟨_, rfl, x, d, rfl, hd, hok, fun G1 s1 => ⟨_, rfl, ?_⟩⟩
    cases c : bd3 d with
    | none =>
      have e1 : bdD d = false := by unfold bdD; rw [c]; rfl
      have e2 : hasQ bs d = false := by unfold hasQ; rw [c]
      rw [e1]
      rw [e2] at k
      exact no rfl (k G1 s1)
    | some uvc =>
      obtain ⟨u, v, cc⟩ := uvc
      have e1 : bdD d = true := by unfold bdD; rw [c]; rfl
      have e2 : hasQ bs d = ringQ (bs ++ [(v, u, -cc - 1)]) := by unfold hasQ; rw [c]
      rw [e1]
      rw [e2] at k
      obtain ⟨rfl, hu, hv, huv⟩ := bd3_inv c
      have hd1 := dp_same s1 _ _ hd
      refine yes rfl ?_
      obtain ⟨dx, tz, xs, ha, ht, hP⟩ := hB.same s1
      obtain ⟨p, rfl, hp⟩ : ∃ p, x = V.ref p ∧ SqT K G1 p [.str u, .str v, .int cc] := by
        cases hd1 with
        | tup hS hA =>
          cases hA with
          | cons h1 hA => cases h1; cases hA with
            | cons h1 hA => cases h1; cases hA with
              | cons h1 hA => cases h1; cases hA; exact ⟨_, rfl, hS⟩
      refine ⟨_, rfl, a, _, dx, _, _, rfl, ha, S.cls, S.noat, rfl, tz, xs, rfl, .inl ht, _, rfl, p, _, _, _, rfl, hp, fun T nT => ?_⟩
      have sT := same_put (o := .tup [V.str v, V.str u, V.int (-cc - 1)]) nT
      have hT : upd G1 T (.tup [V.str v, V.str u, V.int (-cc - 1)]) T = some (.tup [V.str v, V.str u, V.int (-cc - 1)]) := upd_same
      generalize upd G1 T (.tup [V.str v, V.str u, V.int (-cc - 1)]) = G2 at sT hT ⊢
      have hxl := Paired.length hP
      refine ⟨by rw [List.length_append, sizeLine_eq]; show xs.length + 1 ≤ _; omega, fun L nL => ?_⟩
      have sL := same_put (o := .lst (xs ++ [V.ref T])) nL
      have hL : upd G2 L (.lst (xs ++ [V.ref T])) L = some (.lst (xs ++ [V.ref T])) := upd_same
      have s3 := (s1.trans sT).trans sL
      have hP3 : Paired (BIs K (upd G2 L (.lst (xs ++ [V.ref T])))) (xs ++ [V.ref T]) (bs ++ [(v, u, -cc - 1)]) := pr_app (pr_imp (fun _ _ z => (z.same sT).same sL) hP) (.cons ⟨T, rfl, SqT.of (sL _ _ hT)⟩ .nil)
      generalize hbs : bs ++ [(v, u, -cc - 1)] = bs2 at hP3 k ⊢
      have hl2 : bs2.length ≤ 100 := by rw [← hbs, List.length_append]; show bs.length + 1 ≤ 100; omega
      have hne2 : ∀ b ∈ bs2, b.1 ≠ b.2.1 := fun b hb => by
        rw [← hbs] at hb
        rcases List.mem_append.mp hb with h | h
        · exact hne b h
        · rw [List.mem_singleton.mp h]
          exact fun e => huv e.symm
      refine ⟨L, _, bs2, rfl, .inl (SqL.of hL), hP3, hl2, hne2, fun s' hp' T' vd G' sG nT' nvd hT' hV => ?_, fun s' v' hp' T' vd R ys p' y G' sG nT' nvd nR hT' hV hR hPr p1 p2 p3 p4 p5 p6 => ?_⟩
      · have e3 : ringQ bs2 = false := by unfold ringQ; rw [hp']; rfl
        rw [e3] at k
        exact ⟨T', _, _, _, rfl, rfl, SqT.of hT', rfl, rfl, k G' (s3.trans sG)⟩
      · have e3 : ringQ bs2 = true := by unfold ringQ; rw [hp']; rfl
        rw [e3] at k
        exact ⟨T', _, _, _, rfl, rfl, SqT.of hT', rfl, rfl, k G' (s3.trans sG)⟩
end
end K31

set_option Elab.async false
set_option maxRecDepth 100000
set_option maxHeartbeats 2000000
namespace K31
open PySem PySem.Spec PyProof.Rows L2 He KX Sol StX
abbrev sNAdd : Stmt := inClass (top 8) 4
theorem passLN {X : Cx} : Passes (L2N.CX X.prog X.w) X (fun _ _ _ => False) := fun _ _ _ _ _ _ _ h => by
  obtain ⟨_, _, _, _, _, _, _, _, _, _, _, _, z⟩ := h
  exact z.elim
section
variable {X : Cx} {CX : CXT} {k : Nat} {f C : Addr} {sp : Sp} {E : XK} {x : Str} {e : Expr} {te : TE} {p sp_ pos : Pos}
/-- C(*y) -/
theorem pe_makeS1 (M : Mk X.K C f) (F : FnR X.prog X.w X.K X.mg X.base CX k f sp) (hr : Room (k + 1) X.A) (hg : Gl X x) (hm : X.mg x = some (.ref C)) (hx : Passes CX X E) (he : PE X e te) (hd : (x == ("__debug__" : Str)) = false := by decide)
    (hst : starEach [.Starred e sp_] X.env = [(true, eval e X.env)] := by rfl) :
    PE X (.Call (.Name x p) [.Starred e sp_] [] pos) (fun σ H Q => te σ H fun y H1 => ∃ a xs, y = V.ref a ∧ (SqT X.K H1 a xs ∨ SqL X.K H1 a xs) ∧ ∀ x dx, H1 x = Option.none → H1 dx = Option.none → dx ≠ x →
      sp (V.ref x :: xs) (upd (upd H1 dx (.own x)) x (.ins C dx [])) (fun v H2 => v = .non ∧ Q (.ref x) H2) E) := by
  refine ⟨fun pins s σ H Q I h => ?_⟩
  refine wpAny_Call_Name_kw (ld_glob I hg hm ?_ hd)
  refine PySem.W.callWith_S (h₀ := X.base) I.ok.mod.kin M.kp (thn (he.run pins s σ H _ I h) fun v s1 ⟨y, H1, I1, ry, a, xs, ey, hxs, q⟩ => ?_) hst
  subst ey
  obtain rfl : v = Value.ref a := ry
  exact star_any I1 hxs fun us s2 I2 rv => ⟨I2.kIn, run_makeR M F hr hx I2 rv q⟩
end
/-- what Bounds.__init__ promises, as a call of the class asks it -/
abbrev spNR (K : PySem.W.Frag) : Sp := fun vs H Q E => ∃ ws rest, vs = ws ++ rest ∧ ws.length = (["self"] : List Str).length ∧ rest.length ≤ sizeLine ∧ ∀ p, H p = Option.none → spNBody K (ws ++ [V.ref p]) (upd H p (.tup rest)) Q E
def bnD (b : Sol.B) : PyData := .tuple [.str b.1, .str b.2.1, .int b.2.2]
theorem BIs.dp {K : PySem.W.Frag} {H : Hp} {x : V} {b : Sol.B} (h : BIs K H x b) : Dp K H x (bnD b) := by
  obtain ⟨t, rfl, ht⟩ := h
  exact .tup ht (.cons (.str _) (.cons (.str _) (.cons (.int _) .nil)))
/-- Bounds(..) of bounds -/
theorem made_bn {K : PySem.W.Frag} {H : Hp} {xs : List V} {bs : List Sol.B} {Q : V → Hp → Prop} {E : XK} {x dx : Addr} (hx : H x = none) (hdx : H dx = none) (hne : dx ≠ x) (hP : Paired (BIs K H) xs bs) (hl : bs.length ≤ 100) (hok : ∀ b ∈ bs, bdD (bnD b) = true ∧ okBd (bnD b))
    (h : ∀ G, Same H G → BnAt K G x bs → Q (.ref x) G) : spNR K (V.ref x :: xs) (upd (upd H dx (.own x)) x (.ins (ga K "Bounds") dx [])) (fun v H2 => v = .non ∧ Q (.ref x) H2) E := by
  have hxl := Paired.length hP
  refine ⟨[.ref x], xs, rfl, rfl, (by rw [sizeLine_eq]; omega), fun p hp => ?_⟩
  have npx : p ≠ x := by
    rintro rfl
    rw [upd_same] at hp
    cases hp
  have s1 : Same H (upd (upd H dx (.own x)) x (.ins (ga K "Bounds") dx [])) := fun b o e => by rw [upd_ne (ne_of_none e hx), upd_ne (ne_of_none e hdx)]; exact e
  have s2 := s1.trans (same_put (o := .tup xs) hp)
  have prd : ∀ {xs : List V} {bs : List Sol.B} {G : Hp}, Paired (BIs K G) xs bs → (∀ b ∈ bs, okBd (bnD b)) → Paired (fun x d => Dp K G x d ∧ okBd d) xs (bs.map bnD) := by
    intro xs bs G h
    induction h with
    | nil => intro _; exact .nil
    | cons q _ ih => intro hk; exact .cons ⟨q.dp, hk _ List.mem_cons_self⟩ (ih fun b hb => hk b (List.mem_cons_of_mem _ hb))
  have hP2 := pr_imp (fun _ _ z => z.same s2) hP
  refine ⟨x, dx, p, xs, bs.map bnD, rfl, (upd_ne npx.symm).trans upd_same, upd_same, by omega, prd hP2 fun b hb => (hok b hb).2, fun i d hd hb _ => ?_, fun _ G kk hG => ⟨rfl, h G (fun b o e => kk b o (ne_of_none e hx) (s2 _ _ e)) ⟨dx, p, xs, hG, ?_, ?_⟩⟩⟩
  · obtain ⟨b, hb2, rfl⟩ := Option.map_eq_some_iff.mp ((List.getElem?_map ..).symm.trans hd)
    rw [(hok b (List.mem_of_getElem? hb2)).1] at hb
    cases hb
  · exact SqT.of (kk _ _ npx upd_same)
  · exact pr_imp (fun _ _ z => z.same fun b o e => kk b o (ne_of_none e hx) (s2 _ _ e)) hP
def spNAdd (K : PySem.W.Frag) : Sp := fun vs H Q _ => ∃ (a : Addr) (bs : List Sol.B) (x : V) (b : Sol.B), vs = [.ref a, x] ∧ BnAt K H a bs ∧ bs.length ≤ 90 ∧ BIs K H x b ∧ (∀ b ∈ bs, bdD (bnD b) = true ∧ okBd (bnD b)) ∧ bdD (bnD b) = true ∧ okBd (bnD b) ∧ ∀ r G, H r = none → Same H G → BnAt K G r (bs ++ [b]) → Q (.ref r) G
section
variable {P : Program} {w : World} {K : PySem.W.Frag} {mg : Str → Option Value} {base : Heap}
theorem scNAdd : FnScope ["self", "other", "bounds"] ["self", "other"] (defScope sNAdd) := ⟨rfl, rfl, rfl, by decide +kernel, rfl, by decide +kernel, by decide +kernel⟩
theorem ok_nadd {f : Addr} {fd : FuncData} (F : MtP K "__add__" "Bounds.__add__" sNAdd f fd) (S : Bnd K) (GS : FnR P w K mg base (L2N.CX P w) 3 (ma K (ga K "Bounds") "__init__") (spNR K)) (gS : mg "Bounds" = some (.ref (ga K "Bounds"))) : FnOk P w K mg base CX0 5 f fd ["self", "other"] (spNAdd K) := by
  refine F.ok scNAdd (fun vs H Q E h => ?_) (fun cdv A outer s H vs Q E hr h => ?_)
  · obtain ⟨a, bs, x, b, rfl, _⟩ := h
    rfl
  · obtain ⟨a, bs, x, b, rfl, hB, hl, hx, hok, hb1, hb2, k⟩ := h
    have nd := scNAdd.nd
    have hr4 := hr.mono (j := 4) (by decide)
    refine ⟨_, PSs.nox (pss_cons (ps_set (i := 2) nd rfl (Or.inl rfl) (pe_lst (pa_star (pe_fld (pv 0) rfl) (pa_cons (pv 1) pa_nil)))) (pss_one (ps_ret (pe_makeS1 S.made GS hr4 rfl gS passLN (pv 2))))), ?_⟩
    obtain ⟨dx, tz, xs, ha, ht, hP⟩ := hB
    have hxl := Paired.length hP
    refine ⟨_, rfl, a, _, dx, _, _, rfl, ha, S.cls, S.noat, rfl, tz, xs, rfl, .inl ht, _, rfl, ?_⟩
    refine ⟨by rw [List.length_append, sizeLine_eq]; show xs.length + 1 ≤ _; omega, fun L nL => ?_⟩
    have sL := same_put (o := .lst (xs ++ [x])) nL
    have hL : upd H L (.lst (xs ++ [x])) L = some (.lst (xs ++ [x])) := upd_same
    have hP2 : Paired (BIs K (upd H L (.lst (xs ++ [x])))) (xs ++ [x]) (bs ++ [b]) := pr_app (pr_imp (fun _ _ z => z.same sL) hP) (.cons (hx.same sL) .nil)
    refine ⟨_, rfl, L, _, rfl, .inr (SqL.of hL), fun r dr nr ndr hnr => made_bn nr ndr hnr hP2 (by rw [List.length_append]; show bs.length + 1 ≤ 100; omega) (fun c hc => ?_) fun G sG hG => ?_⟩
    · rcases List.mem_append.mp hc with h | h
      · exact hok c h
      · rw [List.mem_singleton.mp h]
        exact ⟨hb1, hb2⟩
    · refine k r G ?_ (sL.trans sG) hG
      cases e : H r with
      | none => rfl
      | some o => rw [sL _ _ e] at nr; cases nr
end
end K31

set_option Elab.async false
set_option maxRecDepth 100000
set_option maxHeartbeats 2000000
/-! The ring that is told is a ring of good bounds. No Lean of the program. -/
namespace K31
open PySem PySem.Spec PyProof.Rows L2 KX Sol
theorem back_at {s : Sol.St} {y : Str} (h : ∀ m, ∃ b, s.cau (it s m y) = some b) : ∀ (p i : Nat), i < p → ∃ b, (back s p y)[i]? = some b ∧ s.cau (it s i y) = some b
  | 0, _, hi => absurd hi (Nat.not_lt_zero _)
  | p + 1, i, hi => by
    obtain ⟨b, e⟩ := h p
    have hb : back s (p + 1) y = back s p y ++ [b] := by
      show back s p y ++ (match s.cau (it s p y) with | some b => [b] | none => []) = _
      rw [e]
    rw [hb]
    by_cases c : i < p
    · obtain ⟨b2, e2, e3⟩ := back_at h p i c
      exact ⟨b2, by rw [List.getElem?_append_left (by rw [back_len h]; exact c)]; exact e2, e3⟩
    · have : i = p := by omega
      subst this
      exact ⟨b, by rw [List.getElem?_append_right (by rw [back_len h]; exact Nat.le_refl _), back_len h, Nat.sub_self]; rfl, e⟩
theorem rev_at {α : Type} {xs : List α} {i : Nat} (h : i < xs.length) : xs.reverse[i]? = xs[xs.length - 1 - i]? := by
  rw [List.getElem?_reverse h]
/-- all bounds of the ring are good: they are the system's own, or from zero to a name that the one before starts with -/
theorem ring_good {s : Sol.St} {bs : List Sol.B} {p : Nat} {y : Str} (hp : 1 ≤ p) (e : it s p y = y) (hc : ∀ m, ∃ b, s.cau (it s m y) = some b) (ok : Sol.Ok s) (ow : Own Zr bs s) (hb : ∀ b ∈ bs, bdD (bnD b) = true) : ∀ b ∈ back s p y, bdD (bnD b) = true := by
  have good : ∀ i b, s.cau (it s i y) = some b → 1 ≤ i → bdD (bnD b) = true := by
    intro i b e1 hi
    rcases ow _ _ e1 with h | ⟨h1, h2⟩
    · exact hb _ h
    · obtain ⟨j, rfl⟩ : ∃ j, i = j + 1 := ⟨i - 1, by omega⟩
      obtain ⟨b2, e2⟩ := hc j
      have e3 : it s (j + 1) y = b2.1 := by
        show nx s (it s j y) = _
        unfold nx
        rw [e2]
      rcases ow _ _ e2 with h | ⟨h3, h4⟩
      · have q := hb _ h
        unfold bnD at q
        rw [bd_parts] at q
        have q1 := (Bool.and_eq_true_iff.mp q).1
        rw [h2]
        unfold bnD
        rw [bd_parts]
        show (isNm Zr && (isNm (it s (j + 1) y) && ((!decide (Zr = it s (j + 1) y)) && true))) = true
        rw [e3] at h1 ⊢
        rw [show isNm b2.1 = true from q1, decide_eq_false (fun z => h1 z.symm)]
        decide +kernel
      · rw [e3, h4] at h1
        exact absurd rfl h1
  intro b hb2
  obtain ⟨i, hi⟩ := List.mem_iff_getElem?.mp hb2
  have hil : i < p := by
    have := (List.getElem?_eq_some_iff.mp hi).1
    rwa [back_len hc] at this
  obtain ⟨b2, e2, e3⟩ := back_at hc p i hil
  obtain rfl : b2 = b := Option.some.inj (e2.symm.trans hi)
  by_cases c : 1 ≤ i
  · exact good i _ e3 c
  · have : i = 0 := by omega
    subst this
    refine good p _ ?_ hp
    rw [e]
    exact e3
theorem bdOf_bn {b : Sol.B} (h : bdD (bnD b) = true) : bdOf (bnD b) = b := by
  unfold bdD at h
  unfold bdOf
  cases e : bd3 (bnD b) with
  | none => rw [e] at h; cases h
  | some t =>
    have q := (bd3_inv e).1
    unfold bnD at q
    injection q with q
    injection q with q1 q
    injection q with q2 q
    injection q with q3
    injection q1 with q1
    injection q2 with q2
    injection q3 with q3
    show t = b
    obtain ⟨b1, b2, b3⟩ := b
    obtain ⟨t1, t2, t3⟩ := t
    cases q1
    cases q2
    cases q3
    rfl
theorem ring_is {s : Sol.St} {bs : List Sol.B} {p : Nat} {y : Str} (hp : 1 ≤ p) (e : it s p y = y) (hc : ∀ m, ∃ b, s.cau (it s m y) = some b) (ok : Sol.Ok s) (ow : Own Zr bs s) (hb : ∀ b ∈ bs, bdD (bnD b) = true) : rgL ((back s p y).reverse.map bnD) = true := by
  have hg := ring_good hp e hc ok ow hb
  have hl : (back s p y).length = p := back_len hc p
  have e1 : ((back s p y).reverse.map bnD).all bdD = true := by
    refine List.all_eq_true.mpr fun d hd => ?_
    obtain ⟨b, hb2, rfl⟩ := List.mem_map.mp hd
    exact hg b (List.mem_reverse.mp hb2)
  have e2 : ((back s p y).reverse.map bnD).map bdOf = (back s p y).reverse := by
    rw [List.map_map]
    have : ∀ (l : List Sol.B), (∀ b ∈ l, bdD (bnD b) = true) → l.map (bdOf ∘ bnD) = l := by
      intro l
      induction l with
      | nil => intro _; rfl
      | cons b r ih => intro h; rw [List.map_cons, ih fun x hx => h x (List.mem_cons_of_mem _ hx)]; congr 1; exact bdOf_bn (h b List.mem_cons_self)
    exact this _ fun b hb2 => hg b (List.mem_reverse.mp hb2)
  unfold rgL
  rw [e1, e2]
  show rgT _ = true
  unfold rgT
  have hs : ((back s p y).reverse.map fun t => t.2.2).sum < 0 := by
    have := ring_sum ok hc hp e
    unfold sumC at this
    have e3 : ((back s p y).reverse.map fun t => t.2.2).sum = ((back s p y).map fun b => b.2.2).sum := by
      rw [List.map_reverse, List.sum_reverse]
    rw [e3]
    exact this
  rw [decide_eq_true hs]
  refine Bool.and_eq_true_iff.mpr ⟨List.all_eq_true.mpr fun i hi => ?_, rfl⟩
  have hi2 : i < p := by
    have := List.mem_range.mp hi
    rwa [List.length_reverse, hl] at this
  have at_ : ∀ j, j < p → ∃ b, (back s p y).reverse[j]? = some b ∧ s.cau (it s (p - 1 - j) y) = some b := by
    intro j hj
    obtain ⟨b, q1, q2⟩ := back_at hc p (p - 1 - j) (by omega)
    exact ⟨b, by rw [rev_at (by rw [hl]; exact hj), hl]; exact q1, q2⟩
  have nxt : ∀ m b, s.cau (it s m y) = some b → it s (m + 1) y = b.1 := by
    intro m b q
    show nx s (it s m y) = _
    unfold nx
    rw [q]
  obtain ⟨b, q1, q2⟩ := at_ i hi2
  have hpr : pred ((back s p y).reverse).length i < p ∧ (1 ≤ i → pred ((back s p y).reverse).length i = i - 1) ∧ (i = 0 → pred ((back s p y).reverse).length i = p - 1) := by
    rw [List.length_reverse, hl]
    unfold pred
    refine ⟨?_, fun h => ?_, fun h => ?_⟩ <;> split <;> omega
  obtain ⟨b2, q3, q4⟩ := at_ _ hpr.1
  rw [jb_eq q3 q1]
  refine decide_eq_true ?_
  rw [ok.own _ _ q4, ← nxt _ _ q2]
  by_cases c : 1 ≤ i
  · rw [hpr.2.1 c]
    congr 1
    omega
  · have c : i = 0 := by omega
    rw [hpr.2.2 c, c, show p - 1 - (p - 1) = 0 by omega, show p - 1 - 0 + 1 = p by omega, e]
    rfl
end K31

set_option Elab.async false
set_option maxRecDepth 100000
set_option maxHeartbeats 2000000
namespace K31
open PySem PySem.Spec PyProof.Rows L2 He KX Sol StX
abbrev sNLeast : Stmt := inClass (top 8) 1
def leastK (s : Sol.St) (ns : List Str) : List (Key × V) := (ns.filter fun x => decide (x ≠ Zr)).map fun x => (.inr x, .int (s.val x))
def spNLeast (K : PySem.W.Frag) : Sp := fun vs H Q _ => ∃ (a : Addr) (bs : List Sol.B), vs = [.ref a] ∧ BnAt K H a bs ∧ bs.length ≤ 100 ∧ (∀ b ∈ bs, b.1 ≠ b.2.1) ∧
  (∀ s, passes Zr bs ((nsOf bs).length + 1) (start Zr (nsOf bs)) none = (s, none) → ∀ D G, Same H G → H D = none → G D = some (.dK (leastK s (nsOf bs))) → Q (.ref D) G) ∧
  ∀ s v, passes Zr bs ((nsOf bs).length + 1) (start Zr (nsOf bs)) none = (s, some v) → ∀ G, Same H G → Q .non G
section
variable {P : Program} {w : World} {K : PySem.W.Frag} {mg : Str → Option Value} {base : Heap}
theorem scNLeast : FnScope ["self", "values", "ring", "name"] ["self"] (defScope sNLeast) := ⟨rfl, rfl, rfl, by decide +kernel, rfl, by decide +kernel, by decide +kernel⟩
theorem ok_nleast {f fSv : Addr} {fd fdSv : FuncData} {tz : Tok} (F : MtP K "least" "Bounds.least" sNLeast f fd) (S : Bnd K) (GSv : FnOk P w K mg base CX0 2 fSv fdSv ["bounds"] (spSolved K)) (bSv : Binds K fdSv ["bounds"] []) (kSv : PySem.W.keepIn K (.ref fSv) = true) (gSv : mg "_solved" = some (.ref fSv)) (gZ : mg "ZERO" = some (.str "zero" tz)) : FnOk P w K mg base CX0 3 f fd ["self"] (spNLeast K) := by
  refine F.ok scNLeast (fun vs H Q E h => ?_) (fun cdv A outer s H vs Q E hr h => ?_)
  · obtain ⟨a, bs, rfl, _⟩ := h
    rfl
  · obtain ⟨a, bs, rfl, hB, hl, hne, kn, kr⟩ := h
    have nd := scNLeast.nd
    have hu := Nat.lt_of_le_of_lt (Nat.add_le_add_left (by decide : 1 ≤ 64) _) hr.units
    refine ⟨_, PSs.nox (pss_cons (ps_asg (pe_call GSv hr (by rfl) gSv kSv bSv .nil pass0 (pa_cons (pe_fld (pv 0) rfl) pa_nil)) (pg_tup rfl (pgs_cons (pg_name (i := 1) nd rfl (Or.inr rfl)) (pgs_cons (pg_name (i := 2) nd rfl (Or.inl rfl)) pgs_nil))))
(pss_cons (ps_if (pt_cmpR op_notN (pv 2) pe_non (nomark _))
(pss_one (ps_ret pe_non))
pss_nil)
(pss_one (ps_ret (pe_lock (pe_dc (own := [("name", 3)]) (g := (gName 3))  rfl nd (pi_keys (pv 1)) (blkOk_by (own := [("name", 3)]) (N := ["self", "values", "ring", "name"]) (sc := defScope sNLeast) (by decide +kernel)) (fun _ _ _ _ _ => (pg_name (i := 3) nd rfl (Or.inl rfl))) (fun _ _ _ _ _ => (pts_one (pt_cmpR op_ne (pv 3) (pe_glob (v := .str "zero") rfl gZ ⟨tz, rfl⟩) (nomark _)))) (fun _ _ _ _ _ => (pv 3)) (fun _ _ _ _ _ => (pe_dget hu (pv 1) (pv 3) (fun _ _ => rfl))))))))), ?_⟩
    obtain ⟨dx, tz, xs, ha, ht, hP⟩ := hB
    refine ⟨_, rfl, a, _, dx, _, _, rfl, ha, S.cls, S.noat, rfl, tz, xs, bs, rfl, .inr ht, hP, hl, hne, fun s hp T vd G sG nT nvd hT hV => ?_, fun s v hp T vd R ys p y G sG nT nvd nR hT hV hR hPr p1 p2 p3 p4 p5 p6 => ?_⟩
    · have hnd : (nsOf bs).Nodup := fold_nodup _ _ List.nodup_nil
      have hNl : (nsOf bs).length ≤ 201 := by
        have h1 := fold_len (Zr :: endsL bs) []
        rw [List.length_cons, endsL_len] at h1
        have : ([] : List Str).length = 0 := rfl
        show ((Zr :: endsL bs).foldl addN []).length ≤ 201
        omega
      generalize nsOf bs = ns at hnd hNl hV kn hp
      refine ⟨T, _, rfl, SqT.of hT, rfl, _, _, rfl, _, _, rfl, rfl, ?_⟩
      dsimp only [gName, List.set]
      refine ⟨_, rfl, rfl, _, rfl, no rfl ?_⟩
      refine ⟨vd, _, hV, trivial, fun od => ?_⟩
      have sHf : ∀ x o, x ≠ vd → G x = some o → upd G vd (.frz od (.dK (valK s ns))) x = some o := fun x o n e => (upd_ne n).trans e
      have fd0 : upd G vd (.frz od (.dK (valK s ns))) vd = some (.frz od (.dK (valK s ns))) := upd_same
      have hback : ∀ G', Same (upd G vd (.frz od (.dK (valK s ns)))) G' → Same G (upd G' vd (.dK (valK s ns))) := fun G' sG x o e => by
        by_cases hx : x = vd
        · subst hx
          rw [hV] at e
          rw [upd_same]
          exact e
        · rw [upd_ne hx]
          exact sG _ _ (sHf _ _ hx e)
      generalize upd G vd (.frz od (.dK (valK s ns))) = Hf at sHf fd0 hback ⊢
      refine ⟨_, rfl, vd, od, rfl, .inl ⟨valK s ns, fd0, fun D nD => ?_⟩⟩
      have hDv : D ≠ vd := fun e => by rw [e, fd0] at nD; cases nD
      refine dc_it (walk_keys (d := vd) (o := od) (kvs := valK s ns)) (fun i G' => G' D = some (.dK (leastK s (ns.take i))) ∧ Same Hf G') ⟨upd_same, same_put nD⟩ (fun i G' _ h => h.2 _ _ fd0) ?_ ?_
      · rintro i x G' G1 hi ⟨hD, sG1⟩ ⟨rfl, key, val, hkv, rfl⟩
        obtain ⟨z, hz, ekv⟩ := Option.map_eq_some_iff.mp ((List.getElem?_map ..).symm.trans hkv)
        injection ekv with ek ev
        subst ek
        have hzn := List.mem_of_getElem? hz
        have etk : leastK s (ns.take (i + 1)) = leastK s (ns.take i) ++ (if decide (z ≠ Zr) = true then [(.inr z, .int (s.val z))] else []) := by
          unfold leastK
          rw [List.take_succ, hz, List.filter_append, List.map_append]
          congr 1
          show List.map _ (List.filter (fun x => decide (x ≠ Zr)) [z]) = _
          rw [List.filter_cons]
          split <;> rfl
        refine ⟨rfl, ?_⟩
        refine ⟨_, rfl, rfl, _, rfl, ?_⟩
        by_cases c : z = Zr
        · rw [show (!decide (kV (Sum.inr z) = V.str "zero")) = false from by rw [c]; exact congrArg not (decide_eq_true rfl)]
          refine no rfl ?_
          rw [etk, if_neg (by rw [c]; decide), List.append_nil]
          exact ⟨hD, sG1⟩
        · rw [show (!decide (kV (Sum.inr z) = V.str "zero")) = true from congrArg not (decide_eq_false fun e => c (by injection e))]
          refine yes rfl ?_
          have gz : DGet G1 vd (V.str z) (some (.int (s.val z))) := .inl ⟨_, .inr z, .inr ⟨od, sG1 _ _ fd0⟩, rfl, (valK_get hzn).symm⟩
          have hfresh : ((leastK s (ns.take i)).any fun kv => decide (kv.1 = (Sum.inr z : Key))) = false := by
            rw [List.any_eq_false]
            intro kv hkv2 e
            obtain ⟨y, hy, rfl⟩ := List.mem_map.mp hkv2
            have e1 : y = z := by have := of_decide_eq_true e; injection this
            have hyt := (List.mem_filter.mp hy).1
            rw [e1] at hyt
            obtain ⟨j2, hj2, ej2⟩ := List.mem_iff_getElem.mp hyt
            rw [List.getElem_take] at ej2
            rw [List.length_take] at hj2
            have hil := (List.getElem?_eq_some_iff.mp hz).1
            have hne2 := List.pairwise_iff_getElem.mp hnd j2 i (by omega) hil (by omega)
            rw [ej2, (List.getElem?_eq_some_iff.mp hz).2] at hne2
            exact hne2 rfl
          refine ⟨_, rfl, _, rfl, _, rfl, vd, _, rfl, gz, _, .inr z, rfl, hD, ?_, ?_, fun y o e => ?_⟩
          · have h2 := List.length_filter_le (fun x => decide (x ≠ Zr)) (ns.take i)
            rw [List.length_take] at h2
            unfold leastK
            rw [List.length_map, sizeLine_eq]
            omega
          · rw [upd_same, etk, if_pos (decide_eq_true c)]
            unfold putK
            rw [hfresh]
            rfl
          · rw [upd_ne (ne_of_none e nD)]
            exact sG1 _ _ e
      · rintro G' ⟨hD, sG1⟩
        refine ⟨sG1 _ _ fd0, ?_⟩
        rw [show (valK s ns).length = ns.length from List.length_map _, List.take_length] at hD
        have hb := hback G' sG1
        refine kn s hp D _ (sG.trans hb) ?_ ((upd_ne hDv).trans hD)
        cases e : H D with
        | none => rfl
        | some o =>
          have h1 := sHf _ _ hDv (sG _ _ e)
          rw [h1] at nD
          cases nD
    · refine ⟨T, _, rfl, SqT.of hT, rfl, _, _, rfl, _, _, rfl, rfl, ?_⟩
      dsimp only [gName, List.set]
      refine ⟨_, rfl, rfl, _, rfl, yes rfl ?_⟩
      exact kr s v hp G sG
end
end K31

set_option Elab.async false
set_option maxRecDepth 100000
set_option maxHeartbeats 2000000
/-! Small odd things: scalars, and lists and tuples of a few of them. -/
namespace KX
open PySem PySem.Spec PyProof.Rows L2
def ScD (m : Nat) : PyData → Prop
  | .none => True
  | .bool _ => True
  | .int i => i.natAbs ≤ m
  | .str z => z.length ≤ 100 ∧ ∀ c ∈ tlc z, c < 1000
  | _ => False
def ElX (m : Nat) (d : PyData) : Prop := ScD m d ∨ ∃ ds, ((d = .list ds ∧ ∃ z r, ds = .str z :: r) ∨ d = .tuple ds) ∧ ds.length ≤ 6 ∧ ∀ e ∈ ds, ScD m e
theorem ScD.mono {m m' : Nat} {d : PyData} (h : m ≤ m') (q : ScD m d) : ScD m' d := by
  cases d <;> first | exact q | exact Nat.le_trans q h
theorem ElX.mono {m m' : Nat} {d : PyData} (h : m ≤ m') (q : ElX m d) : ElX m' d := by
  rcases q with q | ⟨ds, e, hl, q⟩
  · exact .inl (q.mono h)
  · exact .inr ⟨ds, e, hl, fun x hx => (q x hx).mono h⟩
theorem nm_sc {m : Nat} {z : Str} (h : isNm z = true) : ScD m (.str z) := by
  obtain ⟨h1, h2, h3⟩ := nm_inv h
  refine ⟨by omega, fun c hc => ?_⟩
  have q := h3 c hc
  unfold isLet at q
  have := of_decide_eq_true (Bool.and_eq_true_iff.mp q).2
  exact Nat.lt_of_le_of_lt this (by decide)
theorem BdX.el {m : Nat} {d : PyData} (h : BdX m d) : ElX m d := by
  obtain ⟨u, v, c, rfl, hu, hv, hc⟩ := h
  refine .inr ⟨_, .inr rfl, by show 3 ≤ 6; decide, fun e he => ?_⟩
  rcases List.mem_cons.mp he with rfl | he
  · exact nm_sc hu
  rcases List.mem_cons.mp he with rfl | he
  · exact nm_sc hv
  rw [List.mem_singleton.mp he]
  exact hc
theorem sc_okN {m : Nat} {d : PyData} (h : ScD m d) : okN d := by
  rintro z rfl
  have := h.1
  omega
theorem str_ok {z : Str} (h : z.length ≤ 100 ∧ ∀ c ∈ tlc z, c < 1000) : PyData.canLay0 (.str z) = true := by
  show z.cps.all (· < 0x110000) = true
  rw [← Array.all_toList]
  exact List.all_eq_true.mpr fun c hc => decide_eq_true (Nat.lt_trans (h.2 c hc) (by decide))
theorem sc_lay {m : Nat} {d : PyData} (h : ScD m d) : d.canLay0 = true ∧ d.depth ≤ 0 := by
  cases d with
  | none => exact ⟨rfl, Nat.le_refl _⟩
  | bool => exact ⟨rfl, Nat.le_refl _⟩
  | int => exact ⟨rfl, Nat.le_refl _⟩
  | str z => exact ⟨str_ok h, Nat.le_refl _⟩
  | list => exact False.elim h
  | tuple => exact False.elim h
  | dict => exact False.elim h
theorem ElX.okE {m : Nat} {d : PyData} (h : ElX m d) : okE d := by
  rcases h with h | ⟨ds, e, hl, q⟩
  · refine ⟨fun ds e => ?_, (sc_lay h).1, Nat.le_trans (sc_lay h).2 (by decide)⟩
    subst e
    exact False.elim h
  · obtain ⟨l1, l2⟩ := lay_all (k := 0) fun x hx => sc_lay (q x hx)
    rcases e with ⟨rfl, _⟩ | rfl
    · exact ⟨fun es e => (nomatch e), l1, by show PyData.depthAll ds + 1 ≤ 60; omega⟩
    · refine ⟨fun es e => ?_, l1, by show PyData.depthAll ds + 1 ≤ 60; omega⟩
      cases e
      exact ⟨by omega, fun x hx => sc_okN (q x hx)⟩
theorem sc_small {m : Nat} {d : PyData} (hm : m < 10 ^ 40) (h : ScD m d) : Small d 0 1002 := by
  cases d with
  | none => exact ⟨rfl, rfl, Nat.le_refl _, by show ("None" : Str).length ≤ 1002; decide⟩
  | bool b => exact ⟨rfl, rfl, Nat.le_refl _, by cases b <;> (show (_ : Str).length ≤ 1002; decide)⟩
  | int i =>
    have hi : i.natAbs < 10 ^ 40 := Nat.lt_of_le_of_lt h hm
    refine ⟨decide_eq_true ?_, rfl, Nat.le_refl _, ?_⟩
    · have h2 : i.natAbs < 2 ^ 140 := Nat.lt_trans hi (by decide)
      exact Nat.lt_trans (PySem.Flt.log2_lt_of (by decide) h2) (by decide)
    · have q := int_text_length_le10 (k := 40) (by decide) hi
      show (Str.ofString (toString i)).length ≤ 1002
      rw [PySem.ofString_length]
      omega
  | str z =>
    refine ⟨rfl, rfl, Nat.le_refl _, ?_⟩
    have q := PySem.StrLaws.reprText_len z fun c hc => Nat.lt_trans (h.2 c hc) (by decide)
    have := h.1
    show (reprText z).length ≤ 1002
    omega
  | list => exact False.elim h
  | tuple => exact False.elim h
  | dict => exact False.elim h
theorem piled_le {m : Nat} : ∀ {ts : List Str}, (∀ t ∈ ts, t.length ≤ m) → piled ts ≤ ts.length * (m + 2)
  | [], _ => Nat.zero_le _
  | t :: r, h => by
    have h1 := h t List.mem_cons_self
    have h2 := piled_le (ts := r) fun u hu => h u (List.mem_cons_of_mem _ hu)
    rw [List.length_cons, Nat.succ_mul]
    simp only [piled, List.map_cons, List.sum_cons] at h2 ⊢
    omega
theorem tupleText_le {m : Nat} {ts : List Str} (h : ∀ t ∈ ts, t.length ≤ m) : (tupleText ts).length ≤ ts.length * (m + 2) + 4 := by
  unfold tupleText
  have e1 : (("(" : String) : Str).length = 1 := by decide
  have e2 : ((if ts.length == 1 then ",)" else ")" : String) : Str).length ≤ 2 := by split <;> decide
  rw [Str.length_append, Str.length_append]
  cases ts with
  | nil =>
    have : (Str.join ", " ([] : List Str)).length = 0 := rfl
    omega
  | cons x r =>
    have q := join_length_add (x :: r) (by simp)
    have p := piled_le h
    omega
theorem small_tuple {k n m : Nat} {ds : List PyData} (h : ∀ d ∈ ds, Small d k n) (hm : ds.length * (n + 2) + 4 ≤ m) : Small (.tuple ds) (k + 1) m := by
  obtain ⟨h1, h2, h3⟩ := small_all h
  refine ⟨h1, h2, Nat.succ_le_succ h3, Nat.le_trans (tupleText_le (m := n) fun t ht => ?_) (by rw [shownAll_len]; exact hm)⟩
  obtain ⟨d, hd, rfl⟩ := shownAll_mem ht
  exact (h d hd).ln
theorem Small.mono {d : PyData} {k k' n n' : Nat} (h : Small d k n) (hk : k ≤ k') (hn : n ≤ n') : Small d k' n' := ⟨h.sh, h.nd, Nat.le_trans h.dp hk, Nat.le_trans h.ln hn⟩
theorem ElX.small {m : Nat} {d : PyData} (hm : m < 10 ^ 40) (h : ElX m d) : Small d 1 6100 := by
  rcases h with h | ⟨ds, e, hl, q⟩
  · exact (sc_small hm h).mono (by decide) (by decide)
  · have hs : ∀ e ∈ ds, Small e 0 1002 := fun e he => sc_small hm (q e he)
    have hb : ds.length * (1002 + 2) ≤ 6 * 1004 := Nat.mul_le_mul_right _ hl
    rcases e with ⟨rfl, _⟩ | rfl
    · exact small_list hs (by omega)
    · exact small_tuple hs (by omega)
/-- what _law_changed makes -/
def spChg (K : PySem.W.Frag) : Sp := fun vs H Q _ => ∃ (b R L : Addr) (n : Int) (rs : List V) (ds : List PyData) (zs : List Str) (m : Nat), vs = [.ref b, .ref R, .ref L] ∧ Bag H b n ∧ n < 700000 ∧ R ≠ b ∧ L ≠ b ∧ H R = some (.lst rs) ∧ DpAll K H rs ds ∧ 1 ≤ ds.length ∧ ds.length ≤ 100 ∧ (∀ d ∈ ds, BdX m d) ∧
  H L = some (.lst (zs.map V.str)) ∧ 1 ≤ zs.length ∧ zs.length ≤ 100 ∧ (∀ z ∈ zs, isNm z = true) ∧
  ∀ F fs es G, H F = none → F ≠ b → Kept b H G → Bag G b (n + 3) → G F = some (.lst fs) → DpAll K G fs es → es.length ≤ 2 * ds.length → (∀ e ∈ es, ElX (m + 10 ^ 29) e) → Q (.ref F) G
theorem sc_any {K : PySem.W.Frag} {G G' : Hp} {m : Nat} {v : V} {d : PyData} (h : ScD m d) (q : Dp K G v d) : Dp K G' v d := by
  cases q with
  | non => exact .non
  | bl b => exact .bl b
  | int i => exact .int i
  | str x => exact .str x
  | lst => exact False.elim h
  | tup => exact False.elim h
theorem sc_anys {K : PySem.W.Frag} {G G' : Hp} {m : Nat} : ∀ {vs : List V} {ds : List PyData}, (∀ e ∈ ds, ScD m e) → DpAll K G vs ds → DpAll K G' vs ds
  | _, _, _, .nil => .nil
  | _, _, h, .cons a r => .cons (sc_any (h _ List.mem_cons_self) a) (sc_anys (fun e he => h e (List.mem_cons_of_mem _ he)) r)
/-- such a thing stands while all but the bag stands -/
theorem el_kept {K : PySem.W.Frag} {G G' : Hp} {b : Addr} {n : Int} {m : Nat} {v : V} {d : PyData} (hB : Bag G b n) (k : Kept b G G') (h : ElX m d) (q : Dp K G v d) : Dp K G' v d := by
  obtain ⟨bd, bm, bc, eb, _⟩ := hB
  rcases h with h | ⟨ds, e, hl, hs⟩
  · exact sc_any h q
  · rcases e with ⟨rfl, z, r, rfl⟩ | rfl
    · cases q with
      | lst hS hA =>
        refine .lst ?_ (sc_anys hs hA)
        cases hA with
        | cons h1 _ =>
          cases h1
          have hne : ∀ {a : Addr} {u : HO}, G a = some u → (∀ xs, u = .lst (.int bd :: xs) → False) → a ≠ b := by
            rintro a u h1 h2 rfl
            rw [eb] at h1
            exact h2 _ (Option.some.inj h1).symm
          rcases hS with (h | ⟨o2, h⟩) | h
          · exact .inl (.inl (k _ _ (hne h (fun _ z => nomatch z)) h))
          · exact .inl (.inr ⟨o2, k _ _ (hne h (fun _ z => nomatch z)) h⟩)
          · exact .inr h
    · cases q with
      | tup hS hA =>
        refine .tup ?_ (sc_anys hs hA)
        have hne : ∀ {a : Addr} {u : HO}, G a = some u → (∀ xs, u ≠ .lst xs) → a ≠ b := by
          rintro a u h1 h2 rfl
          rw [eb] at h1
          exact h2 _ (Option.some.inj h1).symm
        rcases hS with (h | ⟨o2, h⟩) | h
        · exact .inl (.inl (k _ _ (hne h (fun _ z => nomatch z)) h))
        · exact .inl (.inr ⟨o2, k _ _ (hne h (fun _ z => nomatch z)) h⟩)
        · exact .inr h
theorem els_kept {K : PySem.W.Frag} {G G' : Hp} {b : Addr} {n : Int} {m : Nat} (hB : Bag G b n) (k : Kept b G G') : ∀ {vs : List V} {ds : List PyData}, (∀ e ∈ ds, ElX m e) → DpAll K G vs ds → DpAll K G' vs ds
  | _, _, _, .nil => .nil
  | _, _, h, .cons a r => .cons (el_kept hB k (h _ List.mem_cons_self) a) (els_kept hB k (fun e he => h e (List.mem_cons_of_mem _ he)) r)
theorem el_bd {m : Nat} {d : PyData} (h : ElX m d) (q : bdD d = true) : BdX m d := by
  unfold bdD at q
  cases e : bd3 d with
  | none => rw [e] at q; cases q
  | some t =>
    obtain ⟨rfl, h1, h2, _⟩ := bd3_inv e
    refine ⟨t.1, t.2.1, t.2.2, rfl, h1, h2, ?_⟩
    rcases h with h | ⟨ds, e2, _, hs⟩
    · exact False.elim h
    · rcases e2 with ⟨e2, _⟩ | e2
      · cases e2
      · cases e2
        exact hs (.int t.2.2) (by simp)
end KX

set_option Elab.async false
set_option maxRecDepth 100000
set_option maxHeartbeats 2000000
/-! Facts that stand while nothing tracked changes (mv), or nothing but the bag (mb). -/
namespace KX
open PySem PySem.Spec PySem.Calls PyProof.Rows L2
theorem new_same {H G : Hp} {p : Addr} {o : HO} (e : upd H p o = G) (np : H p = none) : Same H G := e ▸ same_put np
theorem new_at {H G : Hp} {p : Addr} {o : HO} (e : upd H p o = G) : G p = some o := e ▸ upd_same
/-- a list at a, which is not the bag -/
structure LsA (b : Addr) (H : Hp) (a : Addr) (xs : List V) : Prop where
  ne : a ≠ b
  at_ : H a = some (.lst xs)
/-- what stood at first stands, and the bag is new -/
structure SmN (b : Addr) (H0 H : Hp) : Prop where
  no : H0 b = none
  sm : Same H0 H
theorem bag_nt {H : Hp} {b : Addr} {n : Int} (hB : Bag H b n) {a : Addr} {u : HO} (h : H a = some u) (q : ∀ xs, u ≠ .lst xs) : a ≠ b := by
  obtain ⟨d, m, c, e, _⟩ := hB
  rintro rfl
  rw [e] at h
  exact q _ (Option.some.inj h).symm
section
variable {K : PySem.W.Frag} {b a : Addr} {H G : Hp} {n : Int}
theorem _root_.Eq.mv {o : HO} (h : H a = some o) (s : Same H G) : G a = some o := s _ _ h
theorem _root_.L2.SqL.mv {xs : List V} (h : SqL K H a xs) (s : Same H G) : SqL K G a xs := s.seq h
theorem _root_.L2.SqT.mv {xs : List V} (h : SqT K H a xs) (s : Same H G) : SqT K G a xs := sqT_same s h
theorem _root_.L2.Dp.mv {x : V} {d : PyData} (h : Dp K H x d) (s : Same H G) : Dp K G x d := dp_same s _ _ h
theorem _root_.L2.DpAll.mv {xs : List V} {ds : List PyData} (h : DpAll K H xs ds) (s : Same H G) : DpAll K G xs ds := dps_same s _ _ h
theorem _root_.L2.Same.mv {H0 : Hp} (h : Same H0 H) (s : Same H G) : Same H0 G := h.trans s
theorem Bag.mv (h : Bag H b n) (s : Same H G) : Bag G b n := by obtain ⟨d, m, c, e, r⟩ := h; exact ⟨d, m, c, s _ _ e, r⟩
theorem LsA.mv {xs : List V} (h : LsA b H a xs) (s : Same H G) : LsA b G a xs := ⟨h.1, s _ _ h.2⟩
theorem SmN.mv {H0 : Hp} (h : SmN b H0 H) (s : Same H G) : SmN b H0 G := ⟨h.1, h.2.trans s⟩
theorem _root_.Eq.mb {o : HO} (h : H a = some o) (hB : Bag H b n) (k : Kept b H G) (q : ∀ xs, o ≠ .lst xs := by exact nofun) : G a = some o := k _ _ (bag_nt hB h q) h
theorem _root_.L2.SqT.mb {xs : List V} (h : SqT K H a xs) (hB : Bag H b n) (k : Kept b H G) : SqT K G a xs := by
  rcases h with (h | ⟨o2, h⟩) | h
  · exact .inl (.inl (k _ _ (bag_nt hB h nofun) h))
  · exact .inl (.inr ⟨o2, k _ _ (bag_nt hB h nofun) h⟩)
  · exact .inr h
theorem LsA.mb {xs : List V} (h : LsA b H a xs) (_ : Bag H b n) (k : Kept b H G) : LsA b G a xs := ⟨h.1, k _ _ h.1 h.2⟩
theorem SmN.mb {H0 : Hp} (h : SmN b H0 H) (_ : Bag H b n) (k : Kept b H G) : SmN b H0 G := ⟨h.1, fun x o e => k x o (ne_of_none e h.1) (h.2 _ _ e)⟩
end
theorem SmN.off {b D : Addr} {H0 H : Hp} {o : HO} (h : SmN b H0 H) (n : H0 D = none) : SmN b H0 (upd H D o) := ⟨h.1, fun y u e => (upd_ne (ne_of_none e n)).trans (h.2 _ _ e)⟩
theorem LsA.off {b a D : Addr} {H : Hp} {xs : List V} {o : HO} (h : LsA b H a xs) (n : a ≠ D) : LsA b (upd H D o) a xs := ⟨h.1, (upd_ne n).trans h.2⟩
theorem intsDp {K : PySem.W.Frag} {H : Hp} : ∀ zs : List Int, DpAll K H (zs.map V.int) (zs.map PyData.int)
  | [] => .nil
  | z :: r => .cons (.int z) (intsDp r)
theorem listSh {ds : List PyData} {k : Nat} (hk : k < 60) (h : ∀ d ∈ ds, d.canLay0 = true ∧ d.depth ≤ k) : SeqAt.shaped (.list ds) = true := by
  obtain ⟨l1, l2⟩ := lay_all (k := k) h
  exact Bool.and_eq_true_iff.mpr ⟨l1, decide_eq_true (by show PyData.depthAll ds + 1 ≤ _; omega)⟩
theorem tupSh {ds : List PyData} {k : Nat} (hk : k < 60) (h : ∀ d ∈ ds, d.canLay0 = true ∧ d.depth ≤ k) : SeqAt.shaped (.tuple ds) = true := by
  obtain ⟨l1, l2⟩ := lay_all (k := k) h
  exact Bool.and_eq_true_iff.mpr ⟨l1, decide_eq_true (by show PyData.depthAll ds + 1 ≤ _; omega)⟩
theorem intsSh (zs : List Int) : SeqAt.shaped (.list (zs.map PyData.int)) = true := listSh (k := 0) (by decide) fun d hd => by
  obtain ⟨z, _, rfl⟩ := List.mem_map.mp hd
  exact ⟨rfl, Nat.zero_le _⟩
theorem fresh_k {b p : Addr} {H G : Hp} (k : Kept b H G) (ne : p ≠ b) (n : G p = none) : H p = none := by
  cases e : H p with
  | none => rfl
  | some o => rw [k p o ne e] at n; cases n
theorem kept_upd {b p : Addr} {H G : Hp} {o : HO} (k : Kept b H G) (n : H p = none) : Kept b H (upd G p o) := fun x u ne e => (upd_ne (ne_of_none e n)).trans (k x u ne e)
theorem _root_.KX.Kept.mv {b : Addr} {H G G' : Hp} (k : Kept b H G) (s : Same G G') : Kept b H G' := fun x o ne e => s _ _ (k x o ne e)
theorem mergeK_new {kvs : List (Key × V)} (h : (kvs.map (·.1)).Nodup) : mergeK [] kvs = kvs := by
  have : ∀ (kvs acc : List (Key × V)), ((acc ++ kvs).map (·.1)).Nodup → mergeK acc kvs = acc ++ kvs := by
    intro kvs
    induction kvs with
    | nil => intro acc _; simp [mergeK]
    | cons kv r ih =>
      intro acc hn
      unfold mergeK
      rw [List.foldl_cons]
      have hnot : (acc.any fun x => decide (x.1 = kv.1)) = false := by
        rw [List.any_eq_false]
        intro x hx
        rw [List.map_append, List.nodup_append] at hn
        have := hn.2.2 x.1 (List.mem_map_of_mem hx) kv.1 (by simp)
        simpa using this
      have e : putK acc kv.1 kv.2 = acc ++ [kv] := by
        unfold putK
        rw [hnot]
        rfl
      rw [e]
      have := ih (acc ++ [kv]) (by rw [List.append_assoc]; exact hn)
      unfold mergeK at this
      rw [this, List.append_assoc]
      rfl
  have := this kvs [] (by simpa using h)
  simpa using this
/-- a new object, and all as it was -/
theorem LsA.new {b p : Addr} {H : Hp} {n : Int} {xs : List V} {G : Hp} (hB : Bag H b n) (np : H p = none) (h : G p = some (.lst xs)) : LsA b G p xs := ⟨hB.ne np, h⟩
section
variable {X : Cx} {CX : CXT} {k : Nat} {f C : Addr} {sp : Sp} {E : L2.St → XK} {x : Str} {e : Expr} {es : List Expr} {t : TA} {p pos : Pos}
/-- C(..) in a try: what is raised may be told by the slots -/
def tMakeRS (C : Addr) (sp : Sp) (E : L2.St → XK) (t : TA) : TE := fun σ H Q => t σ H fun vs H1 => ∀ x dx, H1 x = Option.none → H1 dx = Option.none → dx ≠ x →
  sp (V.ref x :: vs) (upd (upd H1 dx (.own x)) x (.ins C dx [])) (fun v H2 => v = .non ∧ Q (.ref x) H2) (E σ)
theorem run_makeRS {pins : List (Addr × Obj)} {σ : L2.St} {H : Hp} {s : Shared} {Q : VK} {us : List Value} {vs : List V} {E : XK} (M : Mk X.K C f) (F : FnR X.prog X.w X.K X.mg X.base CX k f sp) (hr : Room (k + 1) X.A) (hx : PassesAt CX X σ E) (I : Inv X pins σ H s) (r : Vals vs us)
    (h : ∀ x dx, H x = Option.none → H dx = Option.none → dx ≠ x → sp (V.ref x :: vs) (upd (upd H dx (.own x)) x (.ins C dx [])) (fun v H2 => v = .non ∧ Q (.ref x) H2) E) :
    wpAny (model X.prog X.w) X.A (call (.ref C) us) (EP X pins σ Q) X.xe s := by
  have hq := h (s.heap.objs.size + 1) s.heap.objs.size (I.hok.fresh (Nat.le_succ _)) (I.hok.fresh (Nat.le_refl _)) (Nat.ne_of_lt (Nat.lt_succ_self _))
  have I2 := Inv.made (C := C) I
  have r2 : Vals (V.ref (s.heap.objs.size + 1) :: vs) (Value.ref (s.heap.objs.size + 1) :: us) := .cons rfl r
  refine wpAny_call (make_map (f := f) I.kIn M.makes M.init (beq_iff_eq.mp M.fn) (codeAny_mono (F _ X.stack _ _ (Value.ref (s.heap.objs.size + 1) :: us) _ _ E (hr.make C us []) (I2.env0.make C us []) r2 hq) fun r s' hq' => ?_))
  cases r with
  | error e => exact hx pins _ _ e s' I2 hq'
  | ok fl =>
    cases fl with
    | ret u =>
      obtain ⟨v, H', I3, rv, ev, q3⟩ := I2.after hq'
      subst ev
      exact ⟨rv, ⟨V.ref (s.heap.objs.size + 1), H', I3, rfl, q3⟩⟩
    | next => exact False.elim hq'
    | brk => exact False.elim hq'
    | cont => exact False.elim hq'
theorem pe_makeRS (M : Mk X.K C f) (F : FnR X.prog X.w X.K X.mg X.base CX k f sp) (hr : Room (k + 1) X.A) (hg : Gl X x) (hm : X.mg x = some (.ref C)) (hx : ∀ σ, PassesAt CX X σ (E σ)) (ha : PA X (e :: es) t) (hdb : (x == ("__debug__" : Str)) = false := by decide)
    (he : starEach (e :: es) X.env = (false, eval e X.env) :: starEach es X.env := by rfl) (hpl : (backTo pos (starEach es X.env)).any (·.1) = false := by rfl) : PE X (.Call (.Name x p) (e :: es) [] pos) (tMakeRS C sp E t) := by
  refine ⟨fun pins s σ H Q I h => ?_⟩
  refine wpAny_Call_Name_kw (ld_glob I hg hm ?_ hdb)
  refine PySem.W.callWith_K (h₀ := X.base) I.ok.mod.kin M.kp (thn (ha.run pos pins s σ H _ I h) fun us s1 ⟨vs, H1, I1, r, q⟩ => ⟨I1.kIn, ?_⟩) he hpl
  exact run_makeRS M F hr (hx σ) I1 r q
theorem pe_makeR0S (M : Mk X.K C f) (F : FnR X.prog X.w X.K X.mg X.base CX k f sp) (hr : Room (k + 1) X.A) (hg : Gl X x) (hm : X.mg x = some (.ref C)) (hx : ∀ σ, PassesAt CX X σ (E σ))
    (hdb : (x == ("__debug__" : Str)) = false := by decide) : PE X (.Call (.Name x p) [] [] pos) (tMakeRS C sp E tNil) := by
  refine ⟨fun pins s σ H Q I h => ?_⟩
  refine wpAny_Call_Name_kw (ld_glob I hg hm ?_ hdb)
  exact PySem.W.callWith_K0 I.kIn M.kp (run_makeRS (us := []) M F hr (hx σ) I .nil h)
end
end KX

set_option Elab.async false
set_option maxRecDepth 100000
set_option maxHeartbeats 1000000
/-! Where a ring must be told; what a told ring is. No Lean of the program. -/
namespace Sol
open PySem
variable {Z : Str}
/-- a bound and its opposite have no solution -/
theorem told_opp {bs : List B} {n : Nat} {s : St} {r : Option Str} {b : B} (h1 : b ∈ bs) (h2 : (b.2.1, b.1, -b.2.2 - 1) ∈ bs) : (passes Z bs (n + 1) s r).2.isSome = true := by
  cases e : (passes Z bs (n + 1) s r).2 with
  | some v => rfl
  | none =>
    have q := passes_none (Z := Z) (bs := bs) (n := n) (s := s) (s' := (passes Z bs (n + 1) s r).1) (r := r) (by rw [← e])
    have q1 := q _ h1
    have q2 := q _ h2
    unfold sat at q1 q2
    dsimp only at q1 q2
    omega
theorem pass_zero : ∀ (cs : List B) (s s' : St) (r r' : Option Str), pass Z cs s r = (false, s', r') → s'.val Z = s.val Z
  | [], s, s', r, r', h => by unfold pass at h; cases h; rfl
  | b :: cs, s, s', r, r', h => by
    unfold pass at h
    split at h
    · split at h
      · cases h
      · rename_i hz
        rw [pass_zero cs _ s' _ r' h]
        unfold St.raise
        dsimp only
        rw [if_neg (fun e => hz e.symm)]
    · exact pass_zero cs s s' r r' h
/-- where no ring is told the zero name has kept its value -/
theorem passes_zero {bs : List B} : ∀ {n : Nat} {s s' : St} {r : Option Str}, passes Z bs (n + 1) s r = (s', none) → s'.val Z = s.val Z := by
  intro n
  induction n with
  | zero =>
    intro s s' r h
    unfold passes at h
    split at h
    · rename_i s1 r1 e
      cases h
      exact absurd (pass_none e).1 (by decide)
    · rename_i s1 e
      cases h
      exact pass_zero _ _ _ _ _ e
    · cases h
  | succ n ih =>
    intro s s' r h
    unfold passes at h
    split at h
    · rename_i s1 r1 e
      cases h
      exact absurd (pass_none e).1 (by decide)
    · rename_i s1 e
      cases h
      exact pass_zero _ _ _ _ _ e
    · rename_i s1 v e
      rw [ih h]
      exact pass_zero _ _ _ _ _ e
theorem raise_pos {s : St} {b : B} (h : ∀ x, 0 ≤ s.val x) (hl : lifts s b) : ∀ x, 0 ≤ (s.raise b).val x := fun x => by
  unfold St.raise
  dsimp only
  split
  · have := h b.2.1
    unfold lifts at hl
    omega
  · exact h x
/-- a name that must stand below the zero name -/
theorem told_below {bs : List B} {n : Nat} {ns : List Str} {r : Option Str} {x : Str} {c : Int} (hc : c < 0) (h1 : (x, Z, c) ∈ bs) : (passes Z bs (n + 1) (start Z ns) r).2.isSome = true := by
  cases e : (passes Z bs (n + 1) (start Z ns) r).2 with
  | some v => rfl
  | none =>
    have e2 : passes Z bs (n + 1) (start Z ns) r = ((passes Z bs (n + 1) (start Z ns) r).1, none) := by rw [← e]
    have q := passes_none e2 _ h1
    have z := passes_zero e2
    have p := passes_inv (I := fun s => ∀ x, 0 ≤ s.val x) (Z := Z) (bs := bs) (n := n + 1) (s := start Z ns) (r := r) (fun s b _ h hl => raise_pos h hl) (fun _ => Int.le_refl _) x
    have z0 : (start Z ns).val Z = 0 := rfl
    unfold sat at q
    dsimp only at q
    omega
end Sol

set_option Elab.async false
set_option maxRecDepth 100000
set_option maxHeartbeats 2000000
/-! What least() and ring() tell; Bounds() made. -/
namespace K31
open PySem PySem.Spec PyProof.Rows L2 He KX Sol
theorem all_bn : ∀ {ds : List PyData}, (∀ d ∈ ds, bdD d = true) → ∃ bs : List Sol.B, ds = bs.map bnD
  | [], _ => ⟨[], rfl⟩
  | d :: r, h => by
    obtain ⟨bs, rfl⟩ := all_bn (ds := r) fun x hx => h x (List.mem_cons_of_mem _ hx)
    have q := h d List.mem_cons_self
    unfold bdD at q
    cases e : bd3 d with
    | none => rw [e] at q; cases q
    | some t => exact ⟨t :: bs, by rw [List.map_cons]; congr 1; exact (bd3_inv e).1⟩
theorem bis_all {K : PySem.W.Frag} {G : Hp} : ∀ {xs : List V} {bs : List Sol.B}, Paired (fun x d => Dp K G x d ∧ okBd d) xs (bs.map bnD) → Paired (BIs K G) xs bs
  | _, [], h => by cases h; exact .nil
  | _, b :: r, h => by
    cases h with
    | cons h1 h2 =>
      refine .cons ?_ (bis_all h2)
      obtain ⟨a, rfl, hS⟩ := dp_tup3 h1.1
      exact ⟨a, rfl, hS⟩
/-- Bounds(..) of things -/
theorem made_any {K : PySem.W.Frag} {H : Hp} {xs : List V} {ds : List PyData} {Q : V → Hp → Prop} {E : XK} {x dx : Addr} (hx : H x = none) (hdx : H dx = none) (hne : dx ≠ x) (hP : Paired (fun x d => Dp K H x d ∧ okBd d) xs ds) (hl : ds.length ≤ 100)
    (hbad : ∀ i d, ds[i]? = some d → bdD d = false → (∀ d' ∈ ds.take i, bdD d' = true) → Raised (ga K "BadBound") H [("index", .int (i : Nat))] E)
    (h : (∀ d ∈ ds, bdD d = true) → ∀ bs, ds = bs.map bnD → ∀ G, Same H G → BnAt K G x bs → Q (.ref x) G) : spNR K (V.ref x :: xs) (upd (upd H dx (.own x)) x (.ins (ga K "Bounds") dx [])) (fun v H2 => v = .non ∧ Q (.ref x) H2) E := by
  have hxl := Paired.length hP
  refine ⟨[.ref x], xs, rfl, rfl, (by rw [sizeLine_eq]; omega), fun p hp => ?_⟩
  have npx : p ≠ x := by
    rintro rfl
    rw [upd_same] at hp
    cases hp
  have s1 : Same H (upd (upd H dx (.own x)) x (.ins (ga K "Bounds") dx [])) := fun b o e => by rw [upd_ne (ne_of_none e hx), upd_ne (ne_of_none e hdx)]; exact e
  have s2 := s1.trans (same_put (o := .tup xs) hp)
  have hP2 : Paired (fun x d => Dp K _ x d ∧ okBd d) xs ds := pr_imp (fun _ _ z => ⟨dp_same s2 _ _ z.1, z.2⟩) hP
  refine ⟨x, dx, p, xs, ds, rfl, (upd_ne npx.symm).trans upd_same, upd_same, by omega, hP2, fun i d hd hb ht => ?_, fun hall H' kk hG => ⟨rfl, ?_⟩⟩
  · exact fun d H' s hd2 => hbad i _ hd hb ht d H' (s2.trans s) hd2
  · obtain ⟨bs, rfl⟩ := all_bn hall
    have sG : Same H H' := fun b o e => kk b o (ne_of_none e hx) (s2 _ _ e)
    refine h hall bs rfl H' sG ⟨dx, p, xs, hG, SqT.of (kk _ _ npx upd_same), bis_all (pr_imp (fun _ _ z => ⟨dp_same sG _ _ z.1, z.2⟩) hP)⟩
/-- what least() tells -/
def LstIs (G : Hp) (bs : List Sol.B) (v : V) : Prop := (ringQ bs = false ∧ ∃ D, v = .ref D ∧ G D = some (.dK (leastK (passes Zr bs ((nsOf bs).length + 1) (start Zr (nsOf bs)) none).1 (nsOf bs)))) ∨ (ringQ bs = true ∧ v = .non)
/-- what ring() tells -/
def RngIs (K : PySem.W.Frag) (G : Hp) (bs : List Sol.B) (v : V) : Prop := (ringQ bs = false ∧ v = .non) ∨ (ringQ bs = true ∧ ∃ R ds, v = .ref R ∧ Dp K G v (.list ds) ∧ rgL ds = true ∧ okRing (.list ds))
theorem LstIs.mv {G G' : Hp} {bs : List Sol.B} {v : V} (h : LstIs G bs v) (s : Same G G') : LstIs G' bs v := by
  rcases h with ⟨h, D, e, hD⟩ | h
  · exact .inl ⟨h, D, e, s _ _ hD⟩
  · exact .inr h
theorem BnAt.mv {K : PySem.W.Frag} {H G : Hp} {a : Addr} {bs : List Sol.B} (h : BnAt K H a bs) (s : Same H G) : BnAt K G a bs := h.same s
theorem bats_dp {K : PySem.W.Frag} {G : Hp} : ∀ {ys : List V} {bs : List Sol.B}, Paired (BAt G) ys bs → DpAll K G ys (bs.map bnD)
  | _, _, .nil => .nil
  | _, _, .cons h r => by
    obtain ⟨t, rfl, ht⟩ := h
    exact .cons (.tup (SqT.of ht) (.cons (.str _) (.cons (.str _) (.cons (.int _) .nil)))) (bats_dp r)
theorem bn_ne {b : Sol.B} (h : bdD (bnD b) = true) : b.1 ≠ b.2.1 := by
  have q := bdOf_bn h
  unfold bdOf at q
  unfold bdD at h
  cases e : bd3 (bnD b) with
  | none => rw [e] at h; cases h
  | some t =>
    rw [e] at q
    obtain rfl : t = b := q
    exact (bd3_inv e).2.2.2
theorem okBd_bn {b : Sol.B} (h : bdD (bnD b) = true) : okBd (bnD b) := by
  intro es e
  unfold bnD at e h
  cases e
  rw [bd_parts] at h
  obtain ⟨h1, h2⟩ := Bool.and_eq_true_iff.mp h
  refine ⟨by show 3 ≤ 1000; decide, fun e he => ?_⟩
  rcases List.mem_cons.mp he with rfl | he
  · exact sc_okN (nm_sc (m := 0) h1)
  rcases List.mem_cons.mp he with rfl | he
  · exact sc_okN (nm_sc (m := 0) (Bool.and_eq_true_iff.mp h2).1)
  rw [List.mem_singleton.mp he]
  exact fun z e => nomatch e
theorem least_by {K : PySem.W.Frag} {σ : L2.St} {H : Hp} {a : Addr} {bs : List Sol.B} {Q : VK} {E : XK} (hB : BnAt K H a bs) (hl : bs.length ≤ 100) (hb : ∀ b ∈ bs, bdD (bnD b) = true) (k : ∀ v G, Same H G → LstIs G bs v → Q v G) : tNil σ H fun vs H2 => spNLeast K (V.ref a :: (vs ++ [])) H2 Q E := by
  show spNLeast K [.ref a] H Q E
  refine ⟨a, bs, rfl, hB, hl, fun b hb2 => bn_ne (hb b hb2), fun s hp D G sG nD hD => k _ G sG (.inl ⟨?_, D, rfl, ?_⟩), fun s v hp G sG => k _ G sG (.inr ⟨?_, rfl⟩)⟩
  · unfold ringQ; rw [hp]; rfl
  · rw [hp]; exact hD
  · unfold ringQ; rw [hp]; rfl
theorem ring_by {K : PySem.W.Frag} {σ : L2.St} {H : Hp} {a : Addr} {bs : List Sol.B} {Q : VK} {E : XK} (hB : BnAt K H a bs) (hl : bs.length ≤ 100) (hb : ∀ b ∈ bs, bdD (bnD b) = true) (k : ∀ v G, Same H G → RngIs K G bs v → Q v G) : tNil σ H fun vs H2 => spNRing K (V.ref a :: (vs ++ [])) H2 Q E := by
  show spNRing K [.ref a] H Q E
  refine ⟨a, bs, rfl, hB, hl, fun b hb2 => bn_ne (hb b hb2), fun s hp G sG => k _ G sG (.inl ⟨?_, rfl⟩), fun s v hp R ys p y G sG nR hR hP h1 h2 e hc ok ow => k _ G sG (.inr ⟨?_, R, _, rfl, .lst (SqL.of hR) (bats_dp hP), ring_is h1 e hc ok ow hb, ?_⟩)⟩
  · unfold ringQ; rw [hp]; rfl
  · unfold ringQ; rw [hp]; rfl
  · have hg := ring_good h1 e hc ok ow hb
    rintro es (e2 | e2)
    · cases e2
      refine ⟨?_, fun d hd => ?_⟩
      · rw [List.length_map, List.length_reverse, back_len hc]
        have h3 : (nsOf bs).length ≤ 1 + (endsL bs).length := by
          have := fold_len (Zr :: endsL bs) []
          rw [List.length_cons] at this
          have z : ([] : List Str).length = 0 := rfl
          unfold nsOf
          omega
        rw [endsL_len] at h3
        omega
      · obtain ⟨b, hb2, rfl⟩ := List.mem_map.mp hd
        exact okBd_bn (hg b (List.mem_reverse.mp hb2))
    · cases e2
theorem leastK_get {s : Sol.St} {ns : List Str} (hn : ns.Nodup) : ∀ p ∈ leastK s ns, valV (leastK s ns) p.1 = some p.2 ∧ flatB p.2 = true := by
  intro p hp
  obtain ⟨x, hx, rfl⟩ := List.mem_map.mp hp
  refine ⟨?_, rfl⟩
  have key : ∀ (l : List Str), l.Nodup → x ∈ l → valV (l.map fun x => ((.inr x : Key), V.int (s.val x))) (.inr x) = some (.int (s.val x)) := by
    intro l hl hm
    induction l with
    | nil => cases hm
    | cons y r ih =>
      unfold valV
      rw [List.map_cons, List.find?_cons]
      by_cases e : y = x
      · subst e
        rw [decide_eq_true rfl]
        rfl
      · rw [decide_eq_false (fun z => e (by injection z))]
        exact ih (List.nodup_cons.mp hl).2 ((List.mem_cons.mp hm).resolve_left fun z => e z.symm)
  exact key _ (hn.filter _) hx
theorem nsOf_nodup (bs : List Sol.B) : (nsOf bs).Nodup := fold_nodup _ _ List.nodup_nil
theorem cmp_least {G : Hp} {bs : List Sol.B} {x y : V} {Q : VK} (h1 : LstIs G bs x) (h2 : LstIs G bs y) (k : Q (.bl false) G) : rNe x y G Q ∨ rNeDA x y G Q := by
  rcases h1 with ⟨q1, D, rfl, hD⟩ | ⟨q1, rfl⟩
  · rcases h2 with ⟨q2, D2, rfl, hD2⟩ | ⟨q2, rfl⟩
    · exact .inr ⟨_, _, _, _, rfl, rfl, hD, hD2, rfl, leastK_get (nsOf_nodup bs), k⟩
    · rw [q1] at q2; cases q2
  · rcases h2 with ⟨q2, D2, rfl, hD2⟩ | ⟨q2, rfl⟩
    · rw [q1] at q2; cases q2
    · exact .inl ⟨rfl, k⟩
theorem has_own {bs : List Sol.B} {b : Sol.B} (hb : bdD (bnD b) = true) (h : b ∈ bs) : hasQ bs (bnD b) = true := by
  have q := bdOf_bn hb
  unfold bdOf at q
  unfold bdD at hb
  unfold hasQ
  cases e : bd3 (bnD b) with
  | none => rw [e] at hb; cases hb
  | some t =>
    rw [e] at q
    obtain rfl : t = b := q
    exact told_opp (b := t) (List.mem_append.mpr (.inl h)) (List.mem_append.mpr (.inr List.mem_cons_self))
theorem new_ring {bs : List Sol.B} {x : Str} {c : Int} (hc : c < 0) : ringQ (bs ++ [(x, Zr, c)]) = true := told_below hc (List.mem_append.mpr (.inr List.mem_cons_self))
theorem made_none {K : PySem.W.Frag} {H : Hp} {R : Hp → Prop} {E : XK} {x dx : Addr} (hx : H x = none) (hdx : H dx = none) (hne : dx ≠ x) (h : ∀ G, Same H G → BnAt K G x [] → R G) : spNR K [V.ref x] (upd (upd H dx (.own x)) x (.ins (ga K "Bounds") dx [])) (fun v H2 => v = .non ∧ R H2) E :=
  made_any (Q := fun _ G => R G) (xs := []) (ds := []) hx hdx hne .nil (by decide) (fun i d h => nomatch h) fun _ bs e G s hB => h G s (by rw [List.map_eq_nil_iff.mp e.symm] at hB; exact hB)
theorem ne_same {a b : Int} (h : a = b) : (!decide (V.int a = V.int b)) = false := by subst h; rw [decide_eq_true rfl]; rfl
end K31

set_option Elab.async false
set_option maxRecDepth 100000
set_option maxHeartbeats 1000000
namespace K31
open PySem PySem.Spec PyProof.Rows L2 KX
abbrev sLNm : Stmt := top 17
abbrev sLNms : Stmt := top 18
abbrev sLNum : Stmt := top 19
section
variable {P : Program} {w : World} {K : PySem.W.Frag} {mg : Str → Option Value} {base : Heap}
theorem scLNm : FnScope ["bag", "letters", "turn"] ["bag"] (defScope sLNm) := ⟨rfl, rfl, rfl, by decide +kernel, rfl, by decide +kernel, by decide +kernel⟩
theorem ok_lnm {f fD : Addr} {fd fdD : FuncData} (F : FnP K "_law_name" sLNm f fd) (GD : FnOk P w K mg base CX0 1 fD fdD ["bag", "many"] spDraw) (bD : Binds K fdD ["bag", "many"] []) (kD : PySem.W.keepIn K (.ref fD) = true) (gD : mg "_law_draw" = some (.ref fD))
    (n_range : mg "range" = none) : FnOk P w K mg base CX0 2 f fd ["bag"] spLName := by
  refine F.ok scLNm (fun vs H Q E h => ?_) (fun cdv A outer s H vs Q E hr h => ?_)
  · obtain ⟨b, n, rfl, _⟩ := h
    rfl
  · obtain ⟨b, n, rfl, hB, hn, k⟩ := h
    have nd := scLNm.nd
    refine ⟨_, PSs.nox (pss_cons (ps_set (i := 1) nd rfl (Or.inr rfl) pe_str)
(pss_one (ps_ret (pe_join pe_str (pe_lc (own := [("turn", 2)]) (g := (gName 2)) (tt := tYes) rfl nd (pi_range1 (by rfl) n_range (pa_cons (pe_op op_add pe_int (pe_call GD hr rfl gD kD bD .nil pass0 (pa_cons (pv 0) (pa_cons pe_int pa_nil)))) pa_nil)) (blkOk_by (own := [("turn", 2)]) (N := ["bag", "letters", "turn"]) (sc := defScope sLNm) (by decide +kernel)) (fun _ _ _ _ _ => (pg_name (i := 2) nd rfl (Or.inl rfl))) (fun _ _ _ _ _ => pts_nil) (fun _ _ _ _ _ => (pe_ix ix_str (pv 1) (pe_call GD hr rfl gD kD bD .nil pass0 (pa_cons (pv 0) (pa_cons pe_int pa_nil))) (fun _ _ => rfl)))))))), ?_⟩
    refine ⟨⟨_, rfl⟩, _, rfl, b, n, 8, rfl, hB, by omega, by decide, by decide, fun r G1 r0 r1 k1 hB1 => ⟨_, _, rfl, rfl, _, rfl, by omega, by omega, fun D nD => ?_⟩⟩
    obtain ⟨nn, hnn⟩ : ∃ nn : Nat, (1 + r).toNat = nn ∧ 1 ≤ nn ∧ nn ≤ 8 := ⟨_, rfl, by omega, by omega⟩
    rw [hnn.1]
    have hDb := hB1.ne nD
    have hDH : ∀ y o, H y = some o → y ≠ D := fun y o e => by
      rintro rfl
      have q := (k1 y hDb).trans e
      rw [nD] at q
      cases q
    refine lc_it (walk_rng (n := nn)) (fun i G => ∃ zs : List Nat, G D = some (.lst ((zs.map fun c => (⟨#[c]⟩ : Str)).map V.str)) ∧ zs.length = i ∧ (∀ c ∈ zs, isLet c = true) ∧ Bag G b (n + 1 + i) ∧ Kept b H G)
      ⟨[], upd_same, rfl, fun _ z => (nomatch z), (hB1.put hDb).mono (by omega), fun y o e q => (upd_ne (hDH y o q)).trans ((k1 y e).trans q)⟩ (fun _ _ _ _ => trivial) ?_ ?_
    · rintro i x G' G hi ⟨zs, hD, hl, hz, hBG, kG⟩ ⟨rfl, rfl⟩
      refine ⟨rfl, ?_⟩
      dsimp only [tYes]
      rw [if_pos rfl]
      refine ⟨_, rfl, _, rfl, b, _, 26, rfl, hBG, by omega, by decide, by decide, fun q G2 q0 q1 k2 hB2 => ?_⟩
      obtain ⟨j, rfl⟩ : ∃ j : Nat, q = j := ⟨q.toNat, by omega⟩
      have hj : j < 26 := by omega
      refine ⟨_, _, _, rfl, rfl, (by decide +kernel), atI_nat (letters_at hj), _, (k2 D hDb).trans hD, ?_, zs ++ [97 + j], ?_, ?_, ?_, ?_, fun y o e z => ?_⟩
      · rw [List.length_map, List.length_map, sizeLine_eq]
        omega
      · rw [upd_same, List.map_append, List.map_append]
        rfl
      · rw [List.length_append, hl]
        rfl
      · intro c hc
        rcases List.mem_append.mp hc with hc | hc
        · exact hz c hc
        · rw [List.mem_singleton.mp hc]
          exact let_at hj
      · exact (hB2.put hDb).mono (by omega)
      · rw [upd_ne (hDH y o z)]
        exact (k2 y e).trans (kG y o e z)
    · rintro G ⟨zs, hD, hl, hz, hBG, kG⟩
      refine ⟨_, D, zs.map fun c => (⟨#[c]⟩ : Str), rfl, rfl, .inl (SqL.of hD), ?_, ?_⟩
      · have e1 : ((zs.map fun c => (⟨#[c]⟩ : Str)).map (·.length)) = zs.map fun _ => 1 := by rw [List.map_map]; rfl
        have e2 : (("" : String) : Str).length = 0 := by decide +kernel
        rw [e1, e2, List.map_const', List.sum_replicate_nat]
        omega
      · have e0 : (("" : String) : Str) = ⟨#[]⟩ := by decide +kernel
        rw [TL.join_eq, e0]
        have e := join0 zs
        have hL : (Str.join ⟨#[]⟩ (zs.map fun c => (⟨#[c]⟩ : Str))).length = nn := by rw [← tlc_len, e, hl]
        exact k _ G (nm_of (by omega) (by omega) (fun c hc => hz c (by rw [← e]; exact hc))) kG (hBG.mono (by omega))
theorem scLNms : FnScope ["bag", "many", "found", "turn", "name", "one", "at"] ["bag", "many"] (defScope sLNms) := ⟨rfl, rfl, rfl, by decide +kernel, rfl, by decide +kernel, by decide +kernel⟩
theorem ok_lnms {f fD fO fN : Addr} {fd fdD fdO fdN : FuncData} (F : FnP K "_law_names" sLNms f fd) (GD : FnOk P w K mg base CX0 1 fD fdD ["bag", "many"] spDraw) (bD : Binds K fdD ["bag", "many"] []) (kD : PySem.W.keepIn K (.ref fD) = true) (gD : mg "_law_draw" = some (.ref fD))
    (GO : FnOk P w K mg base CX0 2 fO fdO ["bag", "some"] (spOf K)) (bO : Binds K fdO ["bag", "some"] []) (kO : PySem.W.keepIn K (.ref fO) = true) (gO : mg "_law_of" = some (.ref fO))
    (GN : FnOk P w K mg base CX0 2 fN fdN ["bag"] spLName) (bN : Binds K fdN ["bag"] []) (kN : PySem.W.keepIn K (.ref fN) = true) (gN : mg "_law_name" = some (.ref fN))
    (n_range : mg "range" = none) (n_len : mg "len" = none) : FnOk P w K mg base CX0 3 f fd ["bag", "many"] spLNames := by
  refine F.ok scLNms (fun vs H Q E h => ?_) (fun cdv A outer s H vs Q E hr2 h => ?_)
  · obtain ⟨b, n, m, rfl, _⟩ := h
    rfl
  · obtain ⟨b, n, many, rfl, hB, hn, h1, h100, k⟩ := h
    have nd := scLNms.nd
    have hr1 := hr2.mono (j := 1) (by decide)
    refine ⟨_, PSs.nox (pss_cons (ps_set (i := 2) nd rfl (Or.inl rfl) (pe_lst (pa_cons (pe_call GN hr2 rfl gN kN bN .nil pass0 (pa_cons (pv 0) pa_nil)) pa_nil)))
(pss_cons (ps_for PassesOwn.never rfl (pi_range1 (by rfl) n_range (pa_cons (pe_op op_sub (pv 1) pe_int) pa_nil)) (pg_name (i := 3) nd rfl (Or.inl rfl))
(pss_cons (ps_set (i := 4) nd rfl (Or.inl rfl) (pe_call GN hr2 rfl gN kN bN .nil pass0 (pa_cons (pv 0) pa_nil)))
(pss_cons (ps_if (pt_cmpR op_eq (pe_call GD hr1 rfl gD kD bD .nil pass0 (pa_cons (pv 0) (pa_cons pe_int pa_nil))) pe_int (nomark _))
(pss_cons (ps_set (i := 5) nd rfl (Or.inl rfl) (pe_call GO hr2 rfl gO kO bO .nil pass0 (pa_cons (pv 0) (pa_cons (pv 2) pa_nil))))
(pss_cons (ps_set (i := 6) nd rfl (Or.inl rfl) (pe_call GD hr1 rfl gD kD bD .nil pass0 (pa_cons (pv 0) (pa_cons (pe_callB call_len_str (by rfl) n_len PySem.boot_len (pa_cons (pv 5) pa_nil)) pa_nil))))
(pss_one (ps_set (i := 4) nd rfl (Or.inl rfl) (pe_op op_add_str (pe_op op_add_str (pe_slice sl_str (pv 5) po_none (po_some (pv 6))) (pe_ix ix_str (pv 4) pe_int (fun _ _ => rfl))) (pe_slice sl_str (pv 5) (po_some (pe_op op_add (pv 6) pe_int)) po_none))))))
pss_nil)
(pss_one (ps_if (pt_cmpR op_notIn_seq (pv 4) (pv 2) rfl)
(pss_one (ps_expr (pe_bm PySem.F.plainAttrs_list PySem.F.slot_list_append PySem.F.type_list_append mt_append (pv 2) (pa_cons (pv 4) pa_nil))))
pss_nil)))))
(pss_one (ps_ret (pv 2))))), ?_⟩
    refine ⟨_, rfl, b, n, rfl, hB, by omega, fun z0 G1 hz0 k1 hB1 => ⟨(by show 1 ≤ sizeLine; decide), fun F0 nF => ?_⟩⟩
    have hFb := hB1.ne nF
    have hFH : H F0 = none := by
      cases e : H F0 with
      | none => rfl
      | some o => exact absurd (k1 F0 o hFb e) (by rw [nF]; exact nofun)
    have lp0 : LN b F0 H (upd G1 F0 (.lst [.str z0])) [z0] (n + 9) := ⟨hB1.put hFb, upd_same, fun x o nx e => (upd_ne (ne_of_none e hFH)).trans (k1 x o nx e), hFb, by simp, fun z hz => by rw [List.mem_singleton.mp hz]; exact hz0⟩
    generalize upd G1 F0 (.lst [.str z0]) = G2 at lp0
    refine ⟨_, rfl, _, _, rfl, rfl, _, rfl, by omega, by omega, ?_⟩
    have e1 : ((many : Int) - 1).toNat = many - 1 := by omega
    rw [e1]
    refine for_it (walk_rng (n := many - 1)) (fun i σ G => ∃ zs y3 y4 y5 y6, σ = [some (.ref b), some (.int (many : Int)), some (.ref F0), y3, y4, y5, y6] ∧ LN b F0 H G zs (n + 9 + 12 * i) ∧ 1 ≤ zs.length ∧ zs.length ≤ i + 1)
      ⟨[z0], _, _, _, _, rfl, lp0.le (by omega), by simp, by simp⟩ (fun _ _ _ _ _ => trivial) ?_ ?_
    · rintro i x σ G' G hi ⟨zs, y3, y4, y5, y6, rfl, lp, hl1, hl2⟩ ⟨rfl, rfl⟩
      refine ⟨_, rfl, b, _, rfl, lp.bag, by omega, fun z G3 hz k3 hB3 => ?_⟩
      have lp3 := lp.to k3 hB3
      dsimp only [gName, List.set]
      refine seq_by (fun σ G => ∃ z y5 y6, σ = [some (.ref b), some (.int (many : Int)), some (.ref F0), some (.int (i : Int)), some (.str z), y5, y6] ∧ isNm z = true ∧ LN b F0 H G zs (n + 9 + 12 * (i + 1 : Nat))) ?_ (fun nxt => ?_)
      · rintro σ G ⟨z, y5, y6, rfl, hz, lp⟩
        refine ⟨_, rfl, _, rfl, F0, _, rfl, .inl (SqL.of lp.fnd), rfl, flat_strs zs, _, rfl, ite2' (fun c => ?_) (fun c => ?_)⟩
        · have c' : (!inV (.str z) (zs.map V.str)) = true := c
          rw [inV_str] at c'
          have hnot : z ∉ zs := fun q => by
            rw [decide_eq_true q] at c'
            cases c'
          refine ⟨_, rfl, .inl ⟨rfl, _, SqL.of lp.fnd⟩, _, rfl, F0, _, _, rfl, rfl, lp.fnd, (by rw [List.length_map, sizeLine_eq]; omega), ?_⟩
          exact ⟨zs ++ [z], _, _, _, _, rfl, lp.add hFH hz hnot, by rw [List.length_append]; omega, by rw [List.length_append]; show zs.length + 1 ≤ _; omega⟩
        · exact ⟨zs, _, _, _, _, rfl, lp, hl1, by omega⟩
      · refine ⟨_, rfl, b, _, 2, rfl, lp3.bag, by omega, by decide, by decide, fun r G4 r0 r1 k4 hB4 => ⟨rfl, _, rfl, ite2' (fun c => ?_) (fun c => ?_)⟩⟩
        · have lp4 := lp3.to k4.kept hB4
          refine ⟨_, rfl, _, rfl, b, F0, _, _, rfl, lp4.bag, by omega, hFb, SqL.of lp4.fnd, by rw [List.length_map]; omega, by rw [List.length_map]; omega, fun j v G5 hv k5 hB5 => ?_⟩
          obtain ⟨one, ho, rfl⟩ := Option.map_eq_some_iff.mp ((List.getElem?_map ..).symm.trans hv)
          have hno := lp4.nm one (List.mem_of_getElem? ho)
          have hlo := nm_line hno
          obtain ⟨o1, o8, _⟩ := nm_inv hno
          have lp5 := lp4.to k5.kept hB5
          refine ⟨_, rfl, _, rfl, _, rfl, hlo, b, _, _, rfl, lp5.bag, by omega, by omega, by omega, fun a G6 a0 a1 k6 hB6 => ?_⟩
          have lp6 := lp5.to k6.kept hB6
          obtain ⟨at_, rfl⟩ : ∃ j : Nat, a = j := ⟨a.toNat, by omega⟩
          have hat : at_ < one.length := by omega
          obtain ⟨c0, hc0, hm⟩ := atI_zero (xs := tlc z) (by rw [tlc_len]; have := (nm_inv hz).1; omega)
          have hlet := (nm_inv hz).2.2 c0 hm
          have l1 := cutS_len one none (some (at_ : Int))
          have l2 := cutS_len one (some ((at_ : Int) + 1)) none
          have l3 : (⟨#[c0]⟩ : Str).length = 1 := rfl
          refine ⟨_, rfl, _, rfl, _, rfl, _, rfl, hlo, _, rfl, _, _, c0, rfl, rfl, nm_line hz, hc0, _, _, rfl, rfl, (by rw [sizeLine_eq]; omega), _, rfl, _, rfl, _, _, rfl, rfl, _, rfl, _, rfl, hlo, _, _, rfl, rfl, (by rw [Str.length_append, sizeLine_eq]; omega), ?_⟩
          exact nxt _ _ ⟨_, _, _, rfl, nm_splice hno hat hlet, lp6.le (by omega)⟩
        · exact nxt _ _ ⟨z, _, _, rfl, hz, (lp3.to k4.kept hB4).le (by omega)⟩
    · rintro σ G ⟨zs, y3, y4, y5, y6, rfl, lp, hl1, hl2⟩
      exact ⟨_, rfl, k F0 zs G ⟨hFH, hFb, lp.kept, lp.bag.mono (by omega), lp.fnd, lp.nd, lp.nm⟩ hl1 (by omega)⟩
theorem scLNum : FnScope ["bag", "many", "name"] ["bag", "many"] (defScope sLNum) := ⟨rfl, rfl, rfl, by decide +kernel, rfl, by decide +kernel, by decide +kernel⟩
theorem zero_nm : isNm (("zero" : String) : Str) = true := by decide +kernel
theorem ok_lnum {f fN : Addr} {fd fdN : FuncData} (F : FnP K "_law_numbers" sLNum f fd) (GN : FnOk P w K mg base CX0 3 fN fdN ["bag", "many"] spLNames) (bN : Binds K fdN ["bag", "many"] []) (kN : PySem.W.keepIn K (.ref fN) = true) (gN : mg "_law_names" = some (.ref fN)) :
    FnOk P w K mg base CX0 4 f fd ["bag", "many"] spLNums := by
  refine F.ok scLNum (fun vs H Q E h => ?_) (fun cdv A outer s H vs Q E hr h => ?_)
  · obtain ⟨b, n, m, rfl, _⟩ := h
    rfl
  · obtain ⟨b, n, many, rfl, hB, hn, h1, h100, k⟩ := h
    have nd := scLNum.nd
    refine ⟨_, PSs.nox (pss_one (ps_ret (pe_op op_cat (pe_lc (own := [("name", 2)]) (g := (gName 2))  rfl nd (pi_list (pe_call GN hr rfl gN kN bN .nil pass0 (pa_cons (pv 0) (pa_cons (pv 1) pa_nil)))) (blkOk_by (own := [("name", 2)]) (N := ["bag", "many", "name"]) (sc := defScope sLNum) (by decide +kernel)) (fun _ _ _ _ _ => (pg_name (i := 2) nd rfl (Or.inl rfl))) (fun _ _ _ _ _ => (pts_one (pt_cmpR op_ne (pv 2) pe_str (nomark _)))) (fun _ _ _ _ _ => (pv 2))) (pe_lst (pa_cons pe_str pa_nil))))), ?_⟩
    refine ⟨_, rfl, _, rfl, b, n, many, rfl, hB, by omega, h1, h100, fun F0 zs G hN hl1 hl2 => ⟨F0, rfl, ⟨_, SqL.of hN.2.2.2.2.1⟩, fun D nD => ?_⟩⟩
    obtain ⟨hF, hFb, hk, hBG, hfn, hnd, hnm⟩ := hN
    have hDb := hBG.ne nD
    refine lc_it (walk_list (K := K) (a := F0) (xs := zs.map V.str)) (fun i G2 => G2 D = some (.lst (((zs.take i).filter fun z : Str => decide (z ≠ "zero")).map V.str)) ∧ Same G G2 ∧ Bag G2 b (n + 20 * many)) ⟨upd_same, same_put nD, hBG.put hDb⟩ (fun i G2 _ h => SqL.of (h.2.1 _ _ hfn)) ?_ ?_
    · rintro i x G' G2 hi ⟨hD, s2, hB2⟩ ⟨rfl, hx⟩
      obtain ⟨z, hz, rfl⟩ := Option.map_eq_some_iff.mp ((List.getElem?_map ..).symm.trans hx)
      refine ⟨rfl, ?_⟩
      refine ⟨_, rfl, rfl, _, rfl, ?_⟩
      have etk : (zs.take (i + 1)).filter (fun z : Str => decide (z ≠ "zero")) = (zs.take i).filter (fun z : Str => decide (z ≠ "zero")) ++ (if decide (z ≠ "zero") = true then [z] else []) := by
        rw [take_at hz, List.filter_append]
        congr 1
        by_cases h : z = "zero"
        · rw [decide_eq_false (fun q => q h), if_neg Bool.false_ne_true]
          exact List.filter_cons_of_neg (by rw [decide_eq_false (fun q => q h)]; exact Bool.false_ne_true)
        · rw [decide_eq_true h, if_pos rfl]
          exact List.filter_cons_of_pos (decide_eq_true h)
      rw [etk]
      have ed : (!decide (V.str z = V.str "zero")) = decide (z ≠ "zero") := by
        rw [str_dec]
        by_cases h : z = "zero"
        · rw [decide_eq_true h, decide_eq_false (fun q => q h)]
          rfl
        · rw [decide_eq_false h, decide_eq_true h]
          rfl
      refine ite2' (fun c => ?_) (fun c => ?_)
      · have c' := c
        rw [ed] at c'
        rw [if_pos c']
        refine ⟨_, rfl, _, hD, ?_, ?_, fun y o e => ?_, ?_⟩
        · rw [List.length_map, sizeLine_eq]
          have := List.length_filter_le (fun z : Str => decide (z ≠ "zero")) (zs.take i)
          rw [List.length_take] at this
          have := Nat.min_le_right i zs.length
          omega
        · rw [upd_same, List.map_append]
          rfl
        · rw [upd_ne (ne_of_none e nD)]
          exact s2 _ _ e
        · exact hB2.put hDb
      · have c' := c
        rw [ed] at c'
        rw [c']
        rw [if_neg Bool.false_ne_true, List.append_nil]
        exact ⟨hD, s2, hB2⟩
    · rintro G2 ⟨hD, s2, hB2⟩
      rw [List.length_map, List.take_length] at hD
      refine ⟨by decide, fun L nL => ?_⟩
      have hLD : L ≠ D := (ne_of_none hD nL).symm
      have hLb := hB2.ne nL
      generalize hfs : zs.filter (fun z : Str => decide (z ≠ "zero")) = fs at hD
      have hfl : fs.length ≤ zs.length := by rw [← hfs]; exact List.length_filter_le _ _
      have hfm : ∀ z ∈ fs, z ∈ zs ∧ z ≠ "zero" := fun z hz => by
        rw [← hfs] at hz
        obtain ⟨q1, q2⟩ := List.mem_filter.mp hz
        exact ⟨q1, of_decide_eq_true q2⟩
      have hfd : fs.Nodup := by rw [← hfs]; exact hnd.filter _
      have hD2 : upd G2 L (.lst [.str "zero"]) D = some (.lst (fs.map V.str)) := (upd_ne hLD.symm).trans hD
      have hL2 : upd G2 L (.lst [.str "zero"]) L = some (.lst [.str "zero"]) := upd_same
      have s3 : Same G2 (upd G2 L (.lst [.str "zero"])) := same_put nL
      have hB3 := hB2.put (o := .lst [.str "zero"]) hLb
      generalize upd G2 L (.lst [.str "zero"]) = G3 at hD2 hL2 s3 hB3
      refine ⟨D, L, _, _, rfl, rfl, hD2, hL2, (by rw [List.length_map, sizeLine_eq]; show fs.length + 1 ≤ _; omega), fun R nR => ?_⟩
      have hRb := hB3.ne nR
      have kR : Kept b H G3 := fun x o nx e => s3 _ _ (s2 _ _ (hk x o nx e))
      have hRH : H R = none := by
        cases e : H R with
        | none => rfl
        | some o => exact absurd (kR R o hRb e) (by rw [nR]; exact nofun)
      refine k R (fs ++ [(("zero" : String) : Str)]) _ ⟨hRH, hRb, fun x o nx e => (upd_ne (ne_of_none e hRH)).trans (kR x o nx e), hB3.put hRb, ?_, ?_, fun z hz => ?_⟩ (by rw [List.length_append]; show 1 ≤ fs.length + 1; omega) (by rw [List.length_append]; show fs.length + 1 ≤ _; omega)
      · rw [upd_same, List.map_append]
        rfl
      · refine List.nodup_append.mpr ⟨hfd, List.nodup_cons.mpr ⟨List.not_mem_nil, List.nodup_nil⟩, fun x hx y hy => ?_⟩
        rw [List.mem_singleton.mp hy]
        exact (hfm x hx).2
      · rcases List.mem_append.mp hz with hz | hz
        · exact hnm z (hfm z hz).1
        · rw [List.mem_singleton.mp hz]
          exact zero_nm
end
end K31

set_option Elab.async false
set_option maxRecDepth 100000
set_option maxHeartbeats 2000000
namespace K31
open PySem PySem.Spec PyProof.Rows L2 He KX Sol
/-- a drawn bound: its names among zs -/
def GoodB (zs : List Str) (x : Sol.B) : Prop := x.1 ∈ zs ∧ x.2.1 ∈ zs ∧ x.1 ≠ x.2.1
/-- bounds in a new list at F -/
structure BL (b F : Addr) (H G : Hp) (xs : List V) (bs : List Sol.B) (n : Int) : Prop where
  bag : Bag G b n
  fnd : LsA b G F xs
  par : Paired (BAt G) xs bs
  kep : Kept b H G
  new : H F = none
theorem BAt.kp {b : Addr} {n : Int} {G G' : Hp} {x : V} {c : Sol.B} (h : BAt G x c) (hB : Bag G b n) (k : Kept b G G') : BAt G' x c := by
  obtain ⟨t, rfl, ht⟩ := h
  exact ⟨t, rfl, ht.mb hB k⟩
theorem BAt.off {G : Hp} {F : Addr} {x : V} {c : Sol.B} {xs : List V} {o : HO} (h : BAt G x c) (hF : G F = some (.lst xs)) : BAt (upd G F o) x c := by
  obtain ⟨t, rfl, ht⟩ := h
  exact ⟨t, rfl, (upd_ne (by rintro rfl; rw [hF] at ht; cases ht)).trans ht⟩
theorem BL.to {b F : Addr} {H G G' : Hp} {xs : List V} {bs : List Sol.B} {n n' : Int} (h : BL b F H G xs bs n) (k : Kept b G G') (hB : Bag G' b n') : BL b F H G' xs bs n' :=
  ⟨hB, h.fnd.mb h.bag k, pr_imp (fun _ _ z => z.kp h.bag k) h.par, h.kep.trans k, h.new⟩
theorem BL.mv {b F : Addr} {H G G' : Hp} {xs : List V} {bs : List Sol.B} {n : Int} (h : BL b F H G xs bs n) (s : Same G G') : BL b F H G' xs bs n := h.to (fun x o _ e => s x o e) (h.bag.mv s)
theorem BL.le {b F : Addr} {H G : Hp} {xs : List V} {bs : List Sol.B} {n n' : Int} (h : BL b F H G xs bs n) (q : n ≤ n') : BL b F H G xs bs n' := ⟨h.bag.mono q, h.fnd, h.par, h.kep, h.new⟩
theorem BL.add {b F T : Addr} {H G : Hp} {xs : List V} {bs : List Sol.B} {n : Int} {u v : Str} {c : Int} (h : BL b F H G xs bs n) (ht : G T = some (.tup [.str u, .str v, .int c])) : BL b F H (upd G F (.lst (xs ++ [.ref T]))) (xs ++ [.ref T]) (bs ++ [(u, v, c)]) n :=
  ⟨h.bag.put h.fnd.ne, ⟨h.fnd.ne, upd_same⟩, pr_app (pr_imp (fun _ _ z => z.off h.fnd.at_) h.par) (.cons (BAt.off ⟨T, rfl, ht⟩ h.fnd.at_) .nil), fun x o ne e => (upd_ne (ne_of_none e h.new)).trans (h.kep x o ne e), h.new⟩
theorem BL.start {b F : Addr} {H G G' : Hp} {n : Int} (hB : Bag G b n) (k : Kept b H G) (nF : G F = none) (s : Same G G') (hF : G' F = some (.lst [])) : BL b F H G' [] [] n :=
  ⟨hB.mv s, ⟨hB.ne nF, hF⟩, .nil, fun x o ne e => s _ _ (k x o ne e), by
    cases e : H F with
    | none => rfl
    | some o => rw [k F o (hB.ne nF) e] at nF; cases nF⟩
/-- a list of names at L, and what is drawn of them -/
structure NmL (b L : Addr) (H : Hp) (zs : List Str) : Prop where
  at_ : LsA b H L (zs.map V.str)
  pos : 1 ≤ zs.length
  len : zs.length ≤ 100
theorem NmL.mb {b L : Addr} {H G : Hp} {zs : List Str} {n : Int} (h : NmL b L H zs) (hB : Bag H b n) (k : Kept b H G) : NmL b L G zs := ⟨h.1.mb hB k, h.2, h.3⟩
theorem NmL.mv {b L : Addr} {H G : Hp} {zs : List Str} (h : NmL b L H zs) (s : Same H G) : NmL b L G zs := ⟨h.1.mv s, h.2, h.3⟩
theorem NmL.off {b L F : Addr} {H : Hp} {zs : List Str} {o : HO} (h : NmL b L H zs) (ne : L ≠ F) : NmL b L (upd H F o) zs := ⟨h.1.off ne, h.2, h.3⟩
/-- a dict of whole numbers by names -/
def ValD (H : Hp) (d : Addr) (zs : List Str) (w : Str → Int) : Prop := ∃ kvs, H d = some (.dK kvs) ∧ ∀ z ∈ zs, valV kvs (.inr z) = some (.int (w z))
theorem ValD.mb {b d : Addr} {H G : Hp} {zs : List Str} {w : Str → Int} {n : Int} (h : ValD H d zs w) (hB : Bag H b n) (k : Kept b H G) : ValD G d zs w := h.imp fun _ h => ⟨h.1.mb hB k, h.2⟩
theorem ValD.mv {d : Addr} {H G : Hp} {zs : List Str} {w : Str → Int} (h : ValD H d zs w) (s : Same H G) : ValD G d zs w := h.imp fun _ h => ⟨h.1.mv s, h.2⟩
theorem ValD.off {d F : Addr} {H : Hp} {zs : List Str} {w : Str → Int} {o : HO} (h : ValD H d zs w) (ne : d ≠ F) : ValD (upd H F o) d zs w := h.imp fun _ h => ⟨(upd_ne ne).trans h.1, h.2⟩
theorem ValD.get {d : Addr} {H : Hp} {zs : List Str} {w : Str → Int} {z : Str} (h : ValD H d zs w) (hz : z ∈ zs) : DGet H d (.str z) (some (.int (w z))) := by
  obtain ⟨kvs, hd, hv⟩ := h
  exact .inl ⟨kvs, .inr z, .inl hd, rfl, (hv z hz).symm⟩
/-- _law_numbers, with zero among the names -/
def spLNz : Sp := fun vs H Q _ => ∃ (b : Addr) (n : Int) (many : Nat), vs = [.ref b, .int (many : Int)] ∧ Bag H b n ∧ n < 800000 ∧ 1 ≤ many ∧ many ≤ 100 ∧ ∀ F zs G, Names b F H G zs (n + 20 * many) → 1 ≤ zs.length → zs.length ≤ many + 1 → Zr ∈ zs → Q (.ref F) G
section
variable {P : Program} {w : World} {K : PySem.W.Frag} {mg : Str → Option Value} {base : Heap}
theorem ok_lnumZ {f fN : Addr} {fd fdN : FuncData} (F : FnP K "_law_numbers" sLNum f fd) (GN : FnOk P w K mg base CX0 3 fN fdN ["bag", "many"] spLNames) (bN : Binds K fdN ["bag", "many"] []) (kN : PySem.W.keepIn K (.ref fN) = true) (gN : mg "_law_names" = some (.ref fN)) :
    FnOk P w K mg base CX0 4 f fd ["bag", "many"] spLNz := by
  refine F.ok scLNum (fun vs H Q E h => ?_) (fun cdv A outer s H vs Q E hr h => ?_)
  · obtain ⟨b, n, m, rfl, _⟩ := h
    rfl
  · obtain ⟨b, n, many, rfl, hB, hn, h1, h100, k⟩ := h
    have nd := scLNum.nd
    refine ⟨_, PSs.nox (pss_one (ps_ret (pe_op op_cat (pe_lc (own := [("name", 2)]) (g := (gName 2))  rfl nd (pi_list (pe_call GN hr rfl gN kN bN .nil pass0 (pa_cons (pv 0) (pa_cons (pv 1) pa_nil)))) (blkOk_by (own := [("name", 2)]) (N := ["bag", "many", "name"]) (sc := defScope sLNum) (by decide +kernel)) (fun _ _ _ _ _ => (pg_name (i := 2) nd rfl (Or.inl rfl))) (fun _ _ _ _ _ => (pts_one (pt_cmpR op_ne (pv 2) pe_str (nomark _)))) (fun _ _ _ _ _ => (pv 2))) (pe_lst (pa_cons pe_str pa_nil))))), ?_⟩
    refine ⟨_, rfl, _, rfl, b, n, many, rfl, hB, by omega, h1, h100, fun F0 zs G hN hl1 hl2 => ⟨F0, rfl, ⟨_, SqL.of hN.2.2.2.2.1⟩, fun D nD => ?_⟩⟩
    obtain ⟨hF, hFb, hk, hBG, hfn, hnd, hnm⟩ := hN
    have hDb := hBG.ne nD
    refine lc_it (walk_list (K := K) (a := F0) (xs := zs.map V.str)) (fun i G2 => G2 D = some (.lst (((zs.take i).filter fun z : Str => decide (z ≠ "zero")).map V.str)) ∧ Same G G2 ∧ Bag G2 b (n + 20 * many)) ⟨upd_same, same_put nD, hBG.put hDb⟩ (fun i G2 _ h => SqL.of (h.2.1 _ _ hfn)) ?_ ?_
    · rintro i x G' G2 hi ⟨hD, s2, hB2⟩ ⟨rfl, hx⟩
      obtain ⟨z, hz, rfl⟩ := Option.map_eq_some_iff.mp ((List.getElem?_map ..).symm.trans hx)
      refine ⟨rfl, ?_⟩
      refine ⟨_, rfl, rfl, _, rfl, ?_⟩
      have etk : (zs.take (i + 1)).filter (fun z : Str => decide (z ≠ "zero")) = (zs.take i).filter (fun z : Str => decide (z ≠ "zero")) ++ (if decide (z ≠ "zero") = true then [z] else []) := by
        rw [take_at hz, List.filter_append]
        congr 1
        by_cases h : z = "zero"
        · rw [decide_eq_false (fun q => q h), if_neg Bool.false_ne_true]
          exact List.filter_cons_of_neg (by rw [decide_eq_false (fun q => q h)]; exact Bool.false_ne_true)
        · rw [decide_eq_true h, if_pos rfl]
          exact List.filter_cons_of_pos (decide_eq_true h)
      rw [etk]
      have ed : (!decide (V.str z = V.str "zero")) = decide (z ≠ "zero") := by
        rw [str_dec]
        by_cases h : z = "zero"
        · rw [decide_eq_true h, decide_eq_false (fun q => q h)]
          rfl
        · rw [decide_eq_false h, decide_eq_true h]
          rfl
      refine ite2' (fun c => ?_) (fun c => ?_)
      · have c' := c
        rw [ed] at c'
        rw [if_pos c']
        refine ⟨_, rfl, _, hD, ?_, ?_, fun y o e => ?_, ?_⟩
        · rw [List.length_map, sizeLine_eq]
          have := List.length_filter_le (fun z : Str => decide (z ≠ "zero")) (zs.take i)
          rw [List.length_take] at this
          have := Nat.min_le_right i zs.length
          omega
        · rw [upd_same, List.map_append]
          rfl
        · rw [upd_ne (ne_of_none e nD)]
          exact s2 _ _ e
        · exact hB2.put hDb
      · have c' := c
        rw [ed] at c'
        rw [c']
        rw [if_neg Bool.false_ne_true, List.append_nil]
        exact ⟨hD, s2, hB2⟩
    · rintro G2 ⟨hD, s2, hB2⟩
      rw [List.length_map, List.take_length] at hD
      refine ⟨by decide, fun L nL => ?_⟩
      have hLD : L ≠ D := (ne_of_none hD nL).symm
      have hLb := hB2.ne nL
      generalize hfs : zs.filter (fun z : Str => decide (z ≠ "zero")) = fs at hD
      have hfl : fs.length ≤ zs.length := by rw [← hfs]; exact List.length_filter_le _ _
      have hfm : ∀ z ∈ fs, z ∈ zs ∧ z ≠ "zero" := fun z hz => by
        rw [← hfs] at hz
        obtain ⟨q1, q2⟩ := List.mem_filter.mp hz
        exact ⟨q1, of_decide_eq_true q2⟩
      have hfd : fs.Nodup := by rw [← hfs]; exact hnd.filter _
      have hD2 : upd G2 L (.lst [.str "zero"]) D = some (.lst (fs.map V.str)) := (upd_ne hLD.symm).trans hD
      have hL2 : upd G2 L (.lst [.str "zero"]) L = some (.lst [.str "zero"]) := upd_same
      have s3 : Same G2 (upd G2 L (.lst [.str "zero"])) := same_put nL
      have hB3 := hB2.put (o := .lst [.str "zero"]) hLb
      generalize upd G2 L (.lst [.str "zero"]) = G3 at hD2 hL2 s3 hB3
      refine ⟨D, L, _, _, rfl, rfl, hD2, hL2, (by rw [List.length_map, sizeLine_eq]; show fs.length + 1 ≤ _; omega), fun R nR => ?_⟩
      have hRb := hB3.ne nR
      have kR : Kept b H G3 := fun x o nx e => s3 _ _ (s2 _ _ (hk x o nx e))
      have hRH : H R = none := by
        cases e : H R with
        | none => rfl
        | some o => exact absurd (kR R o hRb e) (by rw [nR]; exact nofun)
      refine k R (fs ++ [(("zero" : String) : Str)]) _ ⟨hRH, hRb, fun x o nx e => (upd_ne (ne_of_none e hRH)).trans (kR x o nx e), hB3.put hRb, ?_, ?_, fun z hz => ?_⟩ (by rw [List.length_append]; show 1 ≤ fs.length + 1; omega) (by rw [List.length_append]; show fs.length + 1 ≤ _; omega) (List.mem_append.mpr (.inr List.mem_cons_self))
      · rw [upd_same, List.map_append]
        rfl
      · refine List.nodup_append.mpr ⟨hfd, List.nodup_cons.mpr ⟨List.not_mem_nil, List.nodup_nil⟩, fun x hx y hy => ?_⟩
        rw [List.mem_singleton.mp hy]
        exact (hfm x hx).2
      · rcases List.mem_append.mp hz with hz | hz
        · exact hnm z (hfm z hz).1
        · rw [List.mem_singleton.mp hz]
          exact zero_nm
end
end K31

set_option Elab.async false
set_option maxRecDepth 100000
set_option maxHeartbeats 2000000
namespace K31
open PySem PySem.Spec PyProof.Rows L2 He KX Sol
abbrev sLSys : Stmt := top 20
/-- _law_system -/
def spSys : Sp := fun vs H Q _ => ∃ (b L : Addr) (n : Int) (zs : List Str), vs = [.ref b, .ref L] ∧ Bag H b n ∧ n < 700000 ∧ NmL b L H zs ∧ zs.Nodup ∧ ∀ F xs bs G, BL b F H G xs bs (n + 400) → bs.length ≤ 16 → (∀ x ∈ bs, GoodB zs x) → Q (.ref F) G
theorem keys_eq : ∀ {kvs : List (Key × V)} {zs : List Str}, Paired (fun (kv : Key × V) z => ∃ i : Int, kv = ((.inr z : Key), V.int i)) kvs zs → kvs.map (·.1) = zs.map Sum.inr
  | _, _, .nil => rfl
  | _, _, .cons h r => by
    obtain ⟨_, rfl⟩ := h
    rw [List.map_cons, List.map_cons, keys_eq r]
/-- the value of a name in a dict of whole numbers -/
def wOf (kvs : List (Key × V)) (x : Str) : Int := match valV kvs (.inr x) with | some (.int i) => i | _ => 0
theorem wOf_at {kvs : List (Key × V)} {zs : List Str} (hn : zs.Nodup) (h : Paired (fun (kv : Key × V) z => ∃ i : Int, kv = ((.inr z : Key), V.int i)) kvs zs) :
    ∀ z ∈ zs, valV (putK kvs (.inr Zr) (.int 0)) (.inr z) = some (.int (wOf (putK kvs (.inr Zr) (.int 0)) z)) := fun z hz => by
  have key : ∃ i : Int, valV (putK kvs (.inr Zr) (.int 0)) (.inr z) = some (.int i) := by
    rw [valV_put]
    by_cases c : z = Zr
    · rw [if_pos (congrArg Sum.inr c)]
      exact ⟨0, rfl⟩
    · rw [if_neg (fun e => c (by injection e))]
      obtain ⟨v, h1, i, h2⟩ := val_in h (fun kv x ⟨i, e⟩ => by rw [e]) hn hz
      injection h2 with _ h2
      subst h2
      exact ⟨i, h1⟩
  obtain ⟨i, e⟩ := key
  unfold wOf
  rw [e]
section
variable {P : Program} {w : World} {K : PySem.W.Frag} {mg : Str → Option Value} {base : Heap}
theorem scLSys : FnScope ["bag", "names", "values", "found", "is_kept", "turn", "u", "v", "c", "name"] ["bag", "names"] (defScope sLSys) := ⟨rfl, rfl, rfl, by decide +kernel, rfl, by decide +kernel, by decide +kernel⟩
theorem ok_lsys {f fD fO : Addr} {fd fdD fdO : FuncData} (F : FnP K "_law_system" sLSys f fd) (GD : FnOk P w K mg base CX0 1 fD fdD ["bag", "many"] spDraw) (bD : Binds K fdD ["bag", "many"] []) (kD : PySem.W.keepIn K (.ref fD) = true) (gD : mg "_law_draw" = some (.ref fD))
    (GO : FnOk P w K mg base CX0 2 fO fdO ["bag", "some"] (spOf K)) (bO : Binds K fdO ["bag", "some"] []) (kO : PySem.W.keepIn K (.ref fO) = true) (gO : mg "_law_of" = some (.ref fO)) (n_range : mg "range" = none) (n_dict : mg "dict" = none) : FnOk P w K mg base CX0 3 f fd ["bag", "names"] spSys := by
  refine F.ok scLSys (fun vs H Q E h => ?_) (fun cdv A outer s H vs Q E hr h => ?_)
  · obtain ⟨b, L, n, zs, rfl, _⟩ := h
    rfl
  · obtain ⟨b, L, n, zs, rfl, hB, hn, hL, ndz, k⟩ := h
    have nd := scLSys.nd
    have hr1 := hr.mono (j := 1) (by decide)
    have hu := Nat.lt_of_le_of_lt (Nat.add_le_add_left (by decide : 1 ≤ 64) _) hr.units
    have hzl := hL.len
    refine ⟨_, PSs.nox (pss_cons (ps_set (i := 2) nd rfl (Or.inl rfl) (pe_callTy (call_dictP rfl) (by rfl) n_dict (by decide +kernel) (pa_cons (pe_lc (own := [("name", 9)]) (g := (gName 9)) (tt := tYes) rfl nd (pi_list (pv 1)) (blkOk_by (own := [("name", 9)]) (N := ["bag", "names", "values", "found", "is_kept", "turn", "u", "v", "c", "name"]) (sc := defScope sLSys) (by decide +kernel)) (fun _ _ _ _ _ => (pg_name (i := 9) nd rfl (Or.inl rfl))) (fun _ _ _ _ _ => pts_nil) (fun _ _ _ _ _ => (pe_tup (pa_cons (pv 9) (pa_cons (pe_call GO hr (by rfl) gO kO bO .nil pass0 (pa_cons (pv 0) (pa_cons (pe_lst (pa_cons pe_int (pa_cons pe_int (pa_cons pe_int (pa_cons (pe_call GD hr1 (by rfl) gD kD bD .nil pass0 (pa_cons (pv 0) (pa_cons (pe_op op_pow pe_int pe_int) pa_nil))) pa_nil))))) pa_nil))) pa_nil))))) pa_nil)))
(pss_cons (ps_dput hu (pv 2) pe_str pe_int rfl)
(pss_cons (ps_par (i := 3) (j := 4) (by rfl) nd rfl rfl (by decide) rfl rfl (pa_cons (pe_lst pa_nil) (pa_cons (pe_cmpR op_gt (pe_call GD hr1 (by rfl) gD kD bD .nil pass0 (pa_cons (pv 0) (pa_cons pe_int pa_nil))) pe_int (nomark _)) pa_nil)) (by rfl))
(pss_cons (ps_for PassesOwn.never rfl (pi_range1 (by rfl) n_range (pa_cons (pe_call GD hr1 (by rfl) gD kD bD .nil pass0 (pa_cons (pv 0) (pa_cons pe_int pa_nil))) pa_nil)) (pg_name (i := 5) nd rfl (Or.inl rfl))
(pss_cons (ps_par3 (i := 6) (j := 7) (l := 8) (by rfl) nd rfl rfl rfl (by decide) (by decide) (by decide) rfl rfl rfl (pa_cons (pe_call GO hr (by rfl) gO kO bO .nil pass0 (pa_cons (pv 0) (pa_cons (pv 1) pa_nil))) (pa_cons (pe_call GO hr (by rfl) gO kO bO .nil pass0 (pa_cons (pv 0) (pa_cons (pv 1) pa_nil))) (pa_cons (pe_call GO hr (by rfl) gO kO bO .nil pass0 (pa_cons (pv 0) (pa_cons (pe_lst (pa_cons pe_int (pa_cons pe_int (pa_cons pe_int (pa_cons (pe_call GD hr1 (by rfl) gD kD bD .nil pass0 (pa_cons (pv 0) (pa_cons (pe_op op_pow pe_int pe_int) pa_nil))) pa_nil))))) pa_nil))) pa_nil))) (by rfl))
(pss_one (ps_if (pt_cmpR op_ne (pv 6) (pv 7) (nomark _))
(pss_one (ps_expr (pe_bm PySem.F.plainAttrs_list PySem.F.slot_list_append PySem.F.type_list_append mt_append (pv 3) (pa_cons (pe_tup (pa_cons (pv 6) (pa_cons (pv 7) (pa_cons (pe_op op_add (pv 8) (pe_ifExp (pt_val (pv 4)) (pe_op op_sub (pe_dget hu (pv 2) (pv 6) (fun _ _ => rfl)) (pe_dget hu (pv 2) (pv 7) (fun _ _ => rfl))) (pe_un un_neg pe_int))) pa_nil)))) pa_nil))))
pss_nil))))
(pss_one (ps_ret (pv 3))))))), ?_⟩
    -- the values
    have kk := Kept.refl b H
    refine ⟨_, rfl, L, rfl, ⟨_, SqL.of hL.at_.at_⟩, fun D nD => ?_⟩
    have hDb := hB.ne nD
    have hDH : H D = none := nD
    have hLD : L ≠ D := ne_of_none hL.at_.at_ nD
    refine lc_it (walk_list (K := K) (a := L) (xs := zs.map V.str)) (fun j G => ∃ (ps : List Addr) (kvs : List (Key × V)), LsA b G D (ps.map V.ref) ∧ Paired (fun p (kv : Key × V) => G p = some (.tup [kV kv.1, kv.2])) ps kvs ∧ Paired (fun (kv : Key × V) z => ∃ i : Int, kv = ((.inr z : Key), V.int i)) kvs (zs.take j) ∧ Bag G b (n + 2 * j) ∧ Kept b H G ∧ NmL b L G zs) ?_ (fun i G _ h => by obtain ⟨_, _, _, _, _, _, _, q⟩ := h; exact SqL.of q.at_.at_) ?_ ?_
    · skip
      generalize e_G4 : upd _ D _ = G4
      have s_D := new_same e_G4 nD
      have f_D := new_at e_G4
      clear e_G4
      have hB := hB.mv s_D
      have kk := kk.mv s_D
      have hL := hL.mv s_D
      exact ⟨[], [], ⟨hDb, f_D⟩, .nil, .nil, hB.mono (by omega), kk, hL⟩
    · clear hB kk hL nD
      rintro j x G' G hj ⟨ps, kvs, hD, hP, hQ, hB, kk, hL⟩ ⟨rfl, hx⟩
      rw [List.length_map] at hj
      obtain ⟨z, hz, rfl⟩ := Option.map_eq_some_iff.mp ((List.getElem?_map ..).symm.trans hx)
      refine ⟨rfl, ?_⟩
      dsimp only [tYes]
      rw [if_pos rfl]
      refine ⟨_, rfl, _, rfl, _, rfl, _, _, rfl, rfl, ⟨by decide, by decide, by decide⟩, b, _, _, rfl, hB, by omega, by decide, by decide, fun d G3 d0 d1 k3 hB3 => ⟨(by show 4 ≤ sizeLine; decide), fun L2 nL2 => ?_⟩⟩
      have hD := hD.mb hB k3.kept
      have hL := hL.mb hB k3.kept
      have kk := kk.trans k3.kept
      have hP := pr_imp (fun _ _ h => Eq.mb h hB k3.kept) hP
      have hL2b := hB3.ne nL2
      generalize e_G4 : upd _ L2 _ = G4
      have s_L2 := new_same e_G4 nL2
      have f_L2 := new_at e_G4
      clear e_G4
      have hB3 := hB3.mv s_L2
      have hD := hD.mv s_L2
      have kk := kk.mv s_L2
      have hL := hL.mv s_L2
      have hP := pr_imp (fun _ _ h => Eq.mv h s_L2) hP
      refine ⟨b, L2, _, _, rfl, hB3, by omega, hL2b, SqL.of f_L2, (by show 0 < 4; decide), (by show 4 ≤ 1000; decide), fun q v G5 hv k4 hB4 => ?_⟩
      have hD := hD.mb hB3 k4.kept
      have hL := hL.mb hB3 k4.kept
      have kk := kk.trans k4.kept
      have hP := pr_imp (fun _ _ h => Eq.mb h hB3 k4.kept) hP
      obtain ⟨m, rfl⟩ : ∃ m : Int, v = .int m := by
        match q, hv with
        | 0, e => exact ⟨_, (Option.some.inj e).symm⟩
        | 1, e => exact ⟨_, (Option.some.inj e).symm⟩
        | 2, e => exact ⟨_, (Option.some.inj e).symm⟩
        | 3, e => exact ⟨_, (Option.some.inj e).symm⟩
      refine ⟨(by show 2 ≤ sizeLine; decide), fun T nT => ?_⟩
      generalize e_G6 : upd _ T _ = G6
      have s_T := new_same e_G6 nT
      have f_T := new_at e_G6
      clear e_G6
      have hB4 := hB4.mv s_T
      have hD := hD.mv s_T
      have kk := kk.mv s_T
      have hL := hL.mv s_T
      have hP := pr_imp (fun _ _ h => Eq.mv h s_T) hP
      have hpl := Paired.length hP
      have hql := Paired.length hQ
      rw [List.length_take] at hql
      have offD : ∀ {p : Addr} {xs : List V} {o : HO}, G6 p = some (.tup xs) → upd G6 D o p = some (.tup xs) := fun {p xs o} e => (upd_ne (by rintro rfl; rw [hD.at_] at e; cases e)).trans e
      refine ⟨_, hD.at_, by rw [List.length_map, sizeLine_eq]; omega, ps ++ [T], kvs ++ [(.inr z, .int m)], ⟨hDb, by rw [upd_same, List.map_append]; rfl⟩, ?_, ?_, (hB4.put hDb).mono (by omega), kept_upd kk hDH, hL.off hLD⟩
      · exact pr_app (pr_imp (fun _ _ h => offD h) hP) (.cons (offD f_T) .nil)
      · rw [List.take_succ, hz]
        exact pr_app hQ (.cons ⟨m, rfl⟩ .nil)
    clear hB kk hL nD
    rintro G ⟨ps, kvs, hD, hP, hQ, hB, kk, hL⟩
    rw [List.length_map, List.take_length] at hQ
    rw [List.length_map] at hB
    have hB := hB.mono (n' := n + 200) (by omega)
    refine ⟨D, ps, kvs, rfl, SqL.of hD.at_, pr_imp (fun _ _ z => SqT.of z) hP, fun VD nVD => ?_⟩
    have hkn : (kvs.map (·.1)).Nodup := by
      rw [keys_eq hQ]
      exact List.pairwise_map.mpr (ndz.imp fun ne e => ne (by injection e))
    rw [mergeK_new hkn]
    have hVb := hB.ne nVD
    have hVH : H VD = none := fresh_k kk hVb nVD
    have hLV : L ≠ VD := ne_of_none hL.at_.at_ nVD
    generalize e_G4 : upd _ VD _ = G4
    have s_VD := new_same e_G4 nVD
    have f_VD := new_at e_G4
    clear e_G4
    have hB := hB.mv s_VD
    have kk := kk.mv s_VD
    have hL := hL.mv s_VD
    clear hD hP hDb hDH hLD D s_VD
    dsimp only [gName, List.set]
    have hql := Paired.length hQ
    refine ⟨_, rfl, VD, _, rfl, .inl ⟨kvs, .inr Zr, f_VD, rfl, by rw [hql, sizeLine_eq]; omega, rfl⟩, ?_⟩
    have hV : ValD (upd G4 VD (.dK (putK kvs (.inr Zr) (.int 0)))) VD zs (wOf (putK kvs (.inr Zr) (.int 0))) := ⟨_, upd_same, wOf_at ndz hQ⟩
    generalize wOf (putK kvs (.inr Zr) (.int 0)) = wv at hV
    have kk := kept_upd (o := .dK (putK kvs (.inr Zr) (.int 0))) kk hVH
    have hL := hL.off (o := .dK (putK kvs (.inr Zr) (.int 0))) hLV
    have hB := hB.put (o := .dK (putK kvs (.inr Zr) (.int 0))) hVb
    generalize upd G4 VD (.dK (putK kvs (.inr Zr) (.int 0))) = G5 at kk hL hB hV ⊢
    clear f_VD hkn hQ hql hVH nVD kvs ps
    refine ⟨by decide, fun F0 nF => ?_⟩
    have hLF : L ≠ F0 := ne_of_none hL.at_.at_ nF
    have hVF : VD ≠ F0 := ne_of_none hV.choose_spec.1 nF
    have bl0 : ∀ G, Same G5 G → G F0 = some (.lst []) → BL b F0 H G [] [] (n + 200) := fun G s hF => BL.start hB kk nF s hF
    generalize e_G6 : upd _ F0 _ = G6
    have s_F0 := new_same e_G6 nF
    have f_F0 := new_at e_G6
    clear e_G6
    have hL := hL.mv s_F0
    have hV := hV.mv s_F0
    have bl := bl0 _ s_F0 f_F0
    clear bl0 hB kk s_F0 f_F0 nF
    refine ⟨_, rfl, b, _, 4, rfl, bl.bag, by omega, by decide, by decide, fun e1 G7 _ _ k7 hB7 => ⟨_, _, rfl, rfl, _, _, rfl, ?_⟩⟩
    have hL := hL.mb bl.bag k7.kept
    have hV := hV.mb bl.bag k7.kept
    have bl := bl.to k7.kept hB7
    clear k7 hB7
    dsimp only [gName, List.set]
    refine ⟨_, rfl, b, _, 17, rfl, bl.bag, by omega, by decide, by decide, fun e2 G8 e20 e21 k8 hB8 => ⟨_, rfl, by omega, by omega, ?_⟩⟩
    have hL := hL.mb bl.bag k8.kept
    have hV := hV.mb bl.bag k8.kept
    have bl := bl.to k8.kept hB8
    obtain ⟨tn, htn, htn16⟩ : ∃ tn : Nat, e2.toNat = tn ∧ tn ≤ 16 := ⟨_, rfl, by omega⟩
    rw [htn]
    clear k8 hB8
    refine for_it (walk_rng (n := tn)) (fun i σ G => ∃ w5 w6 w7 w8 w9 xs bs, σ = [some (.ref b), some (.ref L), some (.ref VD), some (.ref F0), some (.bl (decide (0 < e1))), w5, w6, w7, w8, w9] ∧ BL b F0 H G xs bs (n + 210 + 4 * i) ∧ NmL b L G zs ∧ ValD G VD zs wv ∧ bs.length ≤ i ∧ ∀ x ∈ bs, GoodB zs x)
      ⟨_, _, _, _, _, [], [], rfl, bl.le (by omega), hL, hV, Nat.le_refl _, fun _ z => nomatch z⟩ (fun _ _ _ _ _ => trivial) ?_ ?_
    · clear bl hL hV
      rintro i x σ G' G hi ⟨w5, w6, w7, w8, w9, xs, bs, rfl, bl, hL, hd, hbl, hgd⟩ ⟨rfl, rfl⟩
      dsimp only [gName, List.set]
      refine ⟨_, rfl, _, rfl, b, L, _, _, rfl, bl.bag, by omega, hL.at_.ne, SqL.of hL.at_.at_, (by rw [List.length_map]; have := hL.pos; omega), (by rw [List.length_map]; have := hL.len; omega), fun j1 v1 G1 hv1 k1 hB1 => ?_⟩
      have hL := hL.mb bl.bag k1.kept
      have hd := hd.mb bl.bag k1.kept
      have bl := bl.to k1.kept hB1
      obtain ⟨u, hu1, rfl⟩ := Option.map_eq_some_iff.mp ((List.getElem?_map ..).symm.trans hv1)
      refine ⟨_, rfl, _, rfl, b, L, _, _, rfl, bl.bag, by omega, hL.at_.ne, SqL.of hL.at_.at_, (by rw [List.length_map]; have := hL.pos; omega), (by rw [List.length_map]; have := hL.len; omega), fun j2 v2 G2 hv2 k2 hB2 => ?_⟩
      have hL := hL.mb bl.bag k2.kept
      have hd := hd.mb bl.bag k2.kept
      have bl := bl.to k2.kept hB2
      obtain ⟨v, hv1', rfl⟩ := Option.map_eq_some_iff.mp ((List.getElem?_map ..).symm.trans hv2)
      have um := List.mem_of_getElem? hu1
      have vm := List.mem_of_getElem? hv1'
      clear hv1 hv2 hu1 hv1' k1 k2 hB1 hB2
      refine ⟨_, rfl, _, rfl, _, _, rfl, rfl, ⟨by decide, by decide, by decide⟩, b, _, _, rfl, bl.bag, by omega, by decide, by decide, fun d1 G3 d10 d11 k3 hB3 => ?_⟩
      have hL := hL.mb bl.bag k3.kept
      have hd := hd.mb bl.bag k3.kept
      have bl := bl.to k3.kept hB3
      refine ⟨(by show 4 ≤ sizeLine; decide), fun L1 nL1 => ?_⟩
      have hL1b := bl.bag.ne nL1
      generalize e_G4 : upd _ L1 _ = G4
      have s_L1 := new_same e_G4 nL1
      have f_L1 := new_at e_G4
      clear e_G4
      have bl := bl.mv s_L1
      have hL := hL.mv s_L1
      have hd := hd.mv s_L1
      refine ⟨b, L1, _, _, rfl, bl.bag, by omega, hL1b, SqL.of f_L1, (by show 0 < 4; decide), (by show 4 ≤ 1000; decide), fun q vc G5 hvc k5 hB5 => ⟨_, _, _, rfl, ?_⟩⟩
      obtain ⟨c, rfl⟩ : ∃ c : Int, vc = .int c := by
        match q, hvc with
        | 0, e => exact ⟨_, (Option.some.inj e).symm⟩
        | 1, e => exact ⟨_, (Option.some.inj e).symm⟩
        | 2, e => exact ⟨_, (Option.some.inj e).symm⟩
        | 3, e => exact ⟨_, (Option.some.inj e).symm⟩
      have hL := hL.mb bl.bag k5.kept
      have hd := hd.mb bl.bag k5.kept
      have bl := bl.to k5.kept hB5
      clear f_L1 s_L1 nL1 hL1b hvc k3 k5 hB3 hB5 d10 d11
      dsimp only [List.set]
      refine ⟨_, rfl, _, rfl, rfl, _, rfl, ?_⟩
      by_cases huv : u = v
      · refine no (congrArg not (decide_eq_true (congrArg V.str huv))) ?_
        exact ⟨_, _, _, _, _, xs, bs, rfl, bl.le (by omega), hL, hd, by omega, hgd⟩
      · refine yes (congrArg not (decide_eq_false fun e => huv (by injection e))) ?_
        refine ⟨_, rfl, .inl ⟨rfl, _, SqL.of bl.fnd.at_⟩, _, rfl, _, rfl, _, rfl, _, rfl, _, rfl, ite2' (fun c0 => ?_) (fun c0 => ?_)⟩
        · refine ⟨_, rfl, _, rfl, VD, _, rfl, hd.get um, _, rfl, _, rfl, VD, _, rfl, hd.get vm, _, _, rfl, rfl, ?_⟩
          refine ⟨_, _, rfl, rfl, (by show 3 ≤ sizeLine; decide), fun T nT => ?_⟩
          generalize e_G6 : upd _ T _ = G6
          have s_T := new_same e_G6 nT
          have f_T := new_at e_G6
          clear e_G6
          have bl := bl.mv s_T
          have hL := hL.mv s_T
          have hd := hd.mv s_T
          have hxl := Paired.length bl.par
          have bl2 := bl.add f_T
          have hF := bl.fnd.at_
          refine ⟨F0, xs, _, rfl, rfl, hF, by rw [sizeLine_eq]; omega, _, _, _, _, _, _, _, rfl, bl2.le (by omega), hL.off hLF, hd.off hVF, ?_, ?_⟩
          · rw [List.length_append]; show bs.length + 1 ≤ _; omega
          · intro x hx
            rcases List.mem_append.mp hx with h | h
            · exact hgd x h
            · rw [List.mem_singleton.mp h]; exact ⟨um, vm, huv⟩
        · refine ⟨_, rfl, ?_⟩
          refine ⟨_, _, rfl, rfl, (by show 3 ≤ sizeLine; decide), fun T nT => ?_⟩
          generalize e_G6 : upd _ T _ = G6
          have s_T := new_same e_G6 nT
          have f_T := new_at e_G6
          clear e_G6
          have bl := bl.mv s_T
          have hL := hL.mv s_T
          have hd := hd.mv s_T
          have hxl := Paired.length bl.par
          have bl2 := bl.add f_T
          have hF := bl.fnd.at_
          refine ⟨F0, xs, _, rfl, rfl, hF, by rw [sizeLine_eq]; omega, _, _, _, _, _, _, _, rfl, bl2.le (by omega), hL.off hLF, hd.off hVF, ?_, ?_⟩
          · rw [List.length_append]; show bs.length + 1 ≤ _; omega
          · intro x hx
            rcases List.mem_append.mp hx with h | h
            · exact hgd x h
            · rw [List.mem_singleton.mp h]; exact ⟨um, vm, huv⟩
    · rintro σ G ⟨w5, w6, w7, w8, w9, xs, bs, rfl, bl, hL, hd, hbl, hgd⟩
      exact ⟨_, rfl, k F0 xs bs G (bl.le (by omega)) (by omega) hgd⟩
end
end K31

set_option Elab.async false
set_option maxRecDepth 100000
set_option maxHeartbeats 1000000
/-! The shortest roads between names, relaxed in place; what they tell of bounds. No Lean of the program. -/
namespace Sol
open PySem
abbrev DM := Str → Str → Option Int
def setD (D : DM) (u v : Str) (x : Option Int) : DM := fun a b => if a = u ∧ b = v then x else D a b
def minO (a : Option Int) (b : Int) : Option Int := some (match a with | none => b | some x => if b < x then b else x)
/-- one road by way of p -/
def rlx (p : Str) (D : DM) (q : Str × Str) : DM := match D q.1 p, D p q.2 with
  | some a, some b => setD D q.1 q.2 (minO (D q.1 q.2) (a + b))
  | _, _ => D
def prs (ns : List Str) : List (Str × Str) := ns.flatMap fun u => ns.map fun v => (u, v)
def phase (ps : List (Str × Str)) (D : DM) (p : Str) : DM := ps.foldl (rlx p) D
def fw (ns : List Str) (D : DM) : DM := ns.foldl (phase (prs ns)) D
def d0 (Z : Str) : DM := fun u v => if u = v ∨ u = Z then some 0 else none
def addB (D : DM) (b : B) : DM := setD D b.1 b.2.1 (minO (D b.1 b.2.1) b.2.2)
def roads (Z : Str) (ns : List Str) (bs : List B) : DM := fw ns (bs.foldl addB (d0 Z))
theorem prs_mem {ns : List Str} {u v : Str} : (u, v) ∈ prs ns ↔ u ∈ ns ∧ v ∈ ns := by
  unfold prs
  rw [List.mem_flatMap]
  constructor
  · rintro ⟨a, ha, h⟩
    obtain ⟨b, hb, e⟩ := List.mem_map.mp h
    cases e
    exact ⟨ha, hb⟩
  · rintro ⟨h1, h2⟩
    exact ⟨u, h1, List.mem_map.mpr ⟨v, h2, rfl⟩⟩
theorem minO_le {a : Option Int} {b x : Int} (h : minO a b = some x) : x ≤ b ∧ ∀ y, a = some y → x ≤ y := by
  unfold minO at h
  have h := Option.some.inj h
  subst h
  cases a with
  | none => exact ⟨Int.le_refl _, fun y e => nomatch e⟩
  | some z =>
    refine ⟨?_, fun y e => ?_⟩
    · dsimp only; split <;> omega
    · cases e; dsimp only; split <;> omega
theorem minO_ge {a : Option Int} {b w : Int} (h1 : w ≤ b) (h2 : ∀ y, a = some y → w ≤ y) : ∀ x, minO a b = some x → w ≤ x := by
  intro x h
  unfold minO at h
  have h := Option.some.inj h
  subst h
  cases a with
  | none => exact h1
  | some z =>
    have := h2 z rfl
    dsimp only
    split <;> omega
theorem set_same {D : DM} {u v : Str} {x : Option Int} : setD D u v x u v = x := by unfold setD; rw [if_pos ⟨rfl, rfl⟩]
theorem set_ne {D : DM} {u v a b : Str} {x : Option Int} (h : ¬ (a = u ∧ b = v)) : setD D u v x a b = D a b := by unfold setD; rw [if_neg h]
/-- what holds of all roads as long as it holds of sums -/
def Snd (w : Str → Int) (D : DM) : Prop := ∀ u v x, D u v = some x → w u - w v ≤ x
theorem Snd.set {w : Str → Int} {D : DM} {u v : Str} {b : Int} (h : Snd w D) (hb : w u - w v ≤ b) : Snd w (setD D u v (minO (D u v) b)) := by
  intro a c x e
  by_cases q : a = u ∧ c = v
  · obtain ⟨rfl, rfl⟩ := q
    rw [set_same] at e
    exact minO_ge hb (fun y hy => h _ _ _ hy) x e
  · rw [set_ne q] at e
    exact h _ _ _ e
theorem Snd.rlx {w : Str → Int} {D : DM} {p : Str} {q : Str × Str} (h : Snd w D) : Snd w (rlx p D q) := by
  unfold Sol.rlx
  split
  · rename_i a b h1 h2
    have := h _ _ _ h1
    have := h _ _ _ h2
    exact h.set (by omega)
  · exact h
theorem foldl_inv {α β : Type} {I : β → Prop} {f : β → α → β} (hf : ∀ s a, I s → I (f s a)) : ∀ (l : List α) (s : β), I s → I (l.foldl f s)
  | [], _, h => h
  | a :: r, s, h => foldl_inv hf r _ (hf s a h)
theorem foldl_inv2 {α β : Type} {I : β → Prop} {f : β → α → β} : ∀ (l : List α) (s : β), (∀ s, ∀ a ∈ l, I s → I (f s a)) → I s → I (l.foldl f s)
  | [], _, _, h => h
  | a :: r, s, hf, h => foldl_inv2 r _ (fun s b hb => hf s b (List.mem_cons_of_mem _ hb)) (hf s a List.mem_cons_self h)
theorem snd_roads {Z : Str} {ns : List Str} {bs : List B} {w : Str → Int} (hz : w Z = 0) (hp : ∀ x, 0 ≤ w x) (hw : ∀ b ∈ bs, w b.1 - b.2.2 ≤ w b.2.1) : Snd w (roads Z ns bs) := by
  unfold roads fw
  refine foldl_inv (fun D p h => foldl_inv (fun D q h => h.rlx) _ _ h) _ _ ?_
  refine foldl_inv2 _ _ (fun D b hb h => h.set (by have := hw b hb; omega)) ?_
  intro u v x e
  unfold d0 at e
  split at e
  · cases e
    rename_i c
    rcases c with rfl | rfl
    · omega
    · have := hp v; omega
  · cases e
/-- roads only get shorter -/
def Le (D D' : DM) : Prop := ∀ u v x, D u v = some x → ∃ y, D' u v = some y ∧ y ≤ x
theorem Le.refl (D : DM) : Le D D := fun _ _ x e => ⟨x, e, Int.le_refl _⟩
theorem Le.trans {D D' D'' : DM} (h : Le D D') (k : Le D' D'') : Le D D'' := fun u v x e => by
  obtain ⟨y, e1, l1⟩ := h u v x e
  obtain ⟨z, e2, l2⟩ := k u v y e1
  exact ⟨z, e2, by omega⟩
theorem le_set {D : DM} {u v : Str} {b : Int} : Le D (setD D u v (minO (D u v) b)) := fun a c x e => by
  by_cases q : a = u ∧ c = v
  · obtain ⟨rfl, rfl⟩ := q
    rw [set_same]
    obtain ⟨y, hy⟩ : ∃ y, minO (D a c) b = some y := ⟨_, rfl⟩
    exact ⟨y, hy, (minO_le hy).2 x e⟩
  · rw [set_ne q]
    exact ⟨x, e, Int.le_refl _⟩
theorem le_rlx {p : Str} {D : DM} {q : Str × Str} : Le D (rlx p D q) := by
  unfold rlx
  split
  · exact le_set
  · exact Le.refl D
theorem le_phase (ps : List (Str × Str)) (D : DM) (p : Str) : Le D (phase ps D p) := by
  unfold phase
  exact foldl_inv (I := Le D) (fun s a h => h.trans le_rlx) ps D (Le.refl D)
theorem le_fold (ps : List (Str × Str)) (l : List Str) (D : DM) : Le D (l.foldl (phase ps) D) := foldl_inv (I := Le D) (fun s a h => h.trans (le_phase ps s a)) l D (Le.refl D)
/-- the road by way of p, at once -/
def viaP (D : DM) (p u v : Str) : Option Int := match D u p, D p v with
  | some a, some b => minO (D u v) (a + b)
  | _, _ => D u v
theorem via_row {D : DM} {p v : Str} (h : D p p = some 0) : viaP D p p v = D p v := by
  unfold viaP
  rw [h]
  cases e : D p v with
  | none => rfl
  | some x => show minO (some x) (0 + x) = some x; unfold minO; dsimp only; rw [if_neg (by omega)]
theorem via_col {D : DM} {p u : Str} (h : D p p = some 0) : viaP D p u p = D u p := by
  unfold viaP
  rw [h]
  cases e : D u p with
  | none => rfl
  | some x => show minO (some x) (x + 0) = some x; unfold minO; dsimp only; rw [if_neg (by omega)]
theorem phase_at {p : Str} {D : DM} (h : D p p = some 0) : ∀ (ps done : List (Str × Str)) (E : DM), (∀ u v, E u v = if (u, v) ∈ done then viaP D p u v else D u v) → ∀ u v, (ps.foldl (rlx p) E) u v = if (u, v) ∈ done ++ ps then viaP D p u v else D u v
  | [], done, E, hE, u, v => by rw [List.append_nil]; exact hE u v
  | q :: ps, done, E, hE, u, v => by
    have row : ∀ v, E p v = D p v := fun v => by rw [hE]; split <;> first | exact via_row h | rfl
    have col : ∀ u, E u p = D u p := fun u => by rw [hE]; split <;> first | exact via_col h | rfl
    have := phase_at h ps (done ++ [q]) (rlx p E q) (fun a b => ?_) u v
    · rw [List.append_assoc] at this
      exact this
    · obtain ⟨q1, q2⟩ := q
      have key : rlx p E (q1, q2) a b = if a = q1 ∧ b = q2 then viaP D p q1 q2 else E a b := by
        unfold rlx
        dsimp only
        rw [col q1, row q2]
        by_cases c : a = q1 ∧ b = q2
        · obtain ⟨rfl, rfl⟩ := c
          rw [if_pos ⟨rfl, rfl⟩]
          have e1 : E a b = D a b ∨ E a b = viaP D p a b := by rw [hE]; split <;> first | exact .inr rfl | exact .inl rfl
          unfold viaP at e1 ⊢
          cases h1 : D a p with
          | none => rw [h1] at e1; rcases e1 with e | e <;> exact e
          | some x =>
            cases h2 : D p b with
            | none => rw [h1, h2] at e1; rcases e1 with e | e <;> exact e
            | some y =>
              rw [h1, h2] at e1
              show setD E a b (minO (E a b) (x + y)) a b = minO (D a b) (x + y)
              rw [set_same]
              rcases e1 with e | e
              · rw [e]
              · rw [e]
                dsimp only
                unfold minO
                cases D a b with
                | none => dsimp only; rw [if_neg (by omega)]
                | some z => dsimp only; congr 1; split <;> (try split) <;> omega
        · rw [if_neg c]
          cases D q1 p <;> cases D p q2 <;> first | rfl | exact set_ne c
      rw [key, hE]
      by_cases c : a = q1 ∧ b = q2
      · obtain ⟨rfl, rfl⟩ := c
        rw [if_pos ⟨rfl, rfl⟩, if_pos (List.mem_append.mpr (.inr List.mem_cons_self))]
      · rw [if_neg c]
        by_cases m : (a, b) ∈ done
        · rw [if_pos m, if_pos (List.mem_append.mpr (.inl m))]
        · rw [if_neg m, if_neg fun z => (List.mem_append.mp z).elim m fun z => c (by have := List.mem_singleton.mp z; cases this; exact ⟨rfl, rfl⟩)]
/-- no road by way of a name of S is shorter -/
def Cl (ns S : List Str) (D : DM) : Prop := ∀ u ∈ ns, ∀ v ∈ ns, ∀ m ∈ S, ∀ a b, D u m = some a → D m v = some b → ∃ x, D u v = some x ∧ x ≤ a + b
theorem cl_phase {ns S : List Str} {D : DM} {p : Str} (hp : p ∈ ns) (hS : ∀ m ∈ S, m ∈ ns) (h : D p p = some 0) (hc : Cl ns S D) : Cl ns (p :: S) (phase (prs ns) D p) := by
  have at_ : ∀ u ∈ ns, ∀ v ∈ ns, phase (prs ns) D p u v = viaP D p u v := fun u hu v hv => by
    have := phase_at h (prs ns) [] D (fun u v => by rw [if_neg (by simp)]) u v
    unfold phase
    rw [this, if_pos (by rw [List.nil_append]; exact prs_mem.mpr ⟨hu, hv⟩)]
  have lev : ∀ u v x, D u v = some x → ∃ y, viaP D p u v = some y ∧ y ≤ x := fun u v x e => by
    unfold viaP
    split
    · rename_i a b h1 h2
      obtain ⟨y, hy⟩ : ∃ y, minO (D u v) (a + b) = some y := ⟨_, rfl⟩
      exact ⟨y, hy, (minO_le hy).2 x e⟩
    · exact ⟨x, e, Int.le_refl _⟩
  have lep : ∀ u v a b, D u p = some a → D p v = some b → ∃ y, viaP D p u v = some y ∧ y ≤ a + b := fun u v a b e1 e2 => by
    unfold viaP
    rw [e1, e2]
    obtain ⟨y, hy⟩ : ∃ y, minO (D u v) (a + b) = some y := ⟨_, rfl⟩
    exact ⟨y, hy, (minO_le hy).1⟩
  have inv : ∀ u v x, viaP D p u v = some x → D u v = some x ∨ ∃ a b, D u p = some a ∧ D p v = some b ∧ x = a + b := fun u v x e => by
    unfold viaP at e
    split at e
    · rename_i a b h1 h2
      unfold minO at e
      have e := Option.some.inj e
      cases h3 : D u v with
      | none => rw [h3] at e; exact .inr ⟨a, b, h1, h2, e.symm⟩
      | some z =>
        rw [h3] at e
        dsimp only at e
        split at e
        · exact .inr ⟨a, b, h1, h2, e.symm⟩
        · exact .inl (by rw [← e])
    · exact .inl e
  intro u hu v hv m hm a b e1 e2
  rw [at_ u hu v hv]
  have hmn : m ∈ ns := (List.mem_cons.mp hm).elim (fun e => e ▸ hp) (hS m)
  rw [at_ u hu m hmn] at e1
  rw [at_ m hmn v hv] at e2
  rcases List.mem_cons.mp hm with rfl | hm
  · rw [via_col h] at e1
    rw [via_row h] at e2
    exact lep u v a b e1 e2
  · rcases inv _ _ _ e1 with e1 | ⟨a1, a2, f1, f2, rfl⟩
    · rcases inv _ _ _ e2 with e2 | ⟨b1, b2, g1, g2, rfl⟩
      · obtain ⟨x, hx, lx⟩ := hc u hu v hv m hm a b e1 e2
        obtain ⟨y, hy, ly⟩ := lev u v x hx
        exact ⟨y, hy, by omega⟩
      · obtain ⟨x, hx, lx⟩ := hc u hu p hp m hm a b1 e1 g1
        obtain ⟨y, hy, ly⟩ := lep u v x b2 hx g2
        exact ⟨y, hy, by omega⟩
    · rcases inv _ _ _ e2 with e2 | ⟨b1, b2, g1, g2, rfl⟩
      · obtain ⟨x, hx, lx⟩ := hc p hp v hv m hm a2 b f2 e2
        obtain ⟨y, hy, ly⟩ := lep u v a1 x f1 hx
        exact ⟨y, hy, by omega⟩
      · obtain ⟨x, hx, lx⟩ := hc p hp p hp m hm a2 b1 f2 g1
        rw [h] at hx
        cases hx
        obtain ⟨y, hy, ly⟩ := lep u v a1 b2 f1 g2
        exact ⟨y, hy, by omega⟩
theorem cl_fw {ns : List Str} : ∀ (l S : List Str) (D : DM), (∀ m ∈ l, m ∈ ns) → (∀ m ∈ S, m ∈ ns) → (∀ m ∈ ns, ∃ x, D m m = some x ∧ x ≤ 0) → (∀ m ∈ ns, (l.foldl (phase (prs ns)) D) m m = some 0) → Cl ns S D → Cl ns (l.reverse ++ S) (l.foldl (phase (prs ns)) D)
  | [], S, D, _, _, _, _, hc => hc
  | p :: l, S, D, hl, hS, h0, hz, hc => by
    have hp := hl p List.mem_cons_self
    have hpp : D p p = some 0 := by
      obtain ⟨x, hx, lx⟩ := h0 p hp
      obtain ⟨y, hy, ly⟩ := le_fold (prs ns) (p :: l) D p p x hx
      rw [hz p hp] at hy
      cases hy
      rw [hx]
      congr 1
      omega
    have := cl_fw l (p :: S) (phase (prs ns) D p) (fun m hm => hl m (List.mem_cons_of_mem _ hm)) (fun m hm => (List.mem_cons.mp hm).elim (fun e => e ▸ hp) (hS m)) (fun m hm => by
      obtain ⟨x, hx, lx⟩ := h0 m hm
      obtain ⟨y, hy, ly⟩ := le_phase (prs ns) D p m m x hx
      exact ⟨y, hy, by omega⟩) hz (cl_phase hp hS hpp hc)
    rw [List.reverse_cons, List.append_assoc]
    exact this
theorem le_addB (l : List B) (D : DM) : Le D (l.foldl addB D) := foldl_inv (I := Le D) (fun s a h => h.trans le_set) l D (Le.refl D)
theorem addB_at : ∀ (l : List B) (D : DM) (b : B), b ∈ l → ∃ x, (l.foldl addB D) b.1 b.2.1 = some x ∧ x ≤ b.2.2
  | [], _, _, h => nomatch h
  | c :: l, D, b, h => by
    rcases List.mem_cons.mp h with rfl | h
    · obtain ⟨y, hy⟩ : ∃ y, minO (D b.1 b.2.1) b.2.2 = some y := ⟨_, rfl⟩
      obtain ⟨x, hx, lx⟩ := le_addB l (addB D b) b.1 b.2.1 y (by unfold addB; rw [set_same]; exact hy)
      have := (minO_le hy).1
      exact ⟨x, hx, by omega⟩
    · exact addB_at l _ b h
/-- what the roads are where no name has a road to itself below 0 -/
structure Good (Z : Str) (ns : List Str) (bs : List B) (D : DM) : Prop where
  self : ∀ m ∈ ns, D m m = some 0
  tri : ∀ u ∈ ns, ∀ v ∈ ns, ∀ m ∈ ns, ∀ a b, D u m = some a → D m v = some b → ∃ x, D u v = some x ∧ x ≤ a + b
  zero : ∀ x, ∃ y, D Z x = some y ∧ y ≤ 0
  own : ∀ b ∈ bs, ∃ x, D b.1 b.2.1 = some x ∧ x ≤ b.2.2
theorem good_of {Z : Str} {ns : List Str} {bs : List B} (h : ∀ m ∈ ns, roads Z ns bs m m = some 0) : Good Z ns bs (roads Z ns bs) := by
  have l1 := le_addB bs (d0 Z)
  have l2 := le_fold (prs ns) ns (bs.foldl addB (d0 Z))
  refine ⟨h, ?_, fun x => ?_, fun b hb => ?_⟩
  · have := cl_fw (ns := ns) ns [] (bs.foldl addB (d0 Z)) (fun m hm => hm) (fun _ z => nomatch z) (fun m hm => ?_) h (fun _ _ _ _ _ z => nomatch z)
    · intro u hu v hv m hm a b e1 e2
      exact this u hu v hv m (List.mem_append.mpr (.inl (List.mem_reverse.mpr hm))) a b e1 e2
    · obtain ⟨x, hx, lx⟩ := l1 m m 0 (by unfold d0; rw [if_pos (.inl rfl)])
      exact ⟨x, hx, lx⟩
  · exact (l1.trans l2) Z x 0 (by unfold d0; rw [if_pos (.inr rfl)])
  · obtain ⟨x, hx, lx⟩ := addB_at bs (d0 Z) b hb
    obtain ⟨y, hy, ly⟩ := l2 _ _ _ hx
    exact ⟨y, hy, by omega⟩
/-- a solution where the roads are good -/
def wG (Z : Str) (D : DM) (x : Str) : Int := -(D Z x).getD 0
theorem Good.sol {Z : Str} {ns : List Str} {bs : List B} {D : DM} (g : Good Z ns bs D) (hZ : Z ∈ ns) (hb : ∀ b ∈ bs, b.1 ∈ ns ∧ b.2.1 ∈ ns) : wG Z D Z = 0 ∧ (∀ x, 0 ≤ wG Z D x) ∧ ∀ b ∈ bs, wG Z D b.1 - b.2.2 ≤ wG Z D b.2.1 := by
  refine ⟨?_, fun x => ?_, fun b h => ?_⟩
  · unfold wG; rw [g.self Z hZ]; rfl
  · obtain ⟨y, hy, ly⟩ := g.zero x
    unfold wG; rw [hy]; show 0 ≤ -y; omega
  · obtain ⟨y1, h1, _⟩ := g.zero b.1
    obtain ⟨x, hx, lx⟩ := g.own b h
    obtain ⟨y2, h2, l2⟩ := g.tri Z hZ b.2.1 (hb b h).2 b.1 (hb b h).1 y1 x h1 hx
    unfold wG
    rw [h1, h2]
    show -y1 - b.2.2 ≤ -y2
    omega
/-- a solution in which a bound that does not follow is broken -/
def wN (Z : Str) (D : DM) (u v : Str) (c : Int) (x : Str) : Int := match D u x with
  | some e => if wG Z D x < c + 1 + wG Z D v - e then c + 1 + wG Z D v - e else wG Z D x
  | none => wG Z D x
theorem Good.not {Z : Str} {ns : List Str} {bs : List B} {D : DM} (g : Good Z ns bs D) (hZ : Z ∈ ns) (hb : ∀ b ∈ bs, b.1 ∈ ns ∧ b.2.1 ∈ ns) {u v : Str} {c : Int} (hu : u ∈ ns) (hv : v ∈ ns) (hc : ∀ x, D u v = some x → c < x) :
    wN Z D u v c Z = 0 ∧ (∀ x, 0 ≤ wN Z D u v c x) ∧ (∀ b ∈ bs, wN Z D u v c b.1 - b.2.2 ≤ wN Z D u v c b.2.1) ∧ wN Z D u v c v + c + 1 ≤ wN Z D u v c u := by
  obtain ⟨s1, s2, s3⟩ := g.sol hZ hb
  have gz : ∀ x, D Z x = some (-wG Z D x) := fun x => by
    obtain ⟨y, hy, _⟩ := g.zero x
    unfold wG
    rw [hy]
    show _ = some (- -y)
    congr 1
    omega
  have ge : ∀ x, wG Z D x ≤ wN Z D u v c x := fun x => by
    unfold wN
    split
    · split <;> omega
    · exact Int.le_refl _
  have ge2 : ∀ x e, D u x = some e → c + 1 + wG Z D v - e ≤ wN Z D u v c x := fun x e h => by
    unfold wN
    rw [h]
    dsimp only
    split <;> omega
  have up : ∀ x, wN Z D u v c x = wG Z D x ∨ ∃ e, D u x = some e ∧ wN Z D u v c x = c + 1 + wG Z D v - e := fun x => by
    unfold wN
    split
    · rename_i e h
      split
      · exact .inr ⟨e, h, rfl⟩
      · exact .inl rfl
    · exact .inl rfl
  refine ⟨?_, fun x => ?_, fun b h => ?_, ?_⟩
  · rcases up Z with e | ⟨e, h1, h2⟩
    · rw [e]; exact s1
    · obtain ⟨x, hx, lx⟩ := g.tri u hu v hv Z hZ e _ h1 (gz v)
      have := hc x hx
      have := ge Z
      omega
  · have := ge x
    have := s2 x
    omega
  · rcases up b.1 with e | ⟨e, h1, h2⟩
    · rw [e]
      have := s3 b h
      have := ge b.2.1
      omega
    · obtain ⟨x, hx, lx⟩ := g.own b h
      obtain ⟨y, hy, ly⟩ := g.tri u hu b.2.1 (hb b h).2 b.1 (hb b h).1 e x h1 hx
      have := ge2 b.2.1 y hy
      omega
  · have h1 := ge2 u 0 (g.self u hu)
    rcases up v with e | ⟨e, h3, h2⟩
    · omega
    · have := hc e h3
      have := ge v
      omega
end Sol

set_option Elab.async false
set_option maxRecDepth 100000
set_option maxHeartbeats 2000000
/-! dict(xs) of pairs whose keys are tuples of texts and whole numbers. -/
namespace KX
open PySem PySem.Spec PySem.Calls PyProof.Rows L2
/-- pairs at ps, each of a key's tuple and a value -/
def PrT (H : Hp) (p : Addr) (kv : List Key × V) : Prop := ∃ b, H p = some (.tup [.ref b, kv.2]) ∧ H b = some (.tup (kv.1.map kV))
section
variable {X : Cx}
theorem prs_ofT {pins : List (Addr × Obj)} {σ : L2.St} {H : Hp} {s : Shared} (I : Inv X pins σ H s) : ∀ {ps : List Addr} {kvs : List (List Key × V)}, Paired (PrT H) ps kvs →
    ∃ prs : List (List Key × Addr × Value), KT H kvs prs ∧ prs.length = ps.length ∧ ∀ (j : Nat) (q : List Key × Addr × Value), prs[j]? = some q → ∃ b : Addr, ps[j]? = some b ∧ s.heap.IsTuple b #[.ref q.2.1, q.2.2]
  | _, _, .nil => ⟨[], .nil, rfl, fun j q e => by simp at e⟩
  | _, _, .cons (a := p) (b := kv) h t => by
    obtain ⟨prs, r, hl, hp⟩ := prs_ofT I t
    obtain ⟨b, h1, h2⟩ := h
    obtain ⟨_, its, rv, o, g1, g2, n, g3⟩ := (show ObjOk X.prog X.w H s.heap p (.tup [.ref b, kv.2]) from I.hok p _ h1)
    obtain ⟨u, y, ei, ru, ry⟩ := vals2 rv
    subst ei
    obtain rfl : u = Value.ref b := ru
    refine ⟨(kv.1, b, y) :: prs, .cons ⟨rfl, h2, ry⟩ r, by rw [List.length_cons, List.length_cons, hl], fun j q e => ?_⟩
    cases j with
    | zero =>
      have e' : (kv.1, b, y) = q := Option.some.inj e
      subst e'
      exact ⟨p, rfl, o, g1, g2, n, g3⟩
    | succ j =>
      obtain ⟨b, e1, e2⟩ := hp j q (by simpa using e)
      exact ⟨b, by simpa using e1, e2⟩
theorem call_dictT (hcalm : X.calm = true) (hu : X.A.units + 2 < cLine) : CallR X (.type "dict") (fun xs H Q => ∃ (a : Addr) (ps : List Addr) (kvs : List (List Key × V)), xs = [.ref a] ∧ H a = some (.lst (ps.map V.ref)) ∧ Paired (PrT H) ps kvs ∧ (kvs.map (·.1)).Nodup ∧
    ∀ p, H p = none → Q (.ref p) (upd H p (.dT kvs))) := by
  intro pins s σ H xs us Q I r q
  obtain ⟨a, ps, kvs, ex, hq, hp, hnd, q⟩ := q
  subst ex
  obtain ⟨u, eu, rx⟩ := vals1 r
  subst eu
  cases rx
  obtain ⟨its, rv, pl, hz⟩ := I.list (SqL.of hq)
  have ei := refs_at rv
  subst ei
  rw [List.length_map] at hz
  obtain ⟨prs, rel, hl, hpr⟩ := prs_ofT I hp
  obtain ⟨o, n, ho, hc, hd, hdat⟩ := pl
  have kstay : PySem.KeysStay (tupleKind (mixKind X.prog X.w)) s.heap s.heap.objs.size [] prs := by
    intro h' hk x hx
    have all : ∀ {l : List (List Key × V)} {m : List (List Key × Addr × Value)}, KT H l m → ∀ x ∈ m, H x.2.1 = some (.tup (x.1.map kV)) := by
      intro l m q
      induction q with
      | nil => intro x hx; exact nomatch hx
      | @cons p q ps qs hq t ih =>
        intro x hx
        rcases List.mem_cons.mp hx with e | hx
        · subst e
          rw [← hq.1]
          exact hq.2.1
        · exact ih x hx
    obtain ⟨o, its, n, g1, g2, g3, g4⟩ := key_of I.hok (all rel x hx)
    exact ⟨o, its, n, hk _ _ (Nat.ne_of_lt (Heap.lt_size g1)) (fun z => nomatch z) g1, g2, g3, g4⟩
  refine PySem.call_dict_pairsH (knd := tupleKind (mixKind X.prog X.w)) (ps := prs) (PySem.PairArg.list a _ (fun j => ps[j]?.getD 0) (prs.map fun q => (Value.ref q.2.1, q.2.2))) (I.ok.hd hcalm) (tupleKind_room_in1 (A := X.A.in1) (by show X.A.units + 1 + 1 < cLine; omega)) ⟨⟨o, n, ho, hc, hd, hdat⟩, ?_⟩ ?_ kstay ?_ fun h' tk hd' k => ?_
  · refine ⟨by simp [hl], fun j k v e => ?_⟩
    rw [List.getElem?_map] at e
    obtain ⟨q', e1, e2⟩ := Option.map_eq_some_iff.mp e
    cases e2
    obtain ⟨b, e3, e4⟩ := hpr j q' e1
    exact ⟨by simp [e3], by show PairAt _ (ps[j]?.getD 0) _ _; rw [e3]; exact .inl e4⟩
  · refine ⟨by rw [List.length_map], fun i key v e => ?_⟩
    have e : (prs.map fun q => (Value.ref q.2.1, q.2.2))[i]? = some (key, v) := e
    rw [List.getElem?_map] at e
    obtain ⟨q', e1, e2⟩ := Option.map_eq_some_iff.mp e
    cases e2
    exact ⟨q'.1, q'.2.1, e1, rfl⟩
  · rw [List.length_map, hl]
    exact hz
  · have hm : (s.heap.objs.size == sysModules) = false := beq_eq_false_iff_ne.mpr (Nat.ne_of_gt I.big)
    have ek : prs.map (·.1) = kvs.map (·.1) := by
      have : ∀ {l : List (List Key × V)} {m : List (List Key × Addr × Value)}, KT H l m → m.map (·.1) = l.map (·.1) := by
        intro l m q
        induction q with
        | nil => rfl
        | cons h _ ih => rw [List.map_cons, List.map_cons, ih, h.1]
      exact this rel
    rw [PySem.storedAllH_nil_of_nodup prs (by rw [ek]; exact hnd)] at hd'
    obtain ⟨od, es, ep, h1, h2, h3, h4, _, h5⟩ := hd'
    have hlen : kvs.length ≤ sizeLine := by
      rw [Paired.length rel, hl]
      exact hz
    have hn := I.hok.fresh (P := X.prog) (w := X.w) (Nat.le_refl s.heap.objs.size)
    refine ⟨.ref s.heap.objs.size, upd H s.heap.objs.size (.dT kvs), I.laid (t' := tk) (fun b o e => k b o (fun z => nomatch z) e) (Nat.le_refl _) ⟨hlen, hm, prs, ?_, od, es, ep, h1, h2, h3, h4, h5⟩, rfl, q _ hn⟩
    exact rel.keeps fun b ys e => (upd_ne (ne_of_none e hn)).trans e
end
end KX

set_option Elab.async false
set_option maxRecDepth 100000
set_option maxHeartbeats 2000000
namespace K31
open PySem PySem.Spec PyProof.Rows L2 He KX Sol
abbrev sLPrs : Stmt := top 22
abbrev sLRds : Stmt := top 21
/-- a pair of names at x -/
def PAt (G : Hp) (x : V) (q : Str × Str) : Prop := ∃ T, x = .ref T ∧ G T = some (.tup [.str q.1, .str q.2])
theorem PAt.mv {G G' : Hp} {x : V} {q : Str × Str} (h : PAt G x q) (s : Same G G') : PAt G' x q := h.imp fun _ h => ⟨h.1, s _ _ h.2⟩
def optV : Option Int → V
  | none => .non
  | some i => .int i
theorem optV_flat (o : Option Int) : flatV (optV o) = true := by cases o <;> rfl
/-- the dict of roads -/
def bestK (D : DM) (ps : List (Str × Str)) : List (List Key × V) := ps.map fun q => ([.inr q.1, .inr q.2], optV (D q.1 q.2))
theorem best_get {D : DM} {u v : Str} : ∀ {ps : List (Str × Str)}, (u, v) ∈ ps → valV (bestK D ps) [.inr u, .inr v] = some (optV (D u v))
  | [], h => nomatch h
  | q :: ps, h => by
    show ((List.find? _ (_ :: bestK D ps)).map (·.2)) = _
    rw [List.find?_cons]
    by_cases c : q = (u, v)
    · subst c
      rw [show decide (([.inr (u, v).1, .inr (u, v).2] : List Key) = [.inr u, .inr v]) = true from decide_eq_true rfl]
      rfl
    · rw [show decide (([.inr q.1, .inr q.2] : List Key) = [.inr u, .inr v]) = false from decide_eq_false fun e => c (by
        injection e with e1 e2
        injection e2 with e2
        injection e1 with e1
        injection e2 with e2
        exact Prod.ext e1 e2)]
      exact best_get ((List.mem_cons.mp h).resolve_left fun e => c e.symm)
theorem best_put {D : DM} {u v : Str} {x : Option Int} {ps : List (Str × Str)} (h : (u, v) ∈ ps) : putK (bestK D ps) [.inr u, .inr v] (optV x) = bestK (setD D u v x) ps := by
  have hany : ((bestK D ps).any fun kv => decide (kv.1 = ([.inr u, .inr v] : List Key))) = true := List.any_eq_true.mpr ⟨_, List.mem_map.mpr ⟨(u, v), h, rfl⟩, decide_eq_true rfl⟩
  unfold putK
  rw [hany, if_pos rfl]
  unfold bestK
  rw [List.map_map]
  refine List.map_congr_left fun q _ => ?_
  show (if ([.inr q.1, .inr q.2] : List Key) = [.inr u, .inr v] then _ else _) = _
  by_cases c : q = (u, v)
  · subst c
    rw [if_pos rfl, set_same]
  · rw [if_neg fun e => c (by
      injection e with e1 e2
      injection e2 with e2
      injection e1 with e1
      injection e2 with e2
      exact Prod.ext e1 e2), set_ne fun e => c (Prod.ext e.1 e.2)]
theorem bget {G : Hp} {B T : Addr} {D : DM} {ps : List (Str × Str)} {u v : Str} (hB : G B = some (.dT (bestK D ps))) (hT : G T = some (.tup [.str u, .str v])) (h : (u, v) ∈ ps) : DGet G B (.ref T) (some (optV (D u v))) := .inr ⟨_, [.inr u, .inr v], T, .inl hB, rfl, hT, (best_get h).symm⟩
def prsU (ns l : List Str) : List (Str × Str) := l.flatMap fun u => ns.map fun v => (u, v)
theorem prs_nodup {ns : List Str} (h : ns.Nodup) : (prs ns).Nodup := by
  have : ∀ l : List Str, l.Nodup → (prsU ns l).Nodup := by
    intro l
    induction l with
    | nil => intro _; exact List.nodup_nil
    | cons u r ih =>
      intro hl
      obtain ⟨h1, h2⟩ := List.nodup_cons.mp hl
      show ((ns.map fun v => (u, v)) ++ prsU ns r).Nodup
      refine List.nodup_append.mpr ⟨List.pairwise_map.mpr (h.imp fun ne e => ne (by injection e)), ih h2, fun a ha b hb e => ?_⟩
      obtain ⟨v, _, rfl⟩ := List.mem_map.mp ha
      obtain ⟨u2, hu2, hb2⟩ := List.mem_flatMap.mp hb
      obtain ⟨v2, _, rfl⟩ := List.mem_map.mp hb2
      injection e with e1 _
      exact h1 (e1 ▸ hu2)
  exact this ns h
theorem prs_len {ns : List Str} (h : ns.length ≤ 20) : (prs ns).length ≤ 400 := by
  have : ∀ l : List Str, (prsU ns l).length = l.length * ns.length := fun l => by
    unfold prsU
    induction l with
    | nil => simp
    | cons a r ih => rw [List.flatMap_cons, List.length_append, ih, List.length_map, List.length_cons, Nat.succ_mul]; omega
  show (prsU ns ns).length ≤ _
  rw [this]
  exact Nat.mul_le_mul h h
theorem best_nodup {D : DM} {ps : List (Str × Str)} (h : ps.Nodup) : ((bestK D ps).map (·.1)).Nodup := by
  unfold bestK
  rw [List.map_map]
  exact List.pairwise_map.mpr (h.imp fun ne e => ne (by
    have e : ([.inr _, .inr _] : List Key) = [.inr _, .inr _] := e
    injection e with e1 e2
    injection e2 with e2
    injection e1 with e1
    injection e2 with e2
    exact Prod.ext e1 e2))
theorem PrT.mv {G G' : Hp} {p : Addr} {kv : List Key × V} (h : PrT G p kv) (s : Same G G') : PrT G' p kv := h.imp fun _ h => ⟨s _ _ h.1, s _ _ h.2⟩
/-- _law_pairs -/
def spPrs : Sp := fun vs H Q _ => ∃ (L : Addr) (zs : List Str), vs = [.ref L] ∧ H L = some (.lst (zs.map V.str)) ∧ zs.length ≤ 20 ∧ ∀ F xs G, Same H G → H F = none → G F = some (.lst xs) → Paired (PAt G) xs (prs zs) → Q (.ref F) G
section
variable {P : Program} {w : World} {K : PySem.W.Frag} {mg : Str → Option Value} {base : Heap}
theorem scLPrs : FnScope ["names", "found", "u", "v"] ["names"] (defScope sLPrs) := ⟨rfl, rfl, rfl, by decide +kernel, rfl, by decide +kernel, by decide +kernel⟩
theorem ok_lprs {f : Addr} {fd : FuncData} (F : FnP K "_law_pairs" sLPrs f fd) : FnOk P w K mg base CX0 1 f fd ["names"] spPrs := by
  refine F.ok scLPrs (fun vs H Q E h => ?_) (fun cdv A outer s H vs Q E hr h => ?_)
  · obtain ⟨L, zs, rfl, _⟩ := h
    rfl
  · obtain ⟨L, zs, rfl, hL, hzl, k⟩ := h
    have nd := scLPrs.nd
    refine ⟨_, PSs.nox (pss_cons (ps_set (i := 1) nd rfl (Or.inl rfl) (pe_lst pa_nil))
(pss_cons (ps_for PassesOwn.never rfl (pi_list (pv 0)) (pg_name (i := 2) nd rfl (Or.inr rfl))
(pss_one (ps_set (i := 1) nd rfl (Or.inl rfl) (pe_op op_cat (pv 1) (pe_lc (own := [("v", 3)]) (g := (gName 3)) (tt := tYes) rfl nd (pi_list (pv 0)) (blkOk_by (own := [("v", 3)]) (N := ["names", "found", "u", "v"]) (sc := defScope sLPrs) (by decide +kernel)) (fun _ _ _ _ _ => (pg_name (i := 3) nd rfl (Or.inl rfl))) (fun _ _ _ _ _ => pts_nil) (fun _ _ _ _ _ => (pe_tup (pa_cons (pv 2) (pa_cons (pv 3) pa_nil)))))))))
(pss_one (ps_ret (pv 1))))), ?_⟩
    refine ⟨by decide, fun F0 nF => ?_⟩
    generalize e_G1 : upd _ F0 _ = G1
    have s_F0 := new_same e_G1 nF
    have f_F0 := new_at e_G1
    clear e_G1
    dsimp only [gName, List.set]
    have hsub : ∀ (l : List Str) (u : Str), prsU zs (l ++ [u]) = prsU zs l ++ zs.map fun v => (u, v) := fun l u => by
      unfold prsU
      rw [List.flatMap_append]
      congr 1
      show List.flatMap _ [u] = _
      rw [List.flatMap_cons, List.flatMap_nil, List.append_nil]
    have hplen : ∀ l : List Str, l.length ≤ 20 → (prsU zs l).length ≤ 20 * 20 := fun l hl => by
      have : ∀ l : List Str, (prsU zs l).length = l.length * zs.length := fun l => by
        unfold prsU
        induction l with
        | nil => simp
        | cons a r ih => rw [List.flatMap_cons, List.length_append, ih, List.length_map, List.length_cons, Nat.succ_mul]; omega
      rw [this]
      exact Nat.mul_le_mul hl hzl
    refine ⟨_, rfl, L, rfl, ⟨_, SqL.of (s_F0 _ _ hL)⟩, ?_⟩
    refine for_it (walk_list (K := K) (a := L) (xs := zs.map V.str)) (fun j σ G => ∃ F0 w2 w3 xs, σ = [some (.ref L), some (.ref F0), w2, w3] ∧ Same H G ∧ H F0 = none ∧ G F0 = some (.lst xs) ∧ Paired (PAt G) xs (prsU zs (zs.take j)))
      ⟨F0, _, _, [], rfl, s_F0, nF, f_F0, .nil⟩ (fun _ _ _ _ h => by obtain ⟨_, _, _, _, _, q, _⟩ := h; exact SqL.of (q _ _ hL)) ?_ ?_
    · clear s_F0 nF f_F0
      rintro j x σ G' G hj ⟨F0, w2, w3, xs, rfl, sH, nF, hF, hP⟩ ⟨rfl, hx⟩
      rw [List.length_map] at hj
      obtain ⟨u, hu1, rfl⟩ := Option.map_eq_some_iff.mp ((List.getElem?_map ..).symm.trans hx)
      dsimp only [gName, List.set]
      have hLG := sH _ _ hL
      refine ⟨_, rfl, _, rfl, L, rfl, ⟨_, SqL.of hLG⟩, fun D nD => ?_⟩
      have hFD : F0 ≠ D := ne_of_none hF nD
      refine lc_it (walk_list (K := K) (a := L) (xs := zs.map V.str)) (fun i G2 => ∃ ys, G2 D = some (.lst ys) ∧ Same G G2 ∧ Paired (PAt G2) ys ((zs.take i).map fun v => (u, v))) ?_ (fun i G2 _ h => by obtain ⟨_, _, q, _⟩ := h; exact SqL.of (q _ _ hLG)) ?_ ?_
      · skip
        generalize e_G2 : upd _ D _ = G2
        have s_D := new_same e_G2 nD
        have f_D := new_at e_G2
        clear e_G2
        exact ⟨[], f_D, s_D, .nil⟩
      · rintro i x G' G2 hi ⟨ys, hD, s2, hQ⟩ ⟨rfl, hx⟩
        rw [List.length_map] at hi
        obtain ⟨v, hv1, rfl⟩ := Option.map_eq_some_iff.mp ((List.getElem?_map ..).symm.trans hx)
        refine ⟨rfl, ?_⟩
        dsimp only [tYes]
        rw [if_pos rfl]
        refine ⟨_, rfl, _, rfl, (by show 2 ≤ sizeLine; decide), fun T nT => ?_⟩
        generalize e_G3 : upd _ T _ = G3
        have s_T := new_same e_G3 nT
        have f_T := new_at e_G3
        clear e_G3
        have s2 := s2.mv s_T
        have hD := hD.mv s_T
        have hQ := pr_imp (fun _ _ h => h.mv s_T) hQ
        have hyl := Paired.length hQ
        rw [List.length_map, List.length_take] at hyl
        have off : ∀ {x : V} {q : Str × Str} {o : HO}, PAt G3 x q → PAt (upd G3 D o) x q := fun {x q o} h => by
          obtain ⟨T, rfl, hT⟩ := h
          exact ⟨T, rfl, (upd_ne (by rintro rfl; rw [hD] at hT; cases hT)).trans hT⟩
        refine ⟨ys, hD, by rw [sizeLine_eq]; omega, _, upd_same, fun y o e => (upd_ne (ne_of_none e nD)).trans (s2 _ _ e), ?_⟩
        rw [List.take_succ, hv1, List.map_append]
        exact pr_app (pr_imp (fun _ _ h => off h) hQ) (.cons (off ⟨T, rfl, f_T⟩) .nil)
      · rintro G2 ⟨ys, hD, s2, hQ⟩
        rw [List.length_map, List.take_length] at hQ
        have hF := s2 _ _ hF
        have hP := pr_imp (fun _ _ h => h.mv s2) hP
        have sH := sH.trans s2
        have hpl := Paired.length hP
        have hql := Paired.length hQ
        have := hplen (zs.take j) (by rw [List.length_take]; omega)
        rw [List.length_map] at hql
        refine ⟨F0, D, xs, ys, rfl, rfl, hF, hD, by rw [sizeLine_eq]; omega, fun F1 nF1 => ?_⟩
        have nH := sH.free nF1
        have hPQ := pr_app hP hQ
        generalize e_G3 : upd _ F1 _ = G3
        have s_F1 := new_same e_G3 nF1
        have f_F1 := new_at e_G3
        clear e_G3
        have sH := sH.mv s_F1
        refine ⟨F1, _, _, _, rfl, sH, nH, f_F1, ?_⟩
        rw [List.take_succ, hu1]
        rw [show zs.take j ++ (Option.some u).toList = zs.take j ++ [u] from rfl, hsub]
        exact pr_imp (fun _ _ h => h.mv s_F1) hPQ
    · rintro σ G ⟨F0, w2, w3, xs, rfl, sH, nF, hF, hP⟩
      rw [List.length_map, List.take_length] at hP
      exact ⟨_, rfl, k F0 xs G sH nF hF hP⟩
/-- _law_roads -/
def spRds : Sp := fun vs H Q _ => ∃ (F L : Addr) (xs : List V) (bs : List Sol.B) (zs : List Str), vs = [.ref F, .ref L] ∧ H F = some (.lst xs) ∧ Paired (BAt H) xs bs ∧ H L = some (.lst (zs.map V.str)) ∧ zs.Nodup ∧ zs.length ≤ 20 ∧ (∀ b ∈ bs, b.1 ∈ zs ∧ b.2.1 ∈ zs) ∧
  ((∀ m ∈ zs, roads Zr zs bs m m = some 0) → ∀ D G, Same H G → H D = none → G D = some (.dT (bestK (roads Zr zs bs) (prs zs))) → Q (.ref D) G) ∧
  (¬ (∀ m ∈ zs, roads Zr zs bs m m = some 0) → ∀ G, Same H G → Q .non G)
theorem scLRds : FnScope ["bounds", "names", "u", "v", "best", "c", "middle", "one", "other", "name"] ["bounds", "names"] (defScope sLRds) := ⟨rfl, rfl, rfl, by decide +kernel, rfl, by decide +kernel, by decide +kernel⟩
theorem ok_lrds {f fPr : Addr} {fd fdPr : FuncData} (F : FnP K "_law_roads" sLRds f fd) (GPr : FnOk P w K mg base CX0 1 fPr fdPr ["names"] spPrs) (bPr : Binds K fdPr ["names"] []) (kPr : PySem.W.keepIn K (.ref fPr) = true) (gPr : mg "_law_pairs" = some (.ref fPr))
    (n_dict : mg "dict" = none) (n_min : mg "min" = none) (n_all : mg "all" = none) : FnOk P w K mg base CX0 2 f fd ["bounds", "names"] spRds := by
  refine F.ok scLRds (fun vs H Q E h => ?_) (fun cdv A outer s H vs Q E hr h => ?_)
  · obtain ⟨F, L, xs, bs, zs, rfl, _⟩ := h
    rfl
  · obtain ⟨F, L, xs, bs, zs, rfl, hF, hP, hL, ndz, hzl, hbz, kg, kb⟩ := h
    have nd := scLRds.nd
    have hu := Nat.lt_of_le_of_lt (Nat.add_le_add_left (by decide : 1 ≤ 64) _) hr.units
    have hu2 : (A.deeper (envOfC "_law_roads" (defScope sLRds) s.heap.objs.size f cdv)).units + 2 < cLine := Nat.lt_of_le_of_lt (Nat.add_le_add_left (by decide : 2 ≤ 64) _) hr.units
    refine ⟨_, PSs.nox (pss_cons (ps_set (i := 4) nd rfl (Or.inr rfl) (pe_callTy (call_dictT rfl hu2) (by rfl) n_dict (by decide +kernel) (pa_cons (pe_lc (own := [("u", 2), ("v", 3)]) (g := (gTup K 2 (gCons (gName 2) (gCons (gName 3) gNil)))) (tt := tYes) rfl nd (pi_list (pe_call GPr hr (by rfl) gPr kPr bPr .nil pass0 (pa_cons (pv 1) pa_nil))) (blkOk_by (own := [("u", 2), ("v", 3)]) (N := ["bounds", "names", "u", "v", "best", "c", "middle", "one", "other", "name"]) (sc := defScope sLRds) (by decide +kernel)) (fun _ _ _ _ _ => (pg_tup rfl (pgs_cons (pg_name (i := 2) nd rfl (Or.inl rfl) (.inr rfl)) (pgs_cons (pg_name (i := 3) nd rfl (Or.inl rfl) (.inr rfl)) pgs_nil)))) (fun _ _ _ _ _ => pts_nil) (fun _ _ _ _ _ => (pe_tup (pa_cons (pe_tup (pa_cons (pv 2) (pa_cons (pv 3) pa_nil))) (pa_cons (pe_ifExp (PW.pt (pw_or (pt_cmpR op_eq (pv 2) (pv 3) (nomark _)) (pw_or1 (pt_cmpR op_eq (pv 2) pe_str (nomark _))))) pe_int pe_non) pa_nil))))) pa_nil)))
(pss_cons (ps_for PassesOwn.never rfl (pi_list (pv 0)) (pg_tup rfl (pgs_cons (pg_name (i := 2) nd rfl (Or.inl rfl)) (pgs_cons (pg_name (i := 3) nd rfl (Or.inl rfl)) (pgs_cons (pg_name (i := 5) nd rfl (Or.inl rfl)) pgs_nil))))
(pss_one (ps_dput hu (pv 4) (pe_tup (pa_cons (pv 2) (pa_cons (pv 3) pa_nil))) (pe_ifExp (pt_cmpR op_isN (pe_dget hu (pv 4) (pe_tup (pa_cons (pv 2) (pa_cons (pv 3) pa_nil))) (fun _ _ => rfl)) pe_non (nomark _)) (pv 5) (pe_callB (call_min2 rfl) (by rfl) n_min (by decide +kernel) (pa_cons (pv 5) (pa_cons (pe_dget hu (pv 4) (pe_tup (pa_cons (pv 2) (pa_cons (pv 3) pa_nil))) (fun _ _ => rfl)) pa_nil)))) rfl)))
(pss_cons (ps_for PassesOwn.never rfl (pi_list (pv 1)) (pg_name (i := 6) nd rfl (Or.inl rfl))
(pss_one (ps_for PassesOwn.never rfl (pi_list (pe_call GPr hr (by rfl) gPr kPr bPr .nil pass0 (pa_cons (pv 1) pa_nil))) (pg_tup rfl (pgs_cons (pg_name (i := 2) nd rfl (Or.inl rfl)) (pgs_cons (pg_name (i := 3) nd rfl (Or.inl rfl)) pgs_nil)))
(pss_cons (ps_par (i := 7) (j := 8) (by rfl) nd rfl rfl (by decide) rfl rfl (pa_cons (pe_dget hu (pv 4) (pe_tup (pa_cons (pv 2) (pa_cons (pv 6) pa_nil))) (fun _ _ => rfl)) (pa_cons (pe_dget hu (pv 4) (pe_tup (pa_cons (pv 6) (pa_cons (pv 3) pa_nil))) (fun _ _ => rfl)) pa_nil)) (by rfl))
(pss_one (ps_if (PW.pt (pw_and (pt_cmpR op_notN (pv 7) pe_non (nomark _)) (pw_and1 (pt_cmpR op_notN (pv 8) pe_non (nomark _)))))
(pss_one (ps_dput hu (pv 4) (pe_tup (pa_cons (pv 2) (pa_cons (pv 3) pa_nil))) (pe_ifExp (pt_cmpR op_isN (pe_dget hu (pv 4) (pe_tup (pa_cons (pv 2) (pa_cons (pv 3) pa_nil))) (fun _ _ => rfl)) pe_non (nomark _)) (pe_op op_add (pv 7) (pv 8)) (pe_callB (call_min2 rfl) (by rfl) n_min (by decide +kernel) (pa_cons (pe_dget hu (pv 4) (pe_tup (pa_cons (pv 2) (pa_cons (pv 3) pa_nil))) (fun _ _ => rfl)) (pa_cons (pe_op op_add (pv 7) (pv 8)) pa_nil)))) rfl))
pss_nil))))))
(pss_one (ps_ret (pe_ifExp (pt_val (pe_callB (cr_all rfl) (by rfl) n_all (by decide +kernel) (pa_cons (pe_lc (own := [("name", 9)]) (g := (gName 9)) (tt := tYes) rfl nd (pi_list (pv 1)) (blkOk_by (own := [("name", 9)]) (N := ["bounds", "names", "u", "v", "best", "c", "middle", "one", "other", "name"]) (sc := defScope sLRds) (by decide +kernel)) (fun _ _ _ _ _ => (pg_name (i := 9) nd rfl (Or.inl rfl))) (fun _ _ _ _ _ => pts_nil) (fun _ _ _ _ _ => (pe_cmpR op_eq (pe_dget hu (pv 4) (pe_tup (pa_cons (pv 9) (pa_cons (pv 9) pa_nil))) (fun _ _ => rfl)) pe_int (nomark _)))) pa_nil))) (pv 4) pe_non)))))), ?_⟩
    have hxl := Paired.length hP
    -- the dict of first roads
    refine ⟨_, rfl, L, zs, rfl, hL, hzl, fun PL pl G1 s1 nPL hPL hPP => ⟨PL, rfl, ⟨_, SqL.of hPL⟩, fun D1 nD1 => ?_⟩⟩
    have hpl := Paired.length hPP
    have hpn : (prs zs).Nodup := prs_nodup ndz
    have hplen : (prs zs).length ≤ 400 := prs_len hzl
    refine lc_it (walk_list (K := K) (a := PL) (xs := pl)) (fun j G => ∃ ps : List Addr, G D1 = some (.lst (ps.map V.ref)) ∧ Same G1 G ∧ Paired (PrT G) ps (bestK (d0 Zr) ((prs zs).take j))) ?_ (fun i G _ h => by obtain ⟨_, _, q, _⟩ := h; exact SqL.of (q _ _ hPL)) ?_ ?_
    · skip
      generalize e_G2 : upd _ D1 _ = G2
      have s_D1 := new_same e_G2 nD1
      have f_D1 := new_at e_G2
      clear e_G2
      exact ⟨[], f_D1, s_D1, .nil⟩
    · rintro j x G' G hj ⟨ps, hD, sG, hQ⟩ ⟨rfl, hx⟩
      obtain ⟨q, hq, T, rfl, hT⟩ := pr_at hPP hx
      obtain ⟨u, v⟩ := q
      refine ⟨_, _, rfl, SqT.of (sG _ _ hT), rfl, _, _, rfl, _, _, rfl, rfl, rfl, ?_⟩
      dsimp only [tYes]
      rw [if_pos rfl]
      refine ⟨_, rfl, _, rfl, (by show 2 ≤ sizeLine; decide), fun T2 nT2 => ?_⟩
      generalize e_G2 : upd _ T2 _ = G2
      have s_T2 := new_same e_G2 nT2
      have f_T2 := new_at e_G2
      clear e_G2
      have sG := sG.mv s_T2
      have hD := hD.mv s_T2
      have hQ := pr_imp (fun _ _ h => PrT.mv h s_T2) hQ
      have fin : ∀ T3, G2 T3 = none → ∃ acc, upd G2 T3 (.tup [.ref T2, optV (d0 Zr u v)]) D1 = some (.lst acc) ∧ acc.length < sizeLine ∧ ∃ ps : List Addr, upd (upd G2 T3 (.tup [.ref T2, optV (d0 Zr u v)])) D1 (.lst (acc ++ [V.ref T3])) D1 = some (.lst (ps.map V.ref)) ∧ Same G1 (upd (upd G2 T3 (.tup [.ref T2, optV (d0 Zr u v)])) D1 (.lst (acc ++ [V.ref T3]))) ∧ Paired (PrT (upd (upd G2 T3 (.tup [.ref T2, optV (d0 Zr u v)])) D1 (.lst (acc ++ [V.ref T3])))) ps (bestK (d0 Zr) ((prs zs).take (j + 1))) := by
        intro T3 nT3
        generalize e_G3 : upd _ T3 _ = G3
        have s_T3 := new_same e_G3 nT3
        have f_T3 := new_at e_G3
        clear e_G3
        have sG := sG.mv s_T3
        have hD := hD.mv s_T3
        have f_T2 := f_T2.mv s_T3
        have hQ := pr_imp (fun _ _ h => PrT.mv h s_T3) hQ
        have hql := Paired.length hQ
        have off : ∀ {p : Addr} {kv : List Key × V} {o : HO}, PrT G3 p kv → PrT (upd G3 D1 o) p kv := fun {p kv o} h => by
          obtain ⟨b, h1, h2⟩ := h
          exact ⟨b, (upd_ne (by rintro rfl; rw [hD] at h1; cases h1)).trans h1, (upd_ne (by rintro rfl; rw [hD] at h2; cases h2)).trans h2⟩
        refine ⟨_, hD, ?_, ps ++ [T3], by rw [upd_same, List.map_append]; rfl, fun y o e => (upd_ne (ne_of_none e nD1)).trans (sG _ _ e), ?_⟩
        · rw [List.length_map, hql]
          unfold bestK
          rw [List.length_map, List.length_take, sizeLine_eq]
          omega
        · rw [List.take_succ, hq]
          show Paired _ _ (bestK (d0 Zr) (_ ++ [(u, v)]))
          unfold bestK
          rw [List.map_append]
          exact pr_app (pr_imp (fun _ _ h => off h) hQ) (.cons (off ⟨T2, f_T3, f_T2⟩) .nil)
      refine ⟨_, rfl, _, rfl, rfl, _, rfl, ?_⟩
      by_cases c1 : u = v
      · refine yes (decide_eq_true (congrArg V.str c1)) ?_
        have e0 : optV (d0 Zr u v) = .int 0 := by unfold d0; rw [if_pos (.inl c1)]; rfl
        rw [e0] at fin
        exact ⟨(by show 2 ≤ sizeLine; decide), fin⟩
      · refine no (decide_eq_false fun e => c1 (by injection e)) ?_
        refine ⟨_, rfl, rfl, _, rfl, ?_⟩
        by_cases c2 : u = Zr
        · refine yes (decide_eq_true (congrArg V.str c2)) ?_
          have e0 : optV (d0 Zr u v) = .int 0 := by unfold d0; rw [if_pos (.inr c2)]; rfl
          rw [e0] at fin
          exact ⟨(by show 2 ≤ sizeLine; decide), fin⟩
        · refine no (decide_eq_false fun e => c2 (by injection e)) ?_
          have e0 : optV (d0 Zr u v) = .non := by unfold d0; rw [if_neg (fun e => e.elim c1 c2)]; rfl
          rw [e0] at fin
          exact ⟨(by show 2 ≤ sizeLine; decide), fin⟩
    rintro G2 ⟨ps, hD, s2, hQ⟩
    rw [hpl, List.take_length] at hQ
    have hkn : ((bestK (d0 Zr) (prs zs)).map (·.1)).Nodup := best_nodup hpn
    have sH := s1.trans s2
    refine ⟨D1, ps, _, rfl, hD, hQ, hkn, fun B nB => ?_⟩
    have nBH := sH.free nB
    generalize e_G3 : upd _ B _ = G3
    have s_B := new_same e_G3 nB
    have f_B := new_at e_G3
    clear e_G3
    have sH := sH.mv s_B
    clear hD hQ hkn s2 s_B nB nD1 hPL hPP nPL s1 G1 hpl pl PL
    dsimp only [gName, List.set]
    have hBl : ∀ D : DM, (bestK D (prs zs)).length < sizeLine := fun D => by unfold bestK; rw [List.length_map, sizeLine_eq]; omega
    -- the bounds
    refine ⟨_, rfl, F, rfl, ⟨_, SqL.of (sH _ _ hF)⟩, ?_⟩
    refine for_it (walk_list (K := K) (a := F) (xs := xs)) (fun j σ G => ∃ w2 w3 w5 w6 w7 w8 w9, σ = [some (.ref F), some (.ref L), w2, w3, some (.ref B), w5, w6, w7, w8, w9] ∧ Same H G ∧ G B = some (.dT (bestK ((bs.take j).foldl addB (d0 Zr)) (prs zs))))
      ⟨_, _, _, _, _, _, _, rfl, sH, f_B⟩ (fun _ _ _ _ h => by obtain ⟨_, _, _, _, _, _, _, _, q, _⟩ := h; exact SqL.of (q _ _ hF)) ?_ ?_
    · clear sH f_B
      rintro j x σ G' G hj ⟨w2, w3, w5, w6, w7, w8, w9, rfl, sH, hB⟩ ⟨rfl, hx⟩
      obtain ⟨b, hb, T, rfl, hT⟩ := pr_at hP hx
      have hbm := hbz b (List.mem_of_getElem? hb)
      have hm : (b.1, b.2.1) ∈ prs zs := prs_mem.mpr hbm
      have efold : (bs.take (j + 1)).foldl addB (d0 Zr) = addB ((bs.take j).foldl addB (d0 Zr)) b := by
        rw [List.take_succ, hb, List.foldl_append]
        rfl
      rw [efold]
      generalize (bs.take j).foldl addB (d0 Zr) = D at hB ⊢
      refine ⟨_, _, rfl, SqT.of (sH _ _ hT), rfl, _, _, rfl, _, _, rfl, _, _, rfl, rfl, ?_⟩
      dsimp only [gName, List.set]
      refine ⟨_, rfl, _, rfl, _, rfl, (by show 2 ≤ sizeLine; decide), fun T1 nT1 => ?_⟩
      generalize e_G4 : upd _ T1 _ = G4
      have s_T1 := new_same e_G4 nT1
      have f_T1 := new_at e_G4
      clear e_G4
      have sH := sH.mv s_T1
      have hB := hB.mv s_T1
      refine ⟨B, _, rfl, bget hB f_T1 hm, rfl, _, rfl, ?_⟩
      have fin : ∀ (G5 : Hp), Same G4 G5 → ∀ T3, G5 T3 = none → Same H (upd (upd G5 T3 (.tup [.str b.1, .str b.2.1])) B (.dT (bestK (addB D b) (prs zs)))) ∧ upd G5 T3 (.tup [.str b.1, .str b.2.1]) T3 = some (.tup [.str b.1, .str b.2.1]) ∧ upd G5 T3 (.tup [.str b.1, .str b.2.1]) B = some (.dT (bestK D (prs zs))) := by
        intro G5 s5 T3 nT3
        exact ⟨fun y o e => (upd_ne (ne_of_none e nBH)).trans ((same_put nT3) _ _ (s5 _ _ (sH _ _ e))), upd_same, (same_put nT3) _ _ (s5 _ _ hB)⟩
      cases hD : D b.1 b.2.1 with
      | none =>
        refine yes (decide_eq_true rfl) ?_
        have ea : addB D b = setD D b.1 b.2.1 (some b.2.2) := by unfold addB; rw [hD]; rfl
        refine ⟨_, rfl, _, rfl, _, rfl, _, rfl, (by show 2 ≤ sizeLine; decide), fun T3 nT3 => ?_⟩
        obtain ⟨q1, q2, q3⟩ := fin _ (Same.refl _) T3 nT3
        refine ⟨B, _, rfl, .inr ⟨_, [.inr b.1, .inr b.2.1], T3, q3, rfl, q2, hBl _, rfl⟩, _, _, _, _, _, _, _, rfl, ?_, ?_⟩
        · rw [show V.int b.2.2 = optV (some b.2.2) from rfl, best_put hm, ← ea]
          exact q1
        · rw [upd_same, show V.int b.2.2 = optV (some b.2.2) from rfl, best_put hm, ← ea]
      | some y =>
        refine no (decide_eq_false fun e => by cases e) ?_
        refine ⟨_, rfl, _, rfl, _, rfl, _, rfl, (by show 2 ≤ sizeLine; decide), fun T2 nT2 => ?_⟩
        generalize e_G5 : upd _ T2 _ = G5
        have s_T2 := new_same e_G5 nT2
        have f_T2 := new_at e_G5
        clear e_G5
        have hB := hB.mv s_T2
        refine ⟨B, _, rfl, bget hB f_T2 hm, ?_⟩
        rw [hD]
        refine ⟨_, _, rfl, ?_⟩
        have em : (if y < b.2.2 then y else b.2.2) = (if b.2.2 < y then b.2.2 else y) := by split <;> split <;> omega
        rw [em]
        have ea : addB D b = setD D b.1 b.2.1 (some (if b.2.2 < y then b.2.2 else y)) := by unfold addB; rw [hD]; rfl
        refine ⟨_, rfl, _, rfl, _, rfl, (by show 2 ≤ sizeLine; decide), fun T3 nT3 => ?_⟩
        obtain ⟨q1, q2, q3⟩ := fin _ s_T2 T3 nT3
        refine ⟨B, _, rfl, .inr ⟨_, [.inr b.1, .inr b.2.1], T3, q3, rfl, q2, hBl _, rfl⟩, _, _, _, _, _, _, _, rfl, ?_, ?_⟩
        · rw [show V.int (if b.2.2 < y then b.2.2 else y) = optV (some (if b.2.2 < y then b.2.2 else y)) from rfl, best_put hm, ← ea]
          exact q1
        · rw [upd_same, show V.int (if b.2.2 < y then b.2.2 else y) = optV (some (if b.2.2 < y then b.2.2 else y)) from rfl, best_put hm, ← ea]
    rintro σ G ⟨w2, w3, w5, w6, w7, w8, w9, rfl, sH, hB⟩
    rw [hxl, List.take_length] at hB
    generalize hD1 : bs.foldl addB (d0 Zr) = D1 at hB
    refine ⟨_, rfl, L, rfl, ⟨_, SqL.of (sH _ _ hL)⟩, ?_⟩
    refine for_it (walk_list (K := K) (a := L) (xs := zs.map V.str)) (fun j σ G => ∃ w2 w3 w5 w6 w7 w8 w9, σ = [some (.ref F), some (.ref L), w2, w3, some (.ref B), w5, w6, w7, w8, w9] ∧ Same H G ∧ G B = some (.dT (bestK ((zs.take j).foldl (phase (prs zs)) D1) (prs zs))))
      ⟨_, _, _, _, _, _, _, rfl, sH, hB⟩ (fun _ _ _ _ h => by obtain ⟨_, _, _, _, _, _, _, _, q, _⟩ := h; exact SqL.of (q _ _ hL)) ?_ ?_
    · clear sH hB
      rintro j x σ G' G hj ⟨w2, w3, w5, w6, w7, w8, w9, rfl, sH, hB⟩ ⟨rfl, hx⟩
      obtain ⟨m, hm1, rfl⟩ := Option.map_eq_some_iff.mp ((List.getElem?_map ..).symm.trans hx)
      have hmz := List.mem_of_getElem? hm1
      have efold : (zs.take (j + 1)).foldl (phase (prs zs)) D1 = phase (prs zs) ((zs.take j).foldl (phase (prs zs)) D1) m := by
        rw [List.take_succ, hm1, List.foldl_append]
        rfl
      rw [efold]
      generalize (zs.take j).foldl (phase (prs zs)) D1 = D at hB ⊢
      dsimp only [gName, List.set]
      refine ⟨_, rfl, L, zs, rfl, sH _ _ hL, hzl, fun PL pl G1 s1 nPL hPL hPP => ⟨PL, rfl, ⟨_, SqL.of hPL⟩, ?_⟩⟩
      have hBP : B ≠ PL := ne_of_none hB nPL
      have hB1 := s1 _ _ hB
      have sH1 := sH.trans s1
      have hpl := Paired.length hPP
      have hGB := hB1
      refine for_it (walk_list (K := K) (a := PL) (xs := pl)) (fun i σ G => ∃ w2 w3 w7 w8, σ = [some (.ref F), some (.ref L), w2, w3, some (.ref B), w5, some (.str m), w7, w8, w9] ∧ (∀ x o, x ≠ B → G1 x = some o → G x = some o) ∧ G B = some (.dT (bestK (((prs zs).take i).foldl (rlx m) D) (prs zs))))
        ⟨_, _, _, _, rfl, fun _ _ _ e => e, hB1⟩ (fun _ _ _ _ h => by obtain ⟨_, _, _, _, _, q, _⟩ := h; exact SqL.of (q _ _ hBP.symm hPL)) ?_ ?_
      · clear hB hB1
        rintro i x σ G' G2 hi ⟨w2, w3, w7, w8, rfl, sf, hB⟩ ⟨rfl, hx⟩
        obtain ⟨q, hq, T, rfl, hT⟩ := pr_at hPP hx
        obtain ⟨u, v⟩ := q
        have hqm := List.mem_of_getElem? hq
        obtain ⟨huz, hvz⟩ := prs_mem.mp hqm
        have efold : ((prs zs).take (i + 1)).foldl (rlx m) D = rlx m (((prs zs).take i).foldl (rlx m) D) (u, v) := by
          rw [List.take_succ, hq, List.foldl_append]
          rfl
        rw [efold]
        generalize ((prs zs).take i).foldl (rlx m) D = D at hB ⊢
        have hT2 := sf _ _ (fun e => by rw [e, hGB] at hT; cases hT) hT
        refine ⟨_, _, rfl, SqT.of hT2, rfl, _, _, rfl, _, _, rfl, rfl, ?_⟩
        dsimp only [gName, List.set]
        refine ⟨_, rfl, _, rfl, _, rfl, (by show 2 ≤ sizeLine; decide), fun T1 nT1 => ?_⟩
        have sf : ∀ (G3 : Hp), Same G2 G3 → ∀ x o, x ≠ B → G1 x = some o → G3 x = some o := fun G3 s x o n e => s _ _ (sf x o n e)
        generalize e_G3 : upd _ T1 _ = G3
        have s_T1 := new_same e_G3 nT1
        have f_T1 := new_at e_G3
        clear e_G3
        have hB := hB.mv s_T1
        refine ⟨B, _, rfl, bget hB f_T1 (prs_mem.mpr ⟨huz, hmz⟩), ?_⟩
        refine ⟨_, rfl, _, rfl, _, rfl, (by show 2 ≤ sizeLine; decide), fun T2 nT2 => ?_⟩
        generalize e_G4 : upd _ T2 _ = G4
        have s_T2 := new_same e_G4 nT2
        have f_T2 := new_at e_G4
        clear e_G4
        have hB := hB.mv s_T2
        have s_T1 := s_T1.mv s_T2
        refine ⟨B, _, rfl, bget hB f_T2 (prs_mem.mpr ⟨hmz, hvz⟩), ⟨_, _, rfl, ?_⟩⟩
        dsimp only [List.set]
        refine ⟨_, rfl, rfl, _, rfl, ?_⟩
        cases hD1 : D u m with
        | none =>
          have er : rlx m D (u, v) = D := by unfold rlx; rw [hD1]
          rw [er]
          refine no (congrArg not (decide_eq_true rfl)) (no rfl ?_)
          exact ⟨_, _, _, _, rfl, sf _ s_T1, hB⟩
        | some a =>
          refine yes (congrArg not (decide_eq_false fun e => by cases e)) ?_
          refine ⟨_, rfl, rfl, _, rfl, ?_⟩
          cases hD2 : D m v with
          | none =>
            have er : rlx m D (u, v) = D := by unfold rlx; rw [hD1, hD2]
            rw [er]
            refine no (congrArg not (decide_eq_true rfl)) ?_
            exact ⟨_, _, _, _, rfl, sf _ s_T1, hB⟩
          | some b =>
            refine yes (congrArg not (decide_eq_false fun e => by cases e)) ?_
            have er : rlx m D (u, v) = setD D u v (minO (D u v) (a + b)) := by unfold rlx; rw [hD1, hD2]
            rw [er]
            refine ⟨_, rfl, _, rfl, _, rfl, (by show 2 ≤ sizeLine; decide), fun T4 nT4 => ?_⟩
            generalize e_G5 : upd _ T4 _ = G5
            have s_T4 := new_same e_G5 nT4
            have f_T4 := new_at e_G5
            clear e_G5
            have hB := hB.mv s_T4
            have s_T1 := s_T1.mv s_T4
            refine ⟨B, _, rfl, bget hB f_T4 hqm, rfl, _, rfl, ?_⟩
            have put : ∀ (G6 : Hp) (z : Int), Same G2 G6 → G6 B = some (.dT (bestK D (prs zs))) → minO (D u v) (a + b) = some z → ∀ T3, G6 T3 = none → DPut (upd G6 T3 (.tup [.str u, .str v])) B (.ref T3) (.int z) (upd (upd G6 T3 (.tup [.str u, .str v])) B (.dT (bestK (setD D u v (minO (D u v) (a + b))) (prs zs)))) ∧ (∀ x o, x ≠ B → G1 x = some o → upd (upd G6 T3 (.tup [.str u, .str v])) B (.dT (bestK (setD D u v (minO (D u v) (a + b))) (prs zs))) x = some o) := by
              intro G6 z s6 h6 hz T3 nT3
              refine ⟨.inr ⟨_, [.inr u, .inr v], T3, (same_put nT3) _ _ h6, rfl, upd_same, hBl _, ?_⟩, fun x o n e => (upd_ne n).trans ((same_put nT3) _ _ (sf _ s6 x o n e))⟩
              rw [hz, show V.int z = optV (some z) from rfl, best_put hqm]
            cases hD3 : D u v with
            | none =>
              refine yes (decide_eq_true rfl) ?_
              refine ⟨_, rfl, _, rfl, _, _, rfl, rfl, _, rfl, _, rfl, _, rfl, (by show 2 ≤ sizeLine; decide), fun T3 nT3 => ?_⟩
              rw [hD3] at put
              obtain ⟨q1, q2⟩ := put _ _ s_T1 hB rfl T3 nT3
              exact ⟨B, _, rfl, q1, _, _, _, _, rfl, q2, upd_same⟩
            | some y =>
              refine no (decide_eq_false fun e => by cases e) ?_
              refine ⟨_, rfl, _, rfl, _, rfl, (by show 2 ≤ sizeLine; decide), fun T5 nT5 => ?_⟩
              generalize e_G6 : upd _ T5 _ = G6
              have s_T5 := new_same e_G6 nT5
              have f_T5 := new_at e_G6
              clear e_G6
              have hB := hB.mv s_T5
              have s_T1 := s_T1.mv s_T5
              refine ⟨B, _, rfl, bget hB f_T5 hqm, ?_⟩
              rw [hD3] at put ⊢
              refine ⟨_, rfl, _, rfl, _, _, rfl, rfl, _, _, rfl, ?_⟩
              refine ⟨_, rfl, _, rfl, _, rfl, (by show 2 ≤ sizeLine; decide), fun T3 nT3 => ?_⟩
              obtain ⟨q1, q2⟩ := put _ _ s_T1 hB rfl T3 nT3
              exact ⟨B, _, rfl, q1, _, _, _, _, rfl, q2, upd_same⟩
      · rintro σ G2 ⟨w2, w3, w7, w8, rfl, sf, hB⟩
        rw [hpl, List.take_length] at hB
        exact ⟨_, _, _, _, _, _, _, rfl, fun y o e => sf y o (ne_of_none e nBH) (sH1 _ _ e), hB⟩
    rintro σ G ⟨w2, w3, w5, w6, w7, w8, w9, rfl, sH, hB⟩
    rw [List.length_map, List.take_length, ← hD1] at hB
    have hB : G B = some (.dT (bestK (roads Zr zs bs) (prs zs))) := hB
    refine ⟨_, rfl, L, rfl, ⟨_, SqL.of (sH _ _ hL)⟩, fun A nA => ?_⟩
    refine lc_it (walk_list (K := K) (a := L) (xs := zs.map V.str)) (fun j G2 => G2 A = some (.lst (((zs.take j).map fun m => decide (optV (roads Zr zs bs m m) = V.int 0)).map V.bl)) ∧ Same G G2) ?_ (fun i G2 _ h => SqL.of (h.2 _ _ (sH _ _ hL))) ?_ ?_
    · skip
      generalize e_G2 : upd _ A _ = G2
      have s_A := new_same e_G2 nA
      have f_A := new_at e_G2
      clear e_G2
      exact ⟨f_A, s_A⟩
    · rintro j x G' G2 hj ⟨hA, s2⟩ ⟨rfl, hx⟩
      rw [List.length_map] at hj
      obtain ⟨m, hm1, rfl⟩ := Option.map_eq_some_iff.mp ((List.getElem?_map ..).symm.trans hx)
      have hmz := List.mem_of_getElem? hm1
      refine ⟨rfl, ?_⟩
      dsimp only [tYes]
      rw [if_pos rfl]
      refine ⟨_, rfl, _, rfl, _, rfl, (by show 2 ≤ sizeLine; decide), fun T nT => ?_⟩
      generalize e_G3 : upd _ T _ = G3
      have s_T := new_same e_G3 nT
      have f_T := new_at e_G3
      clear e_G3
      have hA := hA.mv s_T
      have s2 := s2.mv s_T
      refine ⟨B, _, rfl, bget (s2 _ _ hB) f_T (prs_mem.mpr ⟨hmz, hmz⟩), (by cases roads Zr zs bs m m <;> rfl), ?_⟩
      refine ⟨_, hA, ?_, ?_, fun y o e => (upd_ne (ne_of_none e nA)).trans (s2 _ _ e)⟩
      · rw [List.length_map, List.length_map, List.length_take, sizeLine_eq]; omega
      · rw [upd_same, List.take_succ, hm1, List.map_append, List.map_append]; rfl
    · rintro G2 ⟨hA, s2⟩
      rw [List.length_map, List.take_length] at hA
      have sH := sH.trans s2
      refine ⟨A, _, rfl, SqL.of hA, _, rfl, ?_⟩
      by_cases c : ∀ m ∈ zs, roads Zr zs bs m m = some 0
      · refine yes (List.all_eq_true.mpr fun b hb => ?_) ?_
        · obtain ⟨m, hm, rfl⟩ := List.mem_map.mp hb
          rw [c m hm]
          rfl
        · exact ⟨_, rfl, kg c B G2 sH nBH (s2 _ _ hB)⟩
      · refine no ?_ ?_
        · cases h : (zs.map fun m => decide (optV (roads Zr zs bs m m) = V.int 0)).all id with
          | false => rfl
          | true =>
            refine absurd (fun m hm => ?_) c
            have h1 := List.all_eq_true.mp h _ (List.mem_map.mpr ⟨m, hm, rfl⟩)
            have h2 : optV (roads Zr zs bs m m) = V.int 0 := of_decide_eq_true h1
            cases h3 : roads Zr zs bs m m with
            | none => rw [h3] at h2; cases h2
            | some y => rw [h3] at h2; injection h2 with h2; rw [h2]
        · exact kb c G2 sH
end
end K31

set_option Elab.async false
set_option maxRecDepth 100000
set_option maxHeartbeats 2000000
/-! The roads, and what is told of the bounds. No Lean of the program. -/
namespace K31
open PySem PySem.Spec PyProof.Rows L2 He KX Sol
theorem zr_mem (bs : List Sol.B) : Zr ∈ nsOf bs := (fold_mem (Zr :: endsL bs) []).mpr (.inr List.mem_cons_self)
theorem ends_mem {bs : List Sol.B} {b : Sol.B} (h : b ∈ bs) : b.1 ∈ nsOf bs ∧ b.2.1 ∈ nsOf bs := by
  have q : ∀ x, x ∈ [b.1, b.2.1] → x ∈ nsOf bs := fun x hx => (fold_mem (Zr :: endsL bs) []).mpr (.inr (List.mem_cons_of_mem _ (List.mem_flatMap.mpr ⟨b, h, hx⟩)))
  exact ⟨q _ List.mem_cons_self, q _ (List.mem_cons_of_mem _ List.mem_cons_self)⟩
theorem ns_from {bs : List Sol.B} {x : Str} (h : x ∈ nsOf bs) : x = Zr ∨ ∃ b ∈ bs, x = b.1 ∨ x = b.2.1 := by
  rcases (fold_mem (Zr :: endsL bs) []).mp h with h | h
  · cases h
  · rcases List.mem_cons.mp h with rfl | h
    · exact .inl rfl
    · obtain ⟨b, hb, hx⟩ := List.mem_flatMap.mp h
      rcases List.mem_cons.mp hx with rfl | hx
      · exact .inr ⟨b, hb, .inl rfl⟩
      · exact .inr ⟨b, hb, .inr (List.mem_singleton.mp hx)⟩
/-- what stands behind passes that end without a ring -/
structure Sd (bs : List Sol.B) (s : Sol.St) : Prop where
  ok : Sol.Ok s
  own : Own Zr bs s
  tot : Tot Zr (nsOf bs) s
  zero : s.val Zr = 0
  pos : ∀ x, 0 ≤ s.val x
  sat : ∀ b ∈ bs, s.val b.1 - b.2.2 ≤ s.val b.2.1
theorem solved_sd {bs : List Sol.B} {s : Sol.St} (hb : ∀ b ∈ bs, b.1 ≠ b.2.1) (hp : passes Zr bs ((nsOf bs).length + 1) (start Zr (nsOf bs)) none = (s, none)) : Sd bs s := by
  have e1 : (passes Zr bs ((nsOf bs).length + 1) (start Zr (nsOf bs)) none).1 = s := by rw [hp]
  refine ⟨?_, ?_, ?_, ?_, ?_, passes_none hp⟩
  · exact e1 ▸ passes_inv (I := Sol.Ok) (Z := Zr) (bs := bs) (fun s b hb' h hl => h.raise hl (hb b hb')) (start_ok Zr _)
  · exact e1 ▸ passes_inv (I := Own Zr bs) (Z := Zr) (bs := bs) (fun s b hb' h hl => own_raise h hb') (own_start bs _)
  · exact e1 ▸ passes_inv (I := Tot Zr (nsOf bs)) (Z := Zr) (bs := bs) (fun s b hb' h hl => h.raise (ends_mem hb').1 (ends_mem hb').2) (tot_start (zr_mem bs))
  · exact passes_zero hp
  · exact e1 ▸ passes_inv (I := fun s => ∀ x, 0 ≤ s.val x) (Z := Zr) (bs := bs) (fun s b hb' h hl => raise_pos h hl) (fun x => Int.le_refl 0)
/-- bounds with a solution have no ring, and the least solution is told -/
theorem no_ring {bs : List Sol.B} {w : Str → Int} (hb : ∀ b ∈ bs, b.1 ≠ b.2.1) (hz : w Zr = 0) (hp : ∀ x, 0 ≤ w x) (hw : ∀ b ∈ bs, w b.1 - b.2.2 ≤ w b.2.1) : ringQ bs = false := by
  unfold ringQ
  cases e : (passes Zr bs ((nsOf bs).length + 1) (start Zr (nsOf bs)) none).2 with
  | none => rfl
  | some v =>
    exfalso
    obtain ⟨ok, ow, hv, hc, hcy⟩ := ring_at (Z := Zr) (ns := nsOf bs) (bs := bs) (s := (passes Zr bs ((nsOf bs).length + 1) (start Zr (nsOf bs)) none).1) (v := v) (zr_mem bs) (fun b h => ⟨(ends_mem h).1, (ends_mem h).2, hb b h⟩) (Prod.ext rfl e)
    generalize (passes Zr bs ((nsOf bs).length + 1) (start Zr (nsOf bs)) none).1 = s at ok ow hc hcy
    obtain ⟨p, p1, p2, p3, _⟩ := hcy _ (Nat.le_refl _)
    have hcm : ∀ m, ∃ b, s.cau (it s m (it s (nsOf bs).length v)) = some b := fun m => by rw [← it_add]; exact (hc _).2
    have neg := ring_sum ok hcm p1 p3
    have c := back_ch hcm p
    rw [p3] at c
    have pot : ∀ {x y : Str} {cs : List Sol.B}, Ch s.cau x cs y → w y - sumC cs ≤ w x := by
      intro x y cs c
      induction c with
      | nil => show _ - (0 : Int) ≤ _; omega
      | @cons x y b cs e _ ih =>
        rw [sumC_cons]
        have ho := ok.own _ _ e
        rcases ow _ _ e with h | ⟨_, rfl⟩
        · have := hw _ h
          rw [ho] at this
          omega
        · have := hp x
          dsimp only at ih ⊢
          rw [hz] at ih
          omega
    have := pot c
    omega
theorem least_le {bs : List Sol.B} {w : Str → Int} (hp : ∀ x, 0 ≤ w x) (hw : ∀ b ∈ bs, w b.1 - b.2.2 ≤ w b.2.1) (n : Nat) (r : Option Str) : ∀ x, (passes Zr bs n (start Zr (nsOf bs)) r).1.val x ≤ w x :=
  passes_inv (I := fun s => ∀ x, s.val x ≤ w x) (Z := Zr) (bs := bs) (fun s b hb' h hl => raise_least hw h hb') (fun x => hp x)
theorem ring_none {bs : List Sol.B} (h : ringQ bs = false) : passes Zr bs ((nsOf bs).length + 1) (start Zr (nsOf bs)) none = ((passes Zr bs ((nsOf bs).length + 1) (start Zr (nsOf bs)) none).1, none) := by
  unfold ringQ at h
  cases e : (passes Zr bs ((nsOf bs).length + 1) (start Zr (nsOf bs)) none).2 with
  | none => exact Prod.ext rfl e
  | some v => rw [e] at h; cases h

theorem sol_of {bs : List Sol.B} (hb : ∀ b ∈ bs, b.1 ≠ b.2.1) (h : ringQ bs = false) : Sd bs (passes Zr bs ((nsOf bs).length + 1) (start Zr (nsOf bs)) none).1 := solved_sd hb (ring_none h)
theorem ring_more {bs : List Sol.B} {b : Sol.B} (hb : ∀ b ∈ bs, b.1 ≠ b.2.1) (hb1 : b.1 ≠ b.2.1) (h : ringQ bs = true) : ringQ (bs ++ [b]) = true := by
  cases e : ringQ (bs ++ [b]) with
  | true => rfl
  | false =>
    have sd := sol_of (fun x hx => (List.mem_append.mp hx).elim (hb x) (fun z => by rw [List.mem_singleton.mp z]; exact hb1)) e
    rw [no_ring hb sd.zero sd.pos (fun x hx => sd.sat x (List.mem_append.mpr (.inl hx)))] at h
    cases h
theorem roads_ring {zs : List Str} {bs : List Sol.B} (hz : Zr ∈ zs) (hb : ∀ b ∈ bs, b.1 ∈ zs ∧ b.2.1 ∈ zs ∧ b.1 ≠ b.2.1) : (∀ m ∈ zs, roads Zr zs bs m m = some 0) ↔ ringQ bs = false := by
  constructor
  · intro h
    obtain ⟨w1, w2, w3⟩ := (good_of h).sol hz (fun b h => ⟨(hb b h).1, (hb b h).2.1⟩)
    exact no_ring (fun b h => (hb b h).2.2) w1 w2 w3
  · intro h m hm
    have sd := sol_of (fun b h => (hb b h).2.2) h
    obtain ⟨x, hx, lx⟩ := le_addB bs (d0 Zr) m m 0 (by unfold d0; rw [if_pos (.inl rfl)])
    obtain ⟨y, hy, ly⟩ := le_fold (prs zs) zs (bs.foldl addB (d0 Zr)) m m x hx
    have hy : roads Zr zs bs m m = some y := hy
    have := snd_roads (ns := zs) sd.zero sd.pos sd.sat m m y hy
    rw [hy]
    congr 1
    omega
theorem has_nm {bs : List Sol.B} {u v : Str} {c : Int} (hu : isNm u = true) (hv : isNm v = true) (ne : u ≠ v) : hasQ bs (bnD (u, v, c)) = ringQ (bs ++ [(v, u, -c - 1)]) := by
  have e : bd3 (bnD (u, v, c)) = some (u, v, c) := by
    show (if (isNm u && (isNm v && !decide (u = v))) = true then some (u, v, c) else none) = _
    rw [hu, hv, decide_eq_false ne]
    rfl
  unfold hasQ
  rw [e]
theorem has_roads {zs : List Str} {bs : List Sol.B} (hz : Zr ∈ zs) (hb : ∀ b ∈ bs, b.1 ∈ zs ∧ b.2.1 ∈ zs ∧ b.1 ≠ b.2.1) (h : ringQ bs = false) {u v : Str} {c : Int} (hu : isNm u = true) (hv : isNm v = true) (ne : u ≠ v) (mu : u ∈ zs) (mv : v ∈ zs) :
    hasQ bs (bnD (u, v, c)) = (match roads Zr zs bs u v with | some x => decide (x ≤ c) | none => false) := by
  rw [has_nm hu hv ne]
  have hb2 : ∀ b ∈ bs ++ [(v, u, -c - 1)], b.1 ≠ b.2.1 := fun x hx => (List.mem_append.mp hx).elim (fun h => (hb x h).2.2) (fun z => by rw [List.mem_singleton.mp z]; exact fun e => ne e.symm)
  by_cases q : ∃ x, roads Zr zs bs u v = some x ∧ x ≤ c
  · obtain ⟨x, hx, lx⟩ := q
    rw [hx]
    dsimp only
    rw [decide_eq_true lx]
    cases e : ringQ (bs ++ [(v, u, -c - 1)]) with
    | true => rfl
    | false =>
      have sd := sol_of hb2 e
      have h1 := snd_roads (ns := zs) sd.zero sd.pos (fun x hx => sd.sat x (List.mem_append.mpr (.inl hx))) u v x hx
      have h2 := sd.sat (v, u, -c - 1) (List.mem_append.mpr (.inr List.mem_cons_self))
      dsimp only at h2
      omega
  · obtain ⟨w1, w2, w3, w4⟩ := (good_of ((roads_ring hz hb).mpr h)).not hz (fun b h => ⟨(hb b h).1, (hb b h).2.1⟩) (u := u) (v := v) (c := c) mu mv (fun x hx => Int.not_le.mp fun l => q ⟨x, hx, l⟩)
    rw [no_ring hb2 w1 w2 (fun x hx => (List.mem_append.mp hx).elim (w3 x) (fun z => by rw [List.mem_singleton.mp z]; dsimp only; omega))]
    cases hx : roads Zr zs bs u v with
    | none => rfl
    | some x => exact (decide_eq_false fun l => q ⟨x, hx, l⟩).symm
/-- a bound that follows changes no least value -/
theorem same_least {zs : List Str} {bs : List Sol.B} (hb : ∀ b ∈ bs, b.1 ∈ zs ∧ b.2.1 ∈ zs ∧ b.1 ≠ b.2.1) (h : ringQ bs = false) {u v : Str} {c x : Int} (ne : u ≠ v) (hx : roads Zr zs bs u v = some x) (lx : x ≤ c) :
    ringQ (bs ++ [(u, v, c)]) = false ∧ ∀ y, (passes Zr (bs ++ [(u, v, c)]) ((nsOf (bs ++ [(u, v, c)])).length + 1) (start Zr (nsOf (bs ++ [(u, v, c)]))) none).1.val y = (passes Zr bs ((nsOf bs).length + 1) (start Zr (nsOf bs)) none).1.val y := by
  have hb2 : ∀ b ∈ bs ++ [(u, v, c)], b.1 ≠ b.2.1 := fun x hx => (List.mem_append.mp hx).elim (fun h => (hb x h).2.2) (fun z => by rw [List.mem_singleton.mp z]; exact ne)
  have sd := sol_of (fun b h => (hb b h).2.2) h
  have w3 : ∀ b ∈ bs ++ [(u, v, c)], (passes Zr bs ((nsOf bs).length + 1) (start Zr (nsOf bs)) none).1.val b.1 - b.2.2 ≤ (passes Zr bs ((nsOf bs).length + 1) (start Zr (nsOf bs)) none).1.val b.2.1 := fun b hb3 => by
    rcases List.mem_append.mp hb3 with h | h
    · exact sd.sat b h
    · rw [List.mem_singleton.mp h]
      have h1 := snd_roads (ns := zs) sd.zero sd.pos sd.sat u v x hx
      dsimp only
      omega
  have h2 := no_ring hb2 sd.zero sd.pos w3
  have sd2 := sol_of hb2 h2
  refine ⟨h2, fun y => ?_⟩
  have a1 := least_le (bs := bs ++ [(u, v, c)]) sd.pos w3 ((nsOf (bs ++ [(u, v, c)])).length + 1) none y
  have a2 := least_le (bs := bs) sd2.pos (fun x hx => sd2.sat x (List.mem_append.mpr (.inl hx))) ((nsOf bs).length + 1) none y
  omega
theorem ns_more {bs : List Sol.B} {b : Sol.B} {x : Str} (h : x ∈ nsOf bs) : x ∈ nsOf (bs ++ [b]) := by
  rcases ns_from h with rfl | ⟨c, hc, h | h⟩
  · exact zr_mem _
  · rw [h]; exact (ends_mem (List.mem_append.mpr (.inl hc))).1
  · rw [h]; exact (ends_mem (List.mem_append.mpr (.inl hc))).2
abbrev keyI (v : Str → Int) (ks : List Str) : List (Key × V) := ks.map fun x => (.inr x, .int (v x))
theorem keyI_get {v : Str → Int} {ks : List Str} {u : Str} (h : u ∈ ks) : valV (keyI v ks) (.inr u) = some (.int (v u)) := valK_get (s := ⟨v, fun _ => none⟩) h
theorem unlock {d : Addr} {od : Obj} {u : HO} {H G : Hp} (hd : H d = some u) (s : Same (upd H d (.frz od u)) G) : Same H (upd G d u) := fun x o e => by
  by_cases hx : x = d
  · subst hx
    rw [upd_same, ← hd]
    exact e
  · rw [upd_ne hx]
    exact s _ _ ((upd_ne hx).trans e)
theorem locked {d : Addr} {od : Obj} {u : HO} {H : Hp} {x : Addr} {o : HO} (h : H x = some o) (ne : x ≠ d) : upd H d (.frz od u) x = some o := (upd_ne ne).trans h
def LstB (H G : Hp) (bs : List Sol.B) (v : V) : Prop := (ringQ bs = false ∧ ∃ D, v = .ref D ∧ H D = none ∧ G D = some (.dK (leastK (passes Zr bs ((nsOf bs).length + 1) (start Zr (nsOf bs)) none).1 (nsOf bs)))) ∨ (ringQ bs = true ∧ v = .non)
theorem least_by2 {K : PySem.W.Frag} {σ : L2.St} {H : Hp} {a : Addr} {bs : List Sol.B} {Q : VK} {E : XK} (hB : BnAt K H a bs) (hl : bs.length ≤ 100) (hb : ∀ b ∈ bs, bdD (bnD b) = true) (k : ∀ v G, Same H G → LstB H G bs v → Q v G) : tNil σ H fun vs H2 => spNLeast K (V.ref a :: (vs ++ [])) H2 Q E := by
  show spNLeast K [.ref a] H Q E
  refine ⟨a, bs, rfl, hB, hl, fun b hb2 => bn_ne (hb b hb2), fun s hp D G sG nD hD => k _ G sG (.inl ⟨?_, D, rfl, nD, ?_⟩), fun s v hp G sG => k _ G sG (.inr ⟨?_, rfl⟩)⟩
  · unfold ringQ; rw [hp]; rfl
  · rw [hp]; exact hD
  · unfold ringQ; rw [hp]; rfl
theorem nm_fresh {z d : Str} (h : isNm z = true) (hd : d = "a" ∨ d = "b") : isNm (d ++ cutS z (some 1) none) = true := by
  obtain ⟨h1, h2, h3⟩ := nm_inv h
  obtain ⟨c, hc, e⟩ : ∃ c, isLet c = true ∧ tlc d = [c] := by
    rcases hd with rfl | rfl
    · exact ⟨97, by decide, by decide +kernel⟩
    · exact ⟨98, by decide, by decide +kernel⟩
  have e2 : tlc (d ++ cutS z (some 1) none) = [c] ++ (tlc z).drop 1 := by
    rw [tlc_app, e]
    congr 1
    exact cutS_from (i := 1) h1
  have hl : (d ++ cutS z (some 1) none).length = z.length := by
    rw [← tlc_len, e2, List.length_append, List.length_drop, tlc_len]
    show 1 + (z.length - 1) = z.length
    omega
  refine nm_of (by omega) (by omega) fun x hx => ?_
  rw [e2] at hx
  rcases List.mem_append.mp hx with hx | hx
  · rw [List.mem_singleton.mp hx]; exact hc
  · exact h3 x (List.mem_of_mem_drop hx)
theorem d_line {d : Str} (hd : d = "a" ∨ d = "b") : d.length = 1 := by
  rcases hd with rfl | rfl <;> decide +kernel
theorem BnAt.mb {K : PySem.W.Frag} {G G' : Hp} {a b : Addr} {bs : List Sol.B} {n : Int} (h : BnAt K G a bs) (hB : Bag G b n) (k : Kept b G G') : BnAt K G' a bs := by
  obtain ⟨dx, tz, xs, h1, h2, h3⟩ := h
  exact ⟨dx, tz, xs, h1.mb hB k, h2.mb hB k, pr_imp (fun x c z => by
    obtain ⟨t, rfl, ht⟩ := z
    exact ⟨t, rfl, ht.mb hB k⟩) h3⟩
/-- what stands while bounds are asked of a system -/
structure Wd (K : PySem.W.Frag) (b L F sy EV : Addr) (H G : Hp) (zs ev : List Str) (xs : List V) (bs : List Sol.B) (bv lv : V) : Prop where
  sm : SmN b H G
  hL : LsA b G L (zs.map V.str)
  hE : LsA b G EV (ev.map V.str)
  hF : LsA b G F xs
  hS : BnAt K G sy bs
  bst : (ringQ bs = false ∧ ∃ D, bv = .ref D ∧ G D = some (.dT (bestK (roads Zr ev bs) (prs ev)))) ∨ (ringQ bs = true ∧ bv = .non)
  lst : LstIs G bs lv
section
variable {K : PySem.W.Frag} {b L F sy EV : Addr} {H G G' : Hp} {zs ev : List Str} {xs : List V} {bs : List Sol.B} {bv lv : V}
theorem Wd.mv (h : Wd K b L F sy EV H G zs ev xs bs bv lv) (s : Same G G') : Wd K b L F sy EV H G' zs ev xs bs bv lv :=
  ⟨h.sm.mv s, h.hL.mv s, h.hE.mv s, h.hF.mv s, h.hS.mv s, by
    rcases h.bst with ⟨q, D, e, hD⟩ | q
    · exact .inl ⟨q, D, e, s _ _ hD⟩
    · exact .inr q, h.lst.mv s⟩
theorem Wd.mb {n : Int} (h : Wd K b L F sy EV H G zs ev xs bs bv lv) (hB : Bag G b n) (k : Kept b G G') : Wd K b L F sy EV H G' zs ev xs bs bv lv :=
  ⟨h.sm.mb hB k, h.hL.mb hB k, h.hE.mb hB k, h.hF.mb hB k, h.hS.mb hB k, by
    rcases h.bst with ⟨q, D, e, hD⟩ | q
    · exact .inl ⟨q, D, e, hD.mb hB k⟩
    · exact .inr q, by
    rcases h.lst with ⟨q, D, e, hD⟩ | q
    · exact .inl ⟨q, D, e, hD.mb hB k⟩
    · exact .inr q⟩
end
end K31

set_option Elab.async false
set_option maxRecDepth 100000
set_option maxHeartbeats 2000000
/-! a >> b, a + b of one own class; own + int; int + own; != by an own __eq__ alone. -/
namespace KX
open PySem PySem.Spec PySem.Calls PyProof.Rows L2
open PySem.W (Frag InstAt)
section
variable {prog : Program} {w : World} {A : Around} {E : Value → Shared → Prop} {s : Shared} {K : Frag} {x C L f f0 : Addr} {h₀ : Heap} {m : Str → Option Value} {ox : Obj} {od : Option Obj}
theorem int_add_none {c : Int} {t : Tok} (hx : s.heap.get? x = some ox) (hd : ox.data = .plain) {Q : Fin → Shared → Prop} (q : Q (.done (.ret .notImplemented)) s) : wpAny (model prog w) A (Builtin.«int.__add__» ⟨[.int c t, .ref x], []⟩) Q E s := by
  obtain ⟨hp, g, d, tk, os⟩ := s
  unfold Builtin.«int.__add__» Builtin.Int.intBinary asInt?
  repeat (any_goals (first | assumption | (with_reducible refine wpAny_load hx ?_) | wp_step | (rw [hd])))
theorem try_none {c : Int} {t : Tok} (hx : s.heap.get? x = some ox) (hd : ox.data = .plain) {Q : Option Value → Shared → Prop} (q : Q none s) : wpAny (model prog w) A (tryMethod (.int c t) (dunder "add") (.ref x)) Q E s := by
  unfold tryMethod
  refine wpAny_bind (wpAny_callSpecial?_slot (typeIs_int s c t) F.slot_int_add ?_)
  exact wpAny_call_entry F.slot_int_add (typeIs_int s c t) F.entry_int_add (int_add_none hx hd ⟨_, rfl, wpAny_pure q⟩) (F.args_int_add_2 _ _)
end
end KX

set_option Elab.async false
set_option maxRecDepth 100000
set_option maxHeartbeats 2000000
/-! a >> b, a + b of one own class; own + int; int + own; != by an own __eq__ alone. -/
namespace KX
open PySem PySem.Spec PySem.Calls PyProof.Rows L2
open PySem.W (Frag InstAt Looks looks_subIn)
section
variable {prog : Program} {w : World} {A : Around} {E : Value → Shared → Prop} {s : Shared} {K : Frag} {x C L f f0 : Addr} {h₀ : Heap} {m : Str → Option Value} {ox : Obj} {od : Option Obj}
theorem radd_K {c : Int} {t : Tok} {Q : Value → Shared → Prop} (F0 : Fr h₀ L s.heap m) (X₀ : K.In h₀) (I : InstAt s.heap x ox C od) (hx : s.heap.get? x = some ox) (hd : ox.data = .plain) (hc : PySem.W.selfFirst K C = true)
    (hs : PySem.W.findIn K (.ref C) (dunder "add") = some (some (.ref f0))) (hr : PySem.W.findIn K (.ref C) (dunderR "add") = some (some (.ref f))) (hf : PySem.W.isFn K (.ref f) = true) (hsub : PySem.W.subIn K (.ref C) (.type "int") = some false)
    (h : wpAny (model prog w) A (call (.ref f) [.ref x, .int c t]) (PySem.W.CmpBack Q) E s) : wpAny (model prog w) A (binaryOp .Add (.int c t) (.ref x)) Q E s := by
  have X := X₀.keeps F0.keep
  obtain ⟨cd, rest, hcd, hm⟩ := PySem.W.ksp_first hc
  have hi : Operator.info .Add = ("+", "add") := rfl
  have one := PySem.W.ksp_try X I hr hf h
  have none1 : ∀ {Q : Option Value → Shared → Prop}, Q none s → wpAny (model prog w) A (tryMethod (.int c t) (dunder "add") (.ref x)) Q E s := fun q => try_none hx hd q
  obtain ⟨hh, g, d, tt, os⟩ := s
  have L1 : Looks (model prog w) hh (typeOf (.int c t)) (.type "int") := Looks.of_pure rfl
  have L2 : Looks (model prog w) hh (typeOf (.ref x)) (.ref C) := I.type
  have L3 : Looks (model prog w) hh (fillsNumberSlot (.type "int") "add") true := Looks.of_pure F.fills_int_add
  have L4 : Looks (model prog w) hh (fillsNumberSlot (.ref C) "add") true := PySem.W.fills_K X hcd hm hs
  have L5 : Looks (model prog w) hh (isSubtype (.ref C) (.type "int")) false := PySem.W.looks_subIn X hsub
  have L7 : Looks (model prog w) hh (numberSlotInPython (.type "int") "add") false := Looks.of_pure rfl
  have hne : (Value.type "int" == Value.ref C) = false := Bool.eq_false_iff.mpr fun q => by cases beq_iff_eq.mp q
  simp only [binaryOp, hi]
  refine wpAny_holding (wpAny_bind ?_)
  unfold binaryOp1
  refine wpAny_bind (L1.at (wpAny_bind (L2.at (wpAny_bind (L3.at ?_)))))
  simp only [hne, Bool.false_eq_true, if_false]
  ksp_lk
  refine none1 ?_
  ksp_lk
  refine wpAny_mono one (fun r s' hr' => ?_) fun _ _ e => e
  obtain ⟨v, rfl, hq⟩ := hr'
  ksp_lk
  exact hq
end
end KX

set_option Elab.async false
set_option maxRecDepth 100000
set_option maxHeartbeats 2000000
/-! own + tuple, by the own __add__. -/
namespace KX
open PySem PySem.Spec PySem.Calls PyProof.Rows L2
open PySem.W (Frag InstAt Looks looks_subIn looks_findIn selfFirst findIn subIn isFn ksp_first ksp_try fills_K ksp_fillsT ksp_inPy)
section
variable {prog : Program} {w : World} {A : Around} {E : Value → Shared → Prop} {s : Shared} {K : Frag} {x C L f : Addr} {h₀ : Heap} {m : Str → Option Value} {ox : Obj} {od : Option Obj} {T : String}
theorem binTL {op : Operator} {b : Value} {fo ro rc : Option Value} {Q : Value → Shared → Prop} (F : Fr h₀ L s.heap m) (X₀ : K.In h₀) (I : InstAt s.heap x ox C od) (hb : Looks (model prog w) s.heap (typeOf b) (.type T)) (hc : selfFirst K C = true)
    (hs : findIn K (.ref C) (PySem.dunder op.info.2) = some (some (.ref f))) (hf : isFn K (.ref f) = true) (hr : findIn K (.ref C) (dunderR op.info.2) = some rc) (hp : rc = none ∨ ∃ g : Addr, rc = some (.ref g))
    (h1 : findIn K (.type T) (PySem.dunder op.info.2) = some fo) (h2 : findIn K (.type T) (dunderR op.info.2) = some ro) (hsub : subIn K (.type T) (.ref C) = some false)
    (h : wpAny (model prog w) A (call (.ref f) [.ref x, b]) (PySem.W.CmpBack Q) E s) : wpAny (model prog w) A (binaryOp op (.ref x) b) Q E s := by
  have X := X₀.keeps F.keep
  obtain ⟨cd, rest, hcd, hm⟩ := ksp_first hc
  rcases hi : op.info with ⟨sym, nm'⟩
  rw [hi] at hs hr h1 h2
  dsimp only at hs hr h1 h2
  have one := ksp_try X I hs hf h
  obtain ⟨hh, g, d, tt, os⟩ := s
  have L1 : Looks (model prog w) hh (typeOf (.ref x)) (.ref C) := I.type
  have L2 : Looks (model prog w) hh (typeOf b) (.type T) := hb
  have L3 : Looks (model prog w) hh (fillsNumberSlot (.ref C) nm') true := fills_K X hcd hm hs
  have L4 : Looks (model prog w) hh (fillsNumberSlot (.type T) nm') ((fo.isSome && !isSeqSlot fo) || (ro.isSome && !isSeqSlot ro)) := ksp_fillsT X h1 h2
  have L5 : Looks (model prog w) hh (isSubtype (.type T) (.ref C)) false := looks_subIn X hsub
  have L6 : Looks (model prog w) hh (numberSlotInPython (.ref C) nm') true := ksp_inPy X hs hr hp
  have L7 : Looks (model prog w) hh (numberSlotInPython (.type T) nm') false := Looks.of_pure rfl
  have L8 : Looks (model prog w) hh (typeLookup (.type T) (dunderR nm')) ro := looks_findIn X h2
  generalize ((fo.isSome && !isSeqSlot fo) || (ro.isSome && !isSeqSlot ro)) = right at L4
  have hne : (Value.ref C == Value.type T) = false := Bool.eq_false_iff.mpr fun q => by cases beq_iff_eq.mp q
  simp only [binaryOp, hi]
  refine wpAny_holding (wpAny_bind ?_)
  unfold binaryOp1
  refine wpAny_bind (L1.at (wpAny_bind (L2.at (wpAny_bind (L3.at ?_)))))
  simp only [hne, Bool.false_eq_true, if_false]
  cases right with
  | false =>
    ksp_lk
    refine wpAny_mono one (fun r s' hr' => ?_) fun _ _ e => e
    obtain ⟨v, rfl, hq⟩ := hr'
    ksp_lk
    exact hq
  | true =>
    ksp_lk
    refine wpAny_mono one (fun r s' hr' => ?_) fun _ _ e => e
    obtain ⟨v, rfl, hq⟩ := hr'
    ksp_lk
    exact hq
end
section
variable {X : Cx} {CX : CXT} {k : Nat} {f C : Addr} {fd : FuncData} {ps : List Str} {sp : Sp} {E : XK}
/-- a + t, t a tuple -/
theorem op_addT {fo ro rc : Option Value} (hc : PySem.W.selfFirst X.K C = true) (hs : PySem.W.findIn X.K (.ref C) (PySem.dunder "add") = some (some (.ref f))) (hf : PySem.W.isFn X.K (.ref f) = true) (hrd : PySem.W.findIn X.K (.ref C) (dunderR "add") = some rc) (hp : rc = none ∨ ∃ g : Addr, rc = some (.ref g))
    (h1 : PySem.W.findIn X.K (.type "tuple") (PySem.dunder "add") = some fo) (h2 : PySem.W.findIn X.K (.type "tuple") (dunderR "add") = some ro) (hsub : PySem.W.subIn X.K (.type "tuple") (.ref C) = some false)
    (F : FnOk X.prog X.w X.K X.mg X.base CX k f fd ps sp) (hr : Room k X.A) (hb : Binds X.K fd ps []) (hx : Passes CX X E) :
    OpR X (binaryOp .Add) (fun x y H Q => ∃ a b, x = .ref a ∧ y = .ref b ∧ InsT H a C ∧ TyX X.K H (.ref b) (.type "tuple") ∧ sp [.ref a, .ref b] H (fun v H' => ∃ r, v = .ref r ∧ Q (.ref r) H') E) := by
  intro pins s σ H x y v u Q I rx ry h
  obtain ⟨a, b, rfl, rfl, hi, hty, q⟩ := h
  cases (show v = Value.ref a from rx)
  cases (show u = Value.ref b from ry)
  obtain ⟨ox, od, J⟩ := insT_at I hi
  obtain ⟨m', fr⟩ := I.fr
  obtain ⟨P, Z, p, _⟩ := kit_of I (x := .ref b) (u := .ref b) rfl hty
  refine binTL (op := .Add) (T := "tuple") fr I.mod.kin J (Z.ty _ _ I.kIn p) hc hs hf hrd hp h1 h2 hsub (wpAny_mono (run_in0 F hr hb hx I (us := [.ref a, .ref b]) (vs := [.ref a, .ref b]) (.cons rfl (.cons rfl .nil)) q) (fun w s' z => ?_) fun _ _ z => z)
  obtain ⟨v', H', I', rv, r, rfl, q'⟩ := z
  cases (show w = Value.ref r from rv)
  exact ⟨.ref r, H', I', rfl, q'⟩
end
end KX

set_option Elab.async false
set_option maxRecDepth 100000
set_option maxHeartbeats 2000000
namespace K31
open PySem PySem.Spec PyProof.Rows L2 He KX Sol
def leO : Option Int → Int → Bool
  | some x, c => decide (x ≤ c)
  | none, _ => false
theorem odd_no : ∀ d ∈ ([.none, .bool true, .str "zero", .tuple [.str "zero", .str "zero", .int 5], .list [.str "zero", .str "a", .int 0], .tuple [.str "zero", .str "a", .bool false], .tuple [.str "zero", .str "a"], .tuple []] : List PyData), bd3 d = none ∧ okBd d := by
  have zl : ("zero" : Str).length ≤ 1000 := by decide +kernel
  have al : ("a" : Str).length ≤ 1000 := by decide +kernel
  have s0 : okN (.str "zero") := fun z e => by injection e with e; rw [← e]; exact zl
  have s1 : okN (.str "a") := fun z e => by injection e with e; rw [← e]; exact al
  have tup : ∀ es : List PyData, es.length ≤ 1000 → (∀ e ∈ es, okN e) → okBd (.tuple es) := fun es h1 h2 ds e => by
    injection e with e
    rw [← e]
    exact ⟨h1, h2⟩
  intro d hd
  rcases List.mem_cons.mp hd with rfl | hd
  · exact ⟨rfl, fun _ e => nomatch e⟩
  rcases List.mem_cons.mp hd with rfl | hd
  · exact ⟨rfl, fun _ e => nomatch e⟩
  rcases List.mem_cons.mp hd with rfl | hd
  · exact ⟨rfl, fun _ e => nomatch e⟩
  rcases List.mem_cons.mp hd with rfl | hd
  · refine ⟨?_, tup _ (by decide) fun e he => ?_⟩
    · show (if (isNm "zero" && (isNm "zero" && !decide (("zero" : Str) = "zero"))) = true then some ("zero", "zero", 5) else none : Option Bd) = none
      rw [decide_eq_true rfl, if_neg (by rw [Bool.not_true, Bool.and_false, Bool.and_false]; decide)]
    · rcases List.mem_cons.mp he with rfl | he
      · exact s0
      rcases List.mem_cons.mp he with rfl | he
      · exact s0
      rw [List.mem_singleton.mp he]
      exact fun z e => nomatch e
  rcases List.mem_cons.mp hd with rfl | hd
  · exact ⟨rfl, fun _ e => nomatch e⟩
  rcases List.mem_cons.mp hd with rfl | hd
  · refine ⟨rfl, tup _ (by decide) fun e he => ?_⟩
    rcases List.mem_cons.mp he with rfl | he
    · exact s0
    rcases List.mem_cons.mp he with rfl | he
    · exact s1
    rw [List.mem_singleton.mp he]
    exact fun z e => nomatch e
  rcases List.mem_cons.mp hd with rfl | hd
  · refine ⟨rfl, tup _ (by decide) fun e he => ?_⟩
    rcases List.mem_cons.mp he with rfl | he
    · exact s0
    rw [List.mem_singleton.mp he]
    exact s1
  rw [List.mem_singleton.mp hd]
  exact ⟨rfl, tup _ (by decide) fun e he => nomatch he⟩
def spLaw (K : PySem.W.Frag) : Sp := fun vs H Q _ => ∃ (a : Addr) (ns : List Int), vs = [.ref a] ∧ SqL K H a (ns.map V.int) ∧ ns.length ≤ 63 ∧ ∀ H', Q (.bl true) H'
section
variable {P : Program} {w : World} {K : PySem.W.Frag} {mg : Str → Option Value} {base : Heap}
theorem scLaw : FnScope ["script", "at", "bag", "names", "bounds", "system", "bound", "fresh", "every", "best", "least", "turn", "u", "v", "strict", "near", "c", "follows", "again", "odd", "name"] ["script"] (defScope sLaw) := ⟨rfl, rfl, rfl, by decide +kernel, rfl, by decide +kernel, by decide +kernel⟩
theorem ok_law {f fB fO fN fSy fRd : Addr} {fd fdB fdO fdN fdSy fdRd fdLen fdAdd fdLst fdHas : FuncData} (F : FnP K "law" sLaw f fd) (S : Bnd K)
    (GB : FnOk P w K mg base CX0 1 fB fdB ["script", "at"] (spBag K)) (bB : Binds K fdB ["script", "at"] []) (kB : PySem.W.keepIn K (.ref fB) = true) (gB : mg "_law_bag" = some (.ref fB))
    (GO : FnOk P w K mg base CX0 2 fO fdO ["bag", "some"] (spOf K)) (bO : Binds K fdO ["bag", "some"] []) (kO : PySem.W.keepIn K (.ref fO) = true) (gO : mg "_law_of" = some (.ref fO))
    (GN : FnOk P w K mg base CX0 4 fN fdN ["bag", "many"] spLNz) (bN : Binds K fdN ["bag", "many"] []) (kN : PySem.W.keepIn K (.ref fN) = true) (gN : mg "_law_numbers" = some (.ref fN))
    (GSy : FnOk P w K mg base CX0 3 fSy fdSy ["bag", "names"] spSys) (bSy : Binds K fdSy ["bag", "names"] []) (kSy : PySem.W.keepIn K (.ref fSy) = true) (gSy : mg "_law_system" = some (.ref fSy))
    (GRd : FnOk P w K mg base CX0 2 fRd fdRd ["bounds", "names"] spRds) (bRd : Binds K fdRd ["bounds", "names"] []) (kRd : PySem.W.keepIn K (.ref fRd) = true) (gRd : mg "_law_roads" = some (.ref fRd))
    (GHas : FnOk P w K mg base CX0 3 (ma K (ga K "Bounds") "__contains__") fdHas ["self", "x"] (spNHas K)) (bHas : Binds K fdHas ["self", "x"] [])
    (GLen : FnOk P w K mg base CX0 1 (ma K (ga K "Bounds") "__len__") fdLen ["self"] (spNLen K)) (bLen : Binds K fdLen ["self"] [])
    (GAdd : FnOk P w K mg base CX0 5 (ma K (ga K "Bounds") "__add__") fdAdd ["self", "other"] (spNAdd K)) (bAdd : Binds K fdAdd ["self", "other"] [])
    (GLst : FnOk P w K mg base CX0 3 (ma K (ga K "Bounds") "least") fdLst ["self"] (spNLeast K)) (bLst : Binds K fdLst ["self"] [])
    (GS : FnR P w K mg base (L2N.CX P w) 3 (ma K (ga K "Bounds") "__init__") (spNR K)) (gS : mg "Bounds" = some (.ref (ga K "Bounds")))
    (n_max : mg "max" = none) (n_min : mg "min" = none) (n_len : mg "len" = none) (n_range : mg "range" = none) (n_any : mg "any" = none) : FnOk P w K mg base CX0 6 f fd ["script"] (spLaw K) := by
  refine F.ok scLaw (fun vs H Q E h => ?_) (fun cdv A outer s H vs Q E hr h => ?_)
  · obtain ⟨a, ns, rfl, _⟩ := h
    rfl
  · obtain ⟨a, ns, rfl, hS, hl, k⟩ := h
    have hr1 := hr.mono (j := 1) (by decide)
    have hr2 := hr.mono (j := 2) (by decide)
    have hr3 := hr.mono (j := 3) (by decide)
    have hr4 := hr.mono (j := 4) (by decide)
    have hu64 := hr.units
    have hu := Nat.lt_of_le_of_lt (Nat.add_le_add_left (by decide : 1 ≤ 64) _) hr.units
    have nd := scLaw.nd
    refine ⟨_, PSs.nox (pss_cons (ps_for PassesOwn.never rfl (pi_range1 (by rfl) n_range (pa_cons (pe_callB (call_max2 rfl) (by rfl) n_max (by decide +kernel) (pa_cons pe_int (pa_cons (pe_callB (call_min2 rfl) (by rfl) n_min (by decide +kernel) (pa_cons pe_int (pa_cons (pe_callB call_len_seq (by rfl) n_len PySem.boot_len (pa_cons (pv 0) pa_nil)) pa_nil))) pa_nil))) pa_nil)) (pg_name (i := 1) nd rfl (Or.inl rfl))
(pss_cons (ps_set (i := 2) nd rfl (Or.inl rfl) (pe_call GB hr1 (by rfl) gB kB bB .nil pass0 (pa_cons (pv 0) (pa_cons (pv 1) pa_nil))))
(pss_cons (ps_set (i := 3) nd rfl (Or.inl rfl) (pe_call GN hr4 (by rfl) gN kN bN .nil pass0 (pa_cons (pv 2) (pa_cons pe_int pa_nil))))
(pss_cons (ps_par (i := 4) (j := 5) (by rfl) nd rfl rfl (by decide) rfl rfl (pa_cons (pe_call GSy hr3 (by rfl) gSy kSy bSy .nil pass0 (pa_cons (pv 2) (pa_cons (pv 3) pa_nil))) (pa_cons (pe_makeR0 S.made GS hr4 rfl gS passLN) pa_nil)) (by rfl))
(pss_cons (ps_for PassesOwn.never rfl (pi_list (pv 4)) (pg_name (i := 6) nd rfl (Or.inl rfl))
(pss_one (ps_set (i := 5) nd rfl (Or.inl rfl) (pe_op (op_addT S.fst S.add S.afn S.radd (.inl rfl) S.tadd S.tradd S.tsub GAdd hr bAdd pass0) (pv 5) (pv 6)))))
(pss_cons (ps_set (i := 7) nd rfl (Or.inl rfl) (pe_op op_add_str (pe_ifExp (pt_cmpR op_ne (pe_ix ix_str (pe_ix ix_list (pv 3) pe_int (fun _ _ => rfl)) pe_int (fun _ _ => rfl)) pe_str (nomark _)) pe_str pe_str) (pe_slice sl_str (pe_ix ix_list (pv 3) pe_int (fun _ _ => rfl)) (po_some pe_int) po_none)))
(pss_cons (ps_set (i := 8) nd rfl (Or.inl rfl) (pe_ifExp (pt_cmpR op_notIn_seq (pv 7) (pv 3) rfl) (pe_op op_cat (pv 3) (pe_lst (pa_cons (pv 7) pa_nil))) (pv 3)))
(pss_cons (ps_asg (pe_tup (pa_cons (pe_call GRd hr2 (by rfl) gRd kRd bRd .nil pass0 (pa_cons (pv 4) (pa_cons (pv 8) pa_nil))) (pa_cons (pe_meth0 (pv 5) S.cls (S.mth "least" (by decide)) GLst hr3 bLst .nil pass0) pa_nil))) (pg_tup rfl (pgs_cons (pg_name (i := 9) nd rfl (Or.inl rfl)) (pgs_cons (pg_name (i := 10) nd rfl (Or.inr rfl)) pgs_nil))))
(pss_cons (ps_if (pt_cmpR op_ne (pe_cmpR op_isN (pv 9) pe_non (nomark _)) (pe_cmpR op_isN (pv 10) pe_non (nomark _)) (nomark _))
(pss_one (ps_ret pe_bl))
pss_nil)
(pss_cons (ps_for PassesOwn.never rfl (pi_range1 (by rfl) n_range (pa_cons pe_int pa_nil)) (pg_name (i := 11) nd rfl (Or.inl rfl))
(pss_cons (ps_par (i := 12) (j := 13) (by rfl) nd rfl rfl (by decide) rfl rfl (pa_cons (pe_call GO hr2 (by rfl) gO kO bO .nil pass0 (pa_cons (pv 2) (pa_cons (pv 8) pa_nil))) (pa_cons (pe_call GO hr2 (by rfl) gO kO bO .nil pass0 (pa_cons (pv 2) (pa_cons (pv 8) pa_nil))) pa_nil)) (by rfl))
(pss_cons (ps_if (pt_cmpR op_eq (pv 12) (pv 13) (nomark _))
(pss_one ps_continue)
pss_nil)
(pss_cons (ps_set (i := 14) nd rfl (Or.inl rfl) (pe_ifExp (pt_cmpR op_notN (pv 9) pe_non (nomark _)) (pe_dget hu (pv 9) (pe_tup (pa_cons (pv 12) (pa_cons (pv 13) pa_nil))) (fun _ _ => rfl)) pe_non))
(pss_cons (ps_set (i := 15) nd rfl (Or.inl rfl) (pe_ifExp (pt_cmpR op_isN (pv 14) pe_non (nomark _)) (pe_lst (pa_cons pe_int (pa_cons (pe_un un_neg pe_int) (pa_cons pe_int (pa_cons (pe_op op_pow pe_int pe_int) pa_nil))))) (pe_lst (pa_cons (pv 14) (pa_cons (pe_op op_sub (pv 14) pe_int) (pa_cons (pe_op op_add (pv 14) pe_int) (pa_cons pe_int pa_nil)))))))
(pss_cons (ps_set (i := 16) nd rfl (Or.inl rfl) (pe_call GO hr2 (by rfl) gO kO bO .nil pass0 (pa_cons (pv 2) (pa_cons (pv 15) pa_nil))))
(pss_cons (ps_set (i := 17) nd rfl (Or.inl rfl) (pe_or (pe_cmpR op_isN (pv 9) pe_non (nomark _)) (pe_one (pe_and (pe_cmpR op_notN (pv 14) pe_non (nomark _)) (pe_one (pe_cmpR op_le (pv 14) (pv 16) (nomark _)))))))
(pss_cons (ps_if (pt_cmpR op_ne (pe_cmpR (show OpR _ (compareOp .In) (fun x y H Q => ∃ a, y = .ref a ∧ InsT H a (ga K "Bounds") ∧ spNHas K [.ref a, x] H (fun v H1 => ∃ b, v = .bl b ∧ Q (.bl b) H1) E0) from op_inO (S.mth "__contains__" (by decide)) GHas hr3 bHas pass0) (pe_tup (pa_cons (pv 12) (pa_cons (pv 13) (pa_cons (pv 16) pa_nil)))) (pv 5) rfl) (pv 17) (nomark _))
(pss_one (ps_ret pe_bl))
pss_nil)
(pss_one (ps_if (PW.pt (pw_and (pt_val (pv 17)) (pw_and (pt_cmpR op_in_seq (pv 12) (pv 3) rfl) (pw_and (pt_cmpR op_in_seq (pv 13) (pv 3) rfl) (pw_and1 (pt_cmpR op_notN (pv 9) pe_non (nomark _)))))))
(pss_cons (ps_set (i := 18) nd rfl (Or.inr rfl) (pe_meth0 (pe_op (op_addT S.fst S.add S.afn S.radd (.inl rfl) S.tadd S.tradd S.tsub GAdd hr bAdd pass0) (pv 5) (pe_tup (pa_cons (pv 12) (pa_cons (pv 13) (pa_cons (pv 16) pa_nil))))) S.cls (S.mth "least" (by decide)) GLst hr3 bLst .nil pass0))
(pss_one (ps_if (pt_val (pe_callB (cr_any rfl) (by rfl) n_any (by decide +kernel) (pa_cons (pe_lock (pe_lc (own := [("name", 20)]) (g := (gName 20)) (tt := tYes) rfl nd (pi_keys (pv 10)) (blkOk_by (own := [("name", 20)]) (N := ["script", "at", "bag", "names", "bounds", "system", "bound", "fresh", "every", "best", "least", "turn", "u", "v", "strict", "near", "c", "follows", "again", "odd", "name"]) (sc := defScope sLaw) (by decide +kernel)) (fun _ _ _ _ _ => (pg_name (i := 20) nd rfl (Or.inl rfl))) (fun _ _ _ _ _ => pts_nil) (fun _ _ _ _ _ => (pe_cmpR op_ne (pe_dget hu (pv 18) (pv 20) (fun _ _ => rfl)) (pe_dget hu (pv 10) (pv 20) (fun _ _ => rfl)) (nomark _))))) pa_nil)))
(pss_one (ps_ret pe_bl))
pss_nil)))
pss_nil))))))))))
(pss_cons (ps_for PassesOwn.never rfl (pi_tup (pe_tup (pa_cons pe_non (pa_cons pe_bl (pa_cons pe_str (pa_cons (pe_tup (pa_cons pe_str (pa_cons pe_str (pa_cons pe_int pa_nil)))) (pa_cons (pe_lst (pa_cons pe_str (pa_cons pe_str (pa_cons pe_int pa_nil)))) (pa_cons (pe_tup (pa_cons pe_str (pa_cons pe_str (pa_cons pe_bl pa_nil)))) (pa_cons (pe_tup (pa_cons pe_str (pa_cons pe_str pa_nil))) (pa_cons (pe_tup pa_nil) pa_nil)))))))))) (pg_name (i := 19) nd rfl (Or.inl rfl))
(pss_one (ps_if (pt_cmpR (show OpR _ (compareOp .In) (fun x y H Q => ∃ a, y = .ref a ∧ InsT H a (ga K "Bounds") ∧ spNHas K [.ref a, x] H (fun v H1 => ∃ b, v = .bl b ∧ Q (.bl b) H1) E0) from op_inO (S.mth "__contains__" (by decide)) GHas hr3 bHas pass0) (pv 19) (pv 5) rfl)
(pss_one (ps_ret pe_bl))
pss_nil)))
(pss_one (ps_if (pt_cmpR op_ne (pe_callB (call_lenO (S.mth "__len__" (by decide)) GLen hr2 bLen pass0) (by rfl) n_len PySem.boot_len (pa_cons (pv 5) pa_nil)) (pe_callB call_len_seq (by rfl) n_len PySem.boot_len (pa_cons (pv 4) pa_nil)) (nomark _))
(pss_one (ps_ret pe_bl))
pss_nil)))))))))))))
(pss_one (ps_ret pe_bl))), ?_⟩
    refine ⟨_, rfl, a, _, rfl, .inl hS, _, _, rfl, _, _, rfl, _, rfl, ?_, ?_, ?_⟩
    · rw [List.length_map]; split <;> (try split) <;> omega
    · rw [List.length_map]; split <;> (try split) <;> omega
    rw [List.length_map]
    have hn3 : (if (if (ns.length : Int) < 2 then (ns.length : Int) else 2) > 1 then (if (ns.length : Int) < 2 then (ns.length : Int) else 2) else 1).toNat ≤ 2 := by
      split <;> (try split) <;> omega
    generalize (if (if (ns.length : Int) < 2 then (ns.length : Int) else 2) > 1 then (if (ns.length : Int) < 2 then (ns.length : Int) else 2) else 1).toNat = nn at hn3
    refine for_it (walk_rng (n := nn)) (fun _ σ G => ∃ v1 v2 v3 v4 v5 v6 v7 v8 v9 v10 v11 v12 v13 v14 v15 v16 v17 v18 v19 v20, σ = [some (.ref a), v1, v2, v3, v4, v5, v6, v7, v8, v9, v10, v11, v12, v13, v14, v15, v16, v17, v18, v19, v20] ∧ Same H G)
      ⟨none, none, none, none, none, none, none, none, none, none, none, none, none, none, none, none, none, none, none, none, rfl, Same.refl H⟩ (fun _ _ _ _ _ => trivial) ?_ (fun σ G _ => k _)
    rintro i x σ G' G hi ⟨v1, v2, v3, v4, v5, v6, v7, v8, v9, v10, v11, v12, v13, v14, v15, v16, v17, v18, v19, v20, rfl, sG⟩ ⟨rfl, rfl⟩
    refine ⟨_, rfl, _, rfl, a, ns, i, rfl, sG.seq hS, hl, by omega, fun b G1 nb kb eb hB => ?_⟩
    dsimp only [gName, List.set]
    have hbH : H b = none := sG.free nb
    have sm : SmN b H G1 := ⟨hbH, fun x o e => kb _ _ (ne_of_none (sG _ _ e) nb) (sG _ _ e)⟩
    refine ⟨_, rfl, b, 0, 6, rfl, hB, by decide, by decide, by decide, fun L zs G2 hN z1 z7 hz => ?_⟩
    obtain ⟨nL, hLb, k2, hB2, hL2, ndz, nmz⟩ := hN
    have sm := sm.mb hB k2
    have hL : NmL b L G2 zs := ⟨⟨hLb, hL2⟩, z1, by omega⟩
    refine ⟨_, rfl, _, rfl, b, L, _, zs, rfl, hB2, by omega, hL, ndz, fun F0 xs bs G3 bl hbl hgd => ?_⟩
    have sm := sm.mb hB2 bl.kep
    have hL := hL.mb hB2 bl.kep
    have hB := bl.bag.mono (n' := 600) (by omega)
    have hF := bl.fnd
    have hP := bl.par
    have hL := hL.at_
    clear bl hB2 k2 nL hL2 hLb nb kb eb sG
    have hxl := Paired.length hP
    have hgb : ∀ x ∈ bs, bdD (bnD x) = true := fun x h => by
      obtain ⟨h1, h2, h3⟩ := hgd x h
      unfold bnD
      rw [bd_parts]
      show (isNm x.1 && (isNm x.2.1 && ((!decide (x.1 = x.2.1)) && true))) = true
      rw [nmz _ h1, nmz _ h2, decide_eq_false h3]
      rfl
    -- system
    refine fun sy dy ny ndy hny => made_none ny ndy hny fun G5 s5 hS5 => ⟨_, _, rfl, ?_⟩
    dsimp only [gName, List.set]
    have sm := sm.mv s5
    have hL := hL.mv s5
    have hF := hF.mv s5
    have hB := hB.mv s5
    have hP := pr_imp (fun _ _ z => BAt.same z s5) hP
    clear s5 ny ndy hny
    refine ⟨_, rfl, F0, rfl, ⟨_, SqL.of hF.at_⟩, ?_⟩
    refine for_it (walk_list (K := K) (a := F0) (xs := xs)) (fun j σ G => ∃ w6 sy, σ = [some (.ref a), some (.int (i : Int)), some (.ref b), some (.ref L), some (.ref F0), some (.ref sy), w6, v7, v8, v9, v10, v11, v12, v13, v14, v15, v16, v17, v18, v19, v20] ∧ Same G5 G ∧ BnAt K G sy (bs.take j))
      ⟨v6, sy, rfl, .refl _, hS5⟩ (fun _ _ _ _ h => by obtain ⟨_, _, _, q, _⟩ := h; exact SqL.of (q _ _ hF.at_)) ?_ ?_
    · rintro j x σ G' G6 hj ⟨w6, sy, rfl, s6, hS⟩ ⟨rfl, hx⟩
      dsimp only [gName, List.set]
      obtain ⟨b1, hb1, t, rfl, ht⟩ := pr_at hP hx
      have hbm := List.mem_of_getElem? hb1
      have ht6 := s6 _ _ ht
      obtain ⟨dx2, tz2, ys2, ha2, hBr2⟩ := id hS
      have htl : (bs.take j).length ≤ 90 := by rw [List.length_take]; omega
      refine ⟨_, rfl, _, rfl, sy, t, rfl, rfl, ⟨_, _, ha2⟩, .base (.tup ht6), sy, _, _, b1, rfl, hS, htl, ⟨t, rfl, SqT.of ht6⟩, (fun b h => ⟨hgb _ (List.mem_of_mem_take h), okBd_bn (hgb _ (List.mem_of_mem_take h))⟩), hgb _ hbm, okBd_bn (hgb _ hbm), fun r G7 nr s7 hR => ⟨_, rfl, ?_⟩⟩
      refine ⟨_, r, rfl, s6.trans s7, ?_⟩
      rw [List.take_succ, hb1]
      exact hR
    rintro σ G6 ⟨w6, sy, rfl, s6, hS⟩
    rw [hxl, List.take_length] at hS
    have sm := sm.mv s6
    have hL := hL.mv s6
    have hF := hF.mv s6
    have hB := hB.mv s6
    have hP := pr_imp (fun _ _ z => BAt.same z s6) hP
    clear s6 hS5
    have hb90 : bs.length ≤ 90 := by omega
    -- fresh
    dsimp only
    refine seq_by (fun σ G => ∃ fr, σ = [some (.ref a), some (.int (i : Int)), some (.ref b), some (.ref L), some (.ref F0), some (.ref sy), w6, some (.str fr), v8, v9, v10, v11, v12, v13, v14, v15, v16, v17, v18, v19, v20]  ∧ isNm fr = true ∧ G6 = G) ?_ (fun nxt => ?_)
    · rintro σ _ ⟨fr, rfl, hfr, rfl⟩
      -- every
      refine seq_by (fun σ G => ∃ (EV : Addr) (ev : List Str), σ = [some (.ref a), some (.int (i : Int)), some (.ref b), some (.ref L), some (.ref F0), some (.ref sy), w6, some (.str fr), some (.ref EV), v9, v10, v11, v12, v13, v14, v15, v16, v17, v18, v19, v20] ∧ Same G6 G ∧ LsA b G EV (ev.map V.str) ∧ ev.Nodup ∧ ev.length ≤ 8 ∧ (∀ z ∈ ev, isNm z = true) ∧ (∀ z ∈ zs, z ∈ ev)) ?_ (fun nxt => ?_)
      · rintro σ G ⟨EV, ev, rfl, s7, hE, nde, hel, nme, hze⟩
        have sm := sm.mv s7
        have hL := hL.mv s7
        have hF := hF.mv s7
        have hB := hB.mv s7
        have hS := hS.mv s7
        have hP := pr_imp (fun _ _ z => BAt.same z s7) hP
        clear s7
        have hge : ∀ b ∈ bs, b.1 ∈ ev ∧ b.2.1 ∈ ev ∧ b.1 ≠ b.2.1 := fun x h => ⟨hze _ (hgd x h).1, hze _ (hgd x h).2.1, (hgd x h).2.2⟩
        have hze0 := hze _ hz
        refine seq_by (fun σ G => ∃ bv lv, σ = [some (.ref a), some (.int (i : Int)), some (.ref b), some (.ref L), some (.ref F0), some (.ref sy), w6, some (.str fr), some (.ref EV), some bv, some lv, v11, v12, v13, v14, v15, v16, v17, v18, v19, v20] ∧ Bag G b 600 ∧ Wd K b L F0 sy EV H G zs ev xs bs bv lv) ?_ (fun nxt => ?_)
        · rintro σ G ⟨bv, lv, rfl, hB, W⟩
          have e1 : decide (bv = V.non) = ringQ bs := by
            rcases W.bst with ⟨q, D, rfl, _⟩ | ⟨q, rfl⟩
            · rw [q]; rfl
            · rw [q]; rfl
          have e2 : decide (lv = V.non) = ringQ bs := by
            rcases W.lst with ⟨q, D, rfl, _⟩ | ⟨q, rfl⟩
            · rw [q]; rfl
            · rw [q]; rfl
          refine ⟨_, rfl, rfl, _, rfl, rfl, rfl, _, rfl, no (by rw [e1, e2, decide_eq_true rfl]; rfl) ?_⟩
          clear e1 e2 sm hL hF hS hP
          refine ⟨_, rfl, by decide, by decide, ?_⟩
          refine for_it (walk_rng (n := 12)) (fun j σ G => ∃ v11 v12 v13 v14 v15 v16 v17 v18 v19 v20, σ = [some (.ref a), some (.int (i : Int)), some (.ref b), some (.ref L), some (.ref F0), some (.ref sy), w6, some (.str fr), some (.ref EV), some bv, some lv, v11, v12, v13, v14, v15, v16, v17, v18, v19, v20] ∧ Bag G b (600 + 3 * j) ∧ Wd K b L F0 sy EV H G zs ev xs bs bv lv)
            ⟨v11, v12, v13, v14, v15, v16, v17, v18, v19, v20, rfl, hB.mono (by omega), W⟩ (fun _ _ _ _ _ => trivial) ?_ ?_
          · clear hB W v11 v12 v13 v14 v15 v16 v17 v18 v19 v20
            rintro j x σ G' G hj ⟨v11, v12, v13, v14, v15, v16, v17, v18, v19, v20, rfl, hB, W⟩ ⟨rfl, rfl⟩
            dsimp only [gName, List.set]
            refine ⟨_, rfl, _, rfl, b, EV, _, _, rfl, hB, by omega, W.hE.ne, SqL.of W.hE.at_, (by rw [List.length_map]; exact List.length_pos_of_mem hze0), (by rw [List.length_map]; omega), fun j1 x1 G1 hv1 k1 hB1 => ?_⟩
            have W := W.mb hB k1.kept
            obtain ⟨u, hu1, rfl⟩ := Option.map_eq_some_iff.mp ((List.getElem?_map ..).symm.trans hv1)
            refine ⟨_, rfl, _, rfl, b, EV, _, _, rfl, hB1, by omega, W.hE.ne, SqL.of W.hE.at_, (by rw [List.length_map]; exact List.length_pos_of_mem hze0), (by rw [List.length_map]; omega), fun j2 x2 G2 hv2 k2 hB2 => ?_⟩
            have W := W.mb hB1 k2.kept
            obtain ⟨v, hv1', rfl⟩ := Option.map_eq_some_iff.mp ((List.getElem?_map ..).symm.trans hv2)
            have um := List.mem_of_getElem? hu1
            have vm := List.mem_of_getElem? hv1'
            clear hv1 hv2 hu1 hv1' k1 k2 hB hB1
            refine ⟨_, _, rfl, ?_⟩
            dsimp only [List.set]
            refine ⟨_, rfl, _, rfl, rfl, _, rfl, ?_⟩
            by_cases huv : u = v
            · refine yes (decide_eq_true (congrArg V.str huv)) ?_
              exact ⟨_, _, _, _, _, _, _, _, _, _, rfl, hB2.mono (by omega), W⟩
            refine no (decide_eq_false fun e => huv (by injection e)) ?_
            have nu := nme _ um
            have nv := nme _ vm
            have hB2 := hB2.mono (n' := 600 + 3 * j + 2) (by omega)
            -- strict
            unfold tNext
            dsimp only
            refine seq_by (fun σ G => σ = [some (.ref a), some (.int (i : Int)), some (.ref b), some (.ref L), some (.ref F0), some (.ref sy), w6, some (.str fr), some (.ref EV), some bv, some lv, some (.int (j : Int)), some (.str u), some (.str v), some (optV (if ringQ bs = true then none else roads Zr ev bs u v)), v15, v16, v17, v18, v19, v20] ∧ Bag G b (600 + 3 * j + 2) ∧ Wd K b L F0 sy EV H G zs ev xs bs bv lv) ?_ (fun nxt => ?_)
            · clear W hB2
              rintro σ G3 ⟨rfl, hB, W⟩
              generalize ho : (if ringQ bs = true then none else roads Zr ev bs u v) = o
              -- near
              refine seq_by (fun σ G => ∃ (NR : Addr) (ys : List V), σ = [some (.ref a), some (.int (i : Int)), some (.ref b), some (.ref L), some (.ref F0), some (.ref sy), w6, some (.str fr), some (.ref EV), some bv, some lv, some (.int (j : Int)), some (.str u), some (.str v), some (optV o), some (.ref NR), v16, v17, v18, v19, v20] ∧ Bag G b (600 + 3 * j + 2) ∧ Wd K b L F0 sy EV H G zs ev xs bs bv lv ∧ LsA b G NR ys ∧ ys.length = 4 ∧ ∀ y ∈ ys, ∃ c : Int, y = .int c) ?_ (fun nxt => ?_)
              · clear hB W
                rintro σ G4 ⟨NR, ys, rfl, hB, W, hN, hyl, hyi⟩
                refine ⟨_, rfl, _, rfl, b, NR, _, ys, rfl, hB, by omega, hN.ne, SqL.of hN.at_, by omega, by omega, fun j3 x3 G5 hv3 k3 hB3 => ?_⟩
                obtain ⟨c, rfl⟩ := hyi _ (List.mem_of_getElem? hv3)
                have W := W.mb hB k3.kept
                have hB := hB3.mono (n' := 600 + 3 * (j + 1 : Nat)) (by omega)
                clear hB3 k3 hv3 hN hyl hyi
                have hfl : hasQ bs (bnD (u, v, c)) = (ringQ bs || leO o c) := by
                  cases hq : ringQ bs with
                  | true =>
                    rw [has_nm nu nv huv, ring_more (fun b h => (hge b h).2.2) (fun e => huv e.symm) hq]
                    rfl
                  | false =>
                    rw [hq] at ho
                    rw [has_roads hze0 hge hq nu nv huv um vm, ← ho, if_neg Bool.false_ne_true]
                    cases roads Zr ev bs u v <;> rfl
                dsimp only [gName, List.set]
                -- follows
                refine seq_by (fun σ G => σ = [some (.ref a), some (.int (i : Int)), some (.ref b), some (.ref L), some (.ref F0), some (.ref sy), w6, some (.str fr), some (.ref EV), some bv, some lv, some (.int (j : Int)), some (.str u), some (.str v), some (optV o), some (.ref NR), some (.int c), some (.bl (hasQ bs (bnD (u, v, c)))), v18, v19, v20] ∧ G5 = G) ?_ (fun nxt => ?_)
                · rintro σ _ ⟨rfl, rfl⟩
                  refine ⟨_, rfl, _, rfl, _, rfl, (by show 3 ≤ sizeLine; decide), fun T nT => ?_⟩
                  generalize e_G6 : upd _ T _ = G6
                  have s_T := new_same e_G6 nT
                  have f_T := new_at e_G6
                  clear e_G6
                  have W := W.mv s_T
                  have hB := hB.mv s_T
                  obtain ⟨dx2, tz2, ys2, ha2, hBr2⟩ := id W.hS
                  have okB : okBd (bnD (u, v, c)) := okBd_bn (by
                    unfold bnD
                    rw [bd_parts]
                    show (isNm u && (isNm v && ((!decide (u = v)) && true))) = true
                    rw [nu, nv, decide_eq_false huv]
                    rfl)
                  refine ⟨_, rfl, sy, rfl, ⟨_, _, ha2⟩, sy, bs, _, bnD (u, v, c), rfl, W.hS, hb90, (fun b h => (hge b h).2.2), .tup (SqT.of f_T) (.cons (.str _) (.cons (.str _) (.cons (.int _) .nil))), okB, fun G7 s7 => ⟨_, rfl, ?_⟩⟩
                  clear ha2 hBr2
                  have W := W.mv s7
                  have hB := hB.mv s7
                  clear s7 s_T f_T nT
                  refine ⟨_, rfl, rfl, _, rfl, no (congrArg not (decide_eq_true rfl)) ?_⟩
                  refine ⟨_, rfl, _, rfl, ?_⟩
                  cases hf : hasQ bs (bnD (u, v, c)) with
                  | false => exact no rfl ⟨_, _, _, _, _, _, _, _, _, _, rfl, hB, W⟩
                  | true =>
                    refine yes rfl ?_
                    have fl : ∀ l : List Str, (l.map V.str).all flatV = true := fun l => List.all_eq_true.mpr fun y hy => by
                      obtain ⟨z, _, rfl⟩ := List.mem_map.mp hy
                      rfl
                    refine ⟨_, rfl, _, rfl, L, _, rfl, .inl (SqL.of W.hL.at_), rfl, fl zs, _, rfl, ?_⟩
                    rw [if_neg Bool.false_ne_true, inV_str]
                    by_cases c1 : u ∈ zs
                    · refine yes (decide_eq_true c1) ?_
                      refine ⟨_, rfl, _, rfl, L, _, rfl, .inl (SqL.of W.hL.at_), rfl, fl zs, _, rfl, ?_⟩
                      rw [if_neg Bool.false_ne_true, inV_str]
                      by_cases c2 : v ∈ zs
                      · refine yes (decide_eq_true c2) ?_
                        rcases W.bst with ⟨hq, D, rfl, hD⟩ | ⟨hq, rfl⟩
                        · refine ⟨_, rfl, rfl, _, rfl, yes rfl ?_⟩
                          have hq1 : ∃ x, roads Zr ev bs u v = some x ∧ x ≤ c := by
                            rw [has_roads hze0 hge hq nu nv huv um vm] at hf
                            cases hr : roads Zr ev bs u v with
                            | none => rw [hr] at hf; cases hf
                            | some x => rw [hr] at hf; exact ⟨x, rfl, of_decide_eq_true hf⟩
                          obtain ⟨x, hx, lx⟩ := hq1
                          obtain ⟨hr2, hval⟩ := same_least hge hq huv hx lx
                          have hbuv : bdD (bnD (u, v, c)) = true := by
                            unfold bnD
                            rw [bd_parts]
                            show (isNm u && (isNm v && ((!decide (u = v)) && true))) = true
                            rw [nu, nv, decide_eq_false huv]
                            rfl
                          have hgb2 : ∀ x ∈ bs ++ [(u, v, c)], bdD (bnD x) = true := fun x hx => (List.mem_append.mp hx).elim (hgb x) (fun z => by rw [List.mem_singleton.mp z]; exact hbuv)
                          -- again
                          refine ⟨_, rfl, _, rfl, _, rfl, _, rfl, (by show 3 ≤ sizeLine; decide), fun T2 nT2 => ?_⟩
                          generalize e_G8 : upd _ T2 _ = G8
                          have s_T2 := new_same e_G8 nT2
                          have f_T2 := new_at e_G8
                          clear e_G8
                          have W := W.mv s_T2
                          have hB := hB.mv s_T2
                          obtain ⟨dx2, tz2, ys2, ha2, hBr2⟩ := id W.hS
                          refine ⟨sy, T2, rfl, rfl, ⟨_, _, ha2⟩, .base (.tup f_T2), sy, _, _, (u, v, c), rfl, W.hS, hb90, ⟨T2, rfl, SqT.of f_T2⟩, (fun b h => ⟨hgb _ h, okBd_bn (hgb _ h)⟩), hbuv, okBd_bn hbuv, fun r G9 nr s9 hR => ⟨_, rfl, ?_⟩⟩
                          clear ha2 hBr2
                          have W := W.mv s9
                          have hB := hB.mv s9
                          obtain ⟨dx3, tz3, ys3, ha3, hBr3⟩ := id hR
                          obtain ⟨DL, rfl, hDL⟩ : ∃ DL, lv = .ref DL ∧ G9 DL = some (.dK (leastK (passes Zr bs ((nsOf bs).length + 1) (start Zr (nsOf bs)) none).1 (nsOf bs))) := by
                            rcases W.lst with ⟨_, q⟩ | ⟨q, _⟩
                            · exact q
                            · rw [hq] at q; cases q
                          refine ⟨r, _, _, rfl, ha3, rfl, least_by2 hR (by rw [List.length_append]; show bs.length + 1 ≤ 100; omega) hgb2 fun lv2 G10 s10 hlv2 => ?_⟩
                          obtain ⟨D2, rfl, nD2, hD2⟩ : ∃ D2, lv2 = .ref D2 ∧ G9 D2 = none ∧ G10 D2 = some (.dK (leastK (passes Zr (bs ++ [(u, v, c)]) ((nsOf (bs ++ [(u, v, c)])).length + 1) (start Zr (nsOf (bs ++ [(u, v, c)]))) none).1 (nsOf (bs ++ [(u, v, c)])))) := by
                            rcases hlv2 with ⟨_, q⟩ | ⟨q, _⟩
                            · exact q
                            · rw [hr2] at q; cases q
                          have hne : D2 ≠ DL := (ne_of_none hDL nD2).symm
                          have W := W.mv s10
                          have hB := hB.mv s10
                          have hDL := hDL.mv s10
                          clear hlv2 nD2 hR ha3 hBr3 s10 s9 s_T2 f_T2 nT2
                          dsimp only [gName, List.set]
                          generalize (passes Zr bs ((nsOf bs).length + 1) (start Zr (nsOf bs)) none).1 = st at hDL hval
                          generalize (passes Zr (bs ++ [(u, v, c)]) ((nsOf (bs ++ [(u, v, c)])).length + 1) (start Zr (nsOf (bs ++ [(u, v, c)]))) none).1 = st2 at hD2 hval
                          rw [show leastK st (nsOf bs) = keyI st.val ((nsOf bs).filter fun x => decide (x ≠ Zr)) from rfl] at hDL
                          rw [show leastK st2 (nsOf (bs ++ [(u, v, c)])) = keyI st2.val ((nsOf (bs ++ [(u, v, c)])).filter fun x => decide (x ≠ Zr)) from rfl] at hD2
                          have tin : ∀ x ∈ (nsOf bs).filter (fun x => decide (x ≠ Zr)), x ∈ (nsOf (bs ++ [(u, v, c)])).filter (fun x => decide (x ≠ Zr)) := fun x hx => by
                            obtain ⟨h1, h2⟩ := List.mem_filter.mp hx
                            exact List.mem_filter.mpr ⟨ns_more h1, h2⟩
                          have tl : ((nsOf bs).filter (fun x => decide (x ≠ Zr))).length ≤ 100 := by
                            have h1 : (nsOf bs).length ≤ 1 + (endsL bs).length := by
                              have := fold_len (Zr :: endsL bs) []
                              rw [List.length_cons] at this
                              have z : ([] : List Str).length = 0 := rfl
                              unfold nsOf
                              omega
                            rw [endsL_len] at h1
                            have h2 := List.length_filter_le (fun x => decide (x ≠ Zr)) (nsOf bs)
                            omega
                          generalize (nsOf bs).filter (fun x => decide (x ≠ Zr)) = ts at hDL tin tl
                          generalize (nsOf (bs ++ [(u, v, c)])).filter (fun x => decide (x ≠ Zr)) = ts2 at hD2 tin
                          refine ⟨DL, _, hDL, trivial, fun od => ?_⟩
                          have f2 := locked (od := od) (u := .dK (keyI st.val ts)) hD2 hne
                          have fD : upd G10 DL (.frz od (.dK (keyI st.val ts))) DL = some (.frz od (.dK (keyI st.val ts))) := upd_same
                          have ul := fun G => unlock (G := G) (od := od) hDL
                          generalize upd G10 DL (.frz od (.dK (keyI st.val ts))) = Gf at f2 fD ul ⊢
                          refine ⟨_, rfl, DL, od, rfl, .inl ⟨_, fD, fun A nA => ?_⟩⟩
                          refine lc_it (walk_keys (d := DL) (o := od) (kvs := keyI st.val ts)) (fun j G => G A = some (.lst ((List.replicate j false).map V.bl)) ∧ Same Gf G) ?_ (fun i G _ h => h.2 _ _ fD) ?_ ?_
                          · skip
                            generalize e_G11 : upd _ A _ = G11
                            have s_A := new_same e_G11 nA
                            have f_A := new_at e_G11
                            clear e_G11
                            exact ⟨f_A, s_A⟩
                          · rintro j1 x1 G' G hj1 ⟨hA, s4⟩ ⟨rfl, key, val, hkv, rfl⟩
                            obtain ⟨z, hz1, ekv⟩ := Option.map_eq_some_iff.mp ((List.getElem?_map ..).symm.trans hkv)
                            injection ekv with ek ev1
                            subst ek
                            have hzt := List.mem_of_getElem? hz1
                            refine ⟨rfl, ?_⟩
                            dsimp only [tYes]
                            rw [if_pos rfl]
                            refine ⟨_, rfl, _, rfl, D2, _, rfl, .inl ⟨_, .inr z, .inl (s4 _ _ f2), rfl, (keyI_get (tin z hzt)).symm⟩, _, rfl, _, rfl, DL, _, rfl, .inl ⟨_, .inr z, .inr ⟨od, s4 _ _ fD⟩, rfl, (keyI_get hzt).symm⟩, rfl, ?_⟩
                            rw [ne_same (hval z)]
                            refine ⟨_, hA, ?_, ?_, fun y o e => (upd_ne (ne_of_none e nA)).trans (s4 _ _ e)⟩
                            · rw [List.length_map] at hj1
                              rw [List.length_map, List.length_replicate, sizeLine_eq]; omega
                            · rw [upd_same, List.replicate_succ', List.map_append]; rfl
                          rintro G4 ⟨hA, s4⟩
                          refine ⟨s4 _ _ fD, ?_⟩
                          have hAD : A ≠ DL := (ne_of_none fD nA).symm
                          have hA := (upd_ne (o := .dK (keyI st.val ts)) hAD).trans hA
                          have s5 := ul _ s4
                          generalize upd G4 DL (.dK (keyI st.val ts)) = G5b at s5 hA ⊢
                          have W := W.mv s5
                          have hB := hB.mv s5
                          refine ⟨A, List.replicate _ false, rfl, SqL.of hA, _, rfl, no (List.any_eq_false.mpr fun b hb h => by rw [(List.mem_replicate.mp hb).2] at h; cases h) ?_⟩
                          exact ⟨_, _, _, _, _, _, _, _, _, _, rfl, hB, W⟩
                        · exact ⟨_, rfl, rfl, _, rfl, no rfl ⟨_, _, _, _, _, _, _, _, _, _, rfl, hB, W⟩⟩
                      · exact no (decide_eq_false c2) ⟨_, _, _, _, _, _, _, _, _, _, rfl, hB, W⟩
                    · exact no (decide_eq_false c1) ⟨_, _, _, _, _, _, _, _, _, _, rfl, hB, W⟩
                · rcases W.bst with ⟨hq, D, rfl, _⟩ | ⟨hq, rfl⟩
                  · refine ⟨_, rfl, rfl, _, rfl, no rfl ?_⟩
                    cases o with
                    | none =>
                      refine ⟨_, rfl, rfl, _, rfl, no rfl ?_⟩
                      exact nxt _ _ ⟨by rw [hfl, hq]; rfl, rfl⟩
                    | some x =>
                      refine ⟨_, rfl, rfl, _, rfl, yes rfl ?_⟩
                      refine ⟨_, rfl, _, rfl, _, _, rfl, rfl, ?_⟩
                      exact nxt _ _ ⟨by rw [hfl, hq]; rfl, rfl⟩
                  · refine ⟨_, rfl, rfl, _, rfl, yes rfl ?_⟩
                    exact nxt _ _ ⟨by rw [hfl, hq]; rfl, rfl⟩
              · cases o with
                | none =>
                  refine ⟨_, rfl, rfl, _, rfl, yes rfl ?_⟩
                  refine ⟨_, rfl, _, _, rfl, rfl, ⟨by decide, by decide, by decide⟩, (by show 4 ≤ sizeLine; decide), fun NR nNR => ?_⟩
                  have hNb := hB.ne nNR
                  generalize e_G4 : upd _ NR _ = G4
                  have s_NR := new_same e_G4 nNR
                  have f_NR := new_at e_G4
                  clear e_G4
                  have W := W.mv s_NR
                  have hB := hB.mv s_NR
                  refine nxt _ _ ⟨NR, _, rfl, hB, W, ⟨hNb, f_NR⟩, rfl, fun y hy => ?_⟩
                  rcases List.mem_cons.mp hy with rfl | hy
                  · exact ⟨_, rfl⟩
                  rcases List.mem_cons.mp hy with rfl | hy
                  · exact ⟨_, rfl⟩
                  rcases List.mem_cons.mp hy with rfl | hy
                  · exact ⟨_, rfl⟩
                  exact ⟨_, List.mem_singleton.mp hy⟩
                | some x =>
                  refine ⟨_, rfl, rfl, _, rfl, no rfl ?_⟩
                  refine ⟨_, rfl, _, rfl, _, _, rfl, rfl, _, rfl, _, _, rfl, rfl, (by show 4 ≤ sizeLine; decide), fun NR nNR => ?_⟩
                  have hNb := hB.ne nNR
                  generalize e_G4 : upd _ NR _ = G4
                  have s_NR := new_same e_G4 nNR
                  have f_NR := new_at e_G4
                  clear e_G4
                  have W := W.mv s_NR
                  have hB := hB.mv s_NR
                  refine nxt _ _ ⟨NR, _, rfl, hB, W, ⟨hNb, f_NR⟩, rfl, fun y hy => ?_⟩
                  rcases List.mem_cons.mp hy with rfl | hy
                  · exact ⟨_, rfl⟩
                  rcases List.mem_cons.mp hy with rfl | hy
                  · exact ⟨_, rfl⟩
                  rcases List.mem_cons.mp hy with rfl | hy
                  · exact ⟨_, rfl⟩
                  exact ⟨_, List.mem_singleton.mp hy⟩
            · rcases W.bst with ⟨hq, D, rfl, hD⟩ | ⟨hq, rfl⟩
              · refine ⟨_, rfl, rfl, _, rfl, yes rfl ?_⟩
                refine ⟨_, rfl, _, rfl, _, rfl, (by show 2 ≤ sizeLine; decide), fun T1 nT1 => ?_⟩
                generalize e_G3 : upd _ T1 _ = G3
                have s_T1 := new_same e_G3 nT1
                have f_T1 := new_at e_G3
                clear e_G3
                have hD := hD.mv s_T1
                have W := W.mv s_T1
                have hB2 := hB2.mv s_T1
                refine ⟨D, _, rfl, bget hD f_T1 (prs_mem.mpr ⟨um, vm⟩), ?_⟩
                exact nxt _ _ ⟨by rw [hq]; rfl, hB2, W⟩
              · refine ⟨_, rfl, rfl, _, rfl, no rfl ?_⟩
                exact nxt _ _ ⟨by rw [hq]; rfl, hB2, W⟩
          · rintro σ G ⟨v11, v12, v13, v14, v15, v16, v17, v18, v19, v20, rfl, hB, W⟩
            dsimp only
            -- odd things
            refine ⟨(by show 3 ≤ sizeLine; decide), fun A1 nA1 => ?_⟩
            generalize e_G1 : upd _ A1 _ = G1
            have s_A1 := new_same e_G1 nA1
            have f_A1 := new_at e_G1
            clear e_G1
            have W := W.mv s_A1
            refine ⟨(by show 3 ≤ sizeLine; decide), fun A2 nA2 => ?_⟩
            generalize e_G2 : upd _ A2 _ = G2
            have s_A2 := new_same e_G2 nA2
            have f_A2 := new_at e_G2
            clear e_G2
            have W := W.mv s_A2
            have f_A1 := f_A1.mv s_A2
            refine ⟨(by show 3 ≤ sizeLine; decide), fun A3 nA3 => ?_⟩
            generalize e_G3 : upd _ A3 _ = G3
            have s_A3 := new_same e_G3 nA3
            have f_A3 := new_at e_G3
            clear e_G3
            have W := W.mv s_A3
            have f_A1 := f_A1.mv s_A3
            have f_A2 := f_A2.mv s_A3
            refine ⟨(by show 2 ≤ sizeLine; decide), fun A4 nA4 => ?_⟩
            generalize e_G4 : upd _ A4 _ = G4
            have s_A4 := new_same e_G4 nA4
            have f_A4 := new_at e_G4
            clear e_G4
            have W := W.mv s_A4
            have f_A1 := f_A1.mv s_A4
            have f_A2 := f_A2.mv s_A4
            have f_A3 := f_A3.mv s_A4
            refine ⟨(by show 0 ≤ sizeLine; decide), fun A5 nA5 => ?_⟩
            generalize e_G5 : upd _ A5 _ = G5
            have s_A5 := new_same e_G5 nA5
            have f_A5 := new_at e_G5
            clear e_G5
            have W := W.mv s_A5
            have f_A1 := f_A1.mv s_A5
            have f_A2 := f_A2.mv s_A5
            have f_A3 := f_A3.mv s_A5
            have f_A4 := f_A4.mv s_A5
            refine ⟨(by show 8 ≤ sizeLine; decide), fun T nT => ?_⟩
            generalize e_G6 : upd _ T _ = G6
            have s_T := new_same e_G6 nT
            have f_T := new_at e_G6
            clear e_G6
            have W := W.mv s_T
            have f_A1 := f_A1.mv s_T
            have f_A2 := f_A2.mv s_T
            have f_A3 := f_A3.mv s_T
            have f_A4 := f_A4.mv s_T
            have f_A5 := f_A5.mv s_T
            have hD : DpAll K G6 [.non, .bl true, .str "zero", .ref A1, .ref A2, .ref A3, .ref A4, .ref A5] [.none, .bool true, .str "zero", .tuple [.str "zero", .str "zero", .int 5], .list [.str "zero", .str "a", .int 0], .tuple [.str "zero", .str "a", .bool false], .tuple [.str "zero", .str "a"], .tuple []] :=
              .cons .non (.cons (.bl _) (.cons (.str _) (.cons (.tup (SqT.of f_A1) (.cons (.str _) (.cons (.str _) (.cons (.int _) .nil)))) (.cons (.lst (SqL.of f_A2) (.cons (.str _) (.cons (.str _) (.cons (.int _) .nil)))) (.cons (.tup (SqT.of f_A3) (.cons (.str _) (.cons (.str _) (.cons (.bl _) .nil)))) (.cons (.tup (SqT.of f_A4) (.cons (.str _) (.cons (.str _) .nil))) (.cons (.tup (SqT.of f_A5) .nil) .nil)))))))
            have hO : ∀ d ∈ ([.none, .bool true, .str "zero", .tuple [.str "zero", .str "zero", .int 5], .list [.str "zero", .str "a", .int 0], .tuple [.str "zero", .str "a", .bool false], .tuple [.str "zero", .str "a"], .tuple []] : List PyData), bd3 d = none ∧ okBd d := odd_no
            clear s_A1 s_A2 s_A3 s_A4 s_A5 s_T f_A1 f_A2 f_A3 f_A4 f_A5 nA1 nA2 nA3 nA4 nA5 nT
            refine ⟨T, rfl, ⟨_, SqT.of f_T⟩, ?_⟩
            generalize ([.non, .bl true, .str "zero", .ref A1, .ref A2, .ref A3, .ref A4, .ref A5] : List V) = items at f_T hD ⊢
            generalize ([.none, .bool true, .str "zero", .tuple [.str "zero", .str "zero", .int 5], .list [.str "zero", .str "a", .int 0], .tuple [.str "zero", .str "a", .bool false], .tuple [.str "zero", .str "a"], .tuple []] : List PyData) = ds at hD hO
            refine for_it (walk_tup (K := K) (a := T) (xs := items)) (fun j σ G => ∃ w19, σ = [some (.ref a), some (.int (i : Int)), some (.ref b), some (.ref L), some (.ref F0), some (.ref sy), w6, some (.str fr), some (.ref EV), some bv, some lv, v11, v12, v13, v14, v15, v16, v17, v18, w19, v20] ∧ Same G6 G)
              ⟨_, rfl, .refl _⟩ (fun _ _ _ _ h => by obtain ⟨_, _, q⟩ := h; exact SqT.of (q _ _ f_T)) ?_ ?_
            · rintro j x σ G' G7 hj ⟨w19, rfl, s7⟩ ⟨rfl, hx⟩
              dsimp only [gName, List.set]
              obtain ⟨d, hd, hDx⟩ := dpall_at hD hx
              obtain ⟨hn, hok⟩ := hO d (List.mem_of_getElem? hd)
              have hS7 := W.hS.mv s7
              obtain ⟨dx2, tz2, ys2, ha2, hBr2⟩ := id hS7
              refine ⟨_, rfl, _, rfl, sy, rfl, ⟨_, _, ha2⟩, sy, bs, _, d, rfl, hS7, hb90, (fun b h => (hge b h).2.2), hDx.mv s7, hok, fun G8 s8 => ⟨_, rfl, ?_⟩⟩
              rw [show hasQ bs d = false by unfold hasQ; rw [hn]]
              refine ⟨_, rfl, no rfl ?_⟩
              exact ⟨_, rfl, s7.trans s8⟩
            rintro σ G7 ⟨w19, rfl, s7⟩
            have W := W.mv s7
            obtain ⟨dx2, tz2, ys2, ha2, hBr2⟩ := id W.hS
            refine ⟨_, rfl, sy, rfl, ⟨_, _, ha2⟩, sy, bs, rfl, W.hS, by omega, bs.length, rfl, by omega, _, rfl, F0, _, rfl, .inl (SqL.of W.hF.at_), rfl, _, rfl, no (ne_same (by omega)) ?_⟩
            exact ⟨_, _, _, _, _, _, _, _, _, _, _, _, _, _, _, _, _, _, _, _, rfl, W.sm.sm⟩
        · -- best, least
          refine ⟨_, rfl, _, rfl, F0, EV, xs, bs, ev, rfl, hF.at_, hP, hE.at_, nde, by omega, fun b h => ⟨(hge b h).1, (hge b h).2.1⟩, fun hg D G7 s7 nD hD => ?_, fun hg G7 s7 => ?_⟩
          · skip
            have sm := sm.mv s7
            have hL := hL.mv s7
            have hE := hE.mv s7
            have hF := hF.mv s7
            have hS := hS.mv s7
            have hB := hB.mv s7
            obtain ⟨dx2, tz2, ys2, ha2, hBr2⟩ := id hS
            refine ⟨_, rfl, sy, _, _, rfl, ha2, rfl, least_by hS (by omega) hgb fun lv G8 s8 hlv => ?_⟩
            have sm := sm.mv s8
            have hL := hL.mv s8
            have hE := hE.mv s8
            have hF := hF.mv s8
            have hS := hS.mv s8
            have hB := hB.mv s8
            have hD := hD.mv s8
            refine ⟨(by show 2 ≤ sizeLine; decide), fun T nT => ?_⟩
            generalize e_G9 : upd _ T _ = G9
            have s_T := new_same e_G9 nT
            have f_T := new_at e_G9
            clear e_G9
            have sm := sm.mv s_T
            have hL := hL.mv s_T
            have hE := hE.mv s_T
            have hF := hF.mv s_T
            have hS := hS.mv s_T
            have hB := hB.mv s_T
            have hD := hD.mv s_T
            have hlv := hlv.mv s_T
            refine ⟨_, _, rfl, SqT.of f_T, rfl, _, _, rfl, _, _, rfl, rfl, ?_⟩
            exact nxt _ _ ⟨_, lv, rfl, hB, ⟨sm, hL, hE, hF, hS, .inl ⟨(roads_ring hze0 hge).mp hg, D, rfl, hD⟩, hlv⟩⟩
          · skip
            have sm := sm.mv s7
            have hL := hL.mv s7
            have hE := hE.mv s7
            have hF := hF.mv s7
            have hS := hS.mv s7
            have hB := hB.mv s7
            obtain ⟨dx2, tz2, ys2, ha2, hBr2⟩ := id hS
            refine ⟨_, rfl, sy, _, _, rfl, ha2, rfl, least_by hS (by omega) hgb fun lv G8 s8 hlv => ?_⟩
            have sm := sm.mv s8
            have hL := hL.mv s8
            have hE := hE.mv s8
            have hF := hF.mv s8
            have hS := hS.mv s8
            have hB := hB.mv s8
            refine ⟨(by show 2 ≤ sizeLine; decide), fun T nT => ?_⟩
            generalize e_G9 : upd _ T _ = G9
            have s_T := new_same e_G9 nT
            have f_T := new_at e_G9
            clear e_G9
            have sm := sm.mv s_T
            have hL := hL.mv s_T
            have hE := hE.mv s_T
            have hF := hF.mv s_T
            have hS := hS.mv s_T
            have hB := hB.mv s_T
            have hlv := hlv.mv s_T
            refine ⟨_, _, rfl, SqT.of f_T, rfl, _, _, rfl, _, _, rfl, rfl, ?_⟩
            exact nxt _ _ ⟨_, lv, rfl, hB, ⟨sm, hL, hE, hF, hS, .inr ⟨by
              cases hq : ringQ bs with
              | true => rfl
              | false => exact absurd ((roads_ring hze0 hge).mpr hq) hg, rfl⟩, hlv⟩⟩
      · -- every
        have fl : (zs.map V.str).all flatV = true := List.all_eq_true.mpr fun y hy => by
          obtain ⟨z, _, rfl⟩ := List.mem_map.mp hy
          rfl
        refine ⟨_, rfl, _, rfl, L, _, rfl, .inl (SqL.of hL.at_), rfl, fl, _, rfl, ?_⟩
        rw [if_pos rfl, inV_str]
        by_cases c : fr ∈ zs
        · refine no (congrArg not (decide_eq_true c)) ?_
          refine ⟨_, rfl, ?_⟩
          exact nxt _ _ ⟨L, zs, rfl, .refl _, hL, ndz, by omega, nmz, fun _ h => h⟩
        · refine yes (congrArg not (decide_eq_false c)) ?_
          refine ⟨_, rfl, _, rfl, (by show 1 ≤ sizeLine; decide), fun X nX => ?_⟩
          generalize e_G7 : upd _ X _ = G7
          have s_X := new_same e_G7 nX
          have f_X := new_at e_G7
          clear e_G7
          have hL := hL.mv s_X
          have hB := hB.mv s_X
          refine ⟨L, X, _, _, rfl, rfl, hL.at_, f_X, (by rw [List.length_map, sizeLine_eq]; show zs.length + 1 ≤ _; omega), fun EV nE => ?_⟩
          have hEb := hB.ne nE
          generalize e_G8 : upd _ EV _ = G8
          have s_EV := new_same e_G8 nE
          have f_EV := new_at e_G8
          clear e_G8
          refine nxt _ _ ⟨EV, zs ++ [fr], rfl, s_X.trans s_EV, ⟨hEb, by rw [List.map_append]; exact f_EV⟩, List.nodup_append.mpr ⟨ndz, List.nodup_cons.mpr ⟨nofun, List.nodup_nil⟩, fun x hx y hy e => c (by rw [← List.mem_singleton.mp hy, ← e]; exact hx)⟩, by rw [List.length_append]; show zs.length + 1 ≤ 8; omega, fun z hz => (List.mem_append.mp hz).elim (nmz z) (fun h => by rw [List.mem_singleton.mp h]; exact hfr), fun z hz => List.mem_append.mpr (.inl hz)⟩
    · -- fresh
      obtain ⟨z0, hz0⟩ : ∃ z0, zs[0]? = some z0 := ⟨_, List.getElem?_eq_getElem (by omega)⟩
      have n0 := nmz z0 (List.mem_of_getElem? hz0)
      obtain ⟨h1, h2, _⟩ := nm_inv n0
      have ix : atI (zs.map V.str) 0 = some (.str z0) := atI_nat (j := 0) ((List.getElem?_map ..).trans (congrArg (Option.map V.str) hz0))
      obtain ⟨c0, hc0⟩ : ∃ c0, z0.cps.toList[0]? = some c0 := ⟨_, List.getElem?_eq_getElem (by rw [Array.length_toList]; exact h1)⟩
      have ix0 : atI z0.cps.toList 0 = some c0 := atI_nat (j := 0) hc0
      refine ⟨_, rfl, L, _, 0, _, rfl, rfl, SqL.of hL.at_, ix, z0, 0, c0, rfl, rfl, nm_line n0, ix0, rfl, _, rfl, ite2' (fun _ => ?_) (fun _ => ?_)⟩
      · refine ⟨_, rfl, L, _, 0, _, rfl, rfl, SqL.of hL.at_, ix, _, rfl, z0, rfl, nm_line n0, _, _, rfl, rfl, ?_, nxt _ _ ⟨_, rfl, nm_fresh n0 (.inl rfl), rfl⟩⟩
        have := cutS_len z0 (some 1) none
        rw [d_line (.inl rfl), sizeLine_eq]
        omega
      · refine ⟨_, rfl, L, _, 0, _, rfl, rfl, SqL.of hL.at_, ix, _, rfl, z0, rfl, nm_line n0, _, _, rfl, rfl, ?_, nxt _ _ ⟨_, rfl, nm_fresh n0 (.inr rfl), rfl⟩⟩
        have := cutS_len z0 (some 1) none
        rw [d_line (.inr rfl), sizeLine_eq]
        omega
end
end K31

set_option Elab.async false
set_option maxRecDepth 100000
set_option maxHeartbeats 0
namespace K31
open PySem PySem.Spec PyProof.Rows L2 He KX
structure Fs (K : PySem.W.Frag) : Prop where
  brd : Bnd K
  fre : ∀ x ∈ frees, (Fa.free x).ok K = true
  glo : ∀ x ∈ gls, (Fa.glo x).ok K = true
  bb : ErBB K
  zer : (Fa.str "ZERO" "zero").ok K = true
theorem ba9 {a b : Bool} (h : (a && b) = true) : a = true ∧ b = true := Bool.and_eq_true_iff.mp h
theorem brd_of {K : PySem.W.Frag} (h : bndB K = true) : Bnd K := by
  unfold bndB at h
  obtain ⟨h1, h⟩ := ba9 h
  obtain ⟨h2, h⟩ := ba9 h
  obtain ⟨h3, h⟩ := ba9 h
  obtain ⟨h4, h⟩ := ba9 h
  obtain ⟨h5, h⟩ := ba9 h
  obtain ⟨h6, h⟩ := ba9 h
  obtain ⟨h7, h⟩ := ba9 h
  obtain ⟨h8, h⟩ := ba9 h
  obtain ⟨h9, h⟩ := ba9 h
  obtain ⟨h10, h⟩ := ba9 h
  obtain ⟨h11, h⟩ := ba9 h
  obtain ⟨h12, h⟩ := ba9 h
  obtain ⟨h13, h⟩ := ba9 h
  obtain ⟨h14, h15⟩ := ba9 h
  exact ⟨mkr_ok h1, cls_ok h2, noat_ok h3, fun m hm => meth_ok (List.all_eq_true.mp h4 m hm), of_decide_eq_true h5, h7, eqO_ok h8, eqO_ok h9, eqO_ok h10, eqO_ok h11, of_decide_eq_true h12, eqO_ok h13, of_decide_eq_true h14, h15⟩
theorem facts_of {K : PySem.W.Frag} (h : chk K = true) : Fs K := by
  unfold chk at h
  obtain ⟨h1, h⟩ := ba9 h
  obtain ⟨h2, h⟩ := ba9 h
  obtain ⟨h3, h⟩ := ba9 h
  obtain ⟨h4, h5⟩ := ba9 h
  exact ⟨brd_of h2, List.all_eq_true.mp h4, List.all_eq_true.mp h5, er_of h1, h3⟩
theorem all_ok {P : Program} {w : World} {K : PySem.W.Frag} {h : Heap} {mg : Str → Option Value} {f : Addr} (X : K.In h) (G : h.Ns mainGlobals mg) (hfa : mg ("law" : Str) = some (.ref f)) (c : SaysX chk fn K) :
    ∃ fd : FuncData, (∀ (s : Shared) (u : Value), BindsTo s fd ⟨[u], []⟩ [("script", u)]) ∧ ∀ base : Heap, K.In base → base.Ns mainGlobals mg → FnG P w K mg base CX0 6 f fd ["script"] (spLaw K) := by
  have cx := c
  have S := facts_of cx.1
  have g : ∀ x ∈ gls, mg x = some (.ref (ga K x)) := fun x hx => glo_ok X G (S.glo x hx)
  have fr : ∀ x ∈ frees, mg x = none := fun x hx => free_ok X G (S.fre x hx)
  obtain ⟨fd0, F0⟩ := cx.fd 0
  replace F0 : FnP K "is_integer" sInt (ga K "is_integer") fd0 := F0
  obtain ⟨fd1, F1⟩ := cx.fd 1
  replace F1 : FnP K "is_name" sName (ga K "is_name") fd1 := F1
  obtain ⟨fd4, F4⟩ := cx.fd 4
  replace F4 : FnP K "opposite" sOpp (ga K "opposite") fd4 := F4
  obtain ⟨fd5, F5⟩ := cx.fd 5
  replace F5 : FnP K "is_bound" sBound (ga K "is_bound") fd5 := F5
  obtain ⟨fd6, F6⟩ := cx.fd 6
  replace F6 : FnP K "_solved" sSolved (ga K "_solved") fd6 := F6
  obtain ⟨fd7, F7⟩ := cx.fd 7
  replace F7 : FnP K "_ring" sRing2 (ga K "_ring") fd7 := F7
  obtain ⟨fd8, F8⟩ := cx.fd 8
  replace F8 : FnP K "_law_bag" sBag (ga K "_law_bag") fd8 := F8
  obtain ⟨fd9, F9⟩ := cx.fd 9
  replace F9 : FnP K "_law_draw" sDraw (ga K "_law_draw") fd9 := F9
  obtain ⟨fd10, F10⟩ := cx.fd 10
  replace F10 : FnP K "_law_of" sOf (ga K "_law_of") fd10 := F10
  obtain ⟨fd11, F11⟩ := cx.fd 11
  replace F11 : FnP K "_law_name" sLNm (ga K "_law_name") fd11 := F11
  obtain ⟨fd12, F12⟩ := cx.fd 12
  replace F12 : FnP K "_law_names" sLNms (ga K "_law_names") fd12 := F12
  obtain ⟨fd13, F13⟩ := cx.fd 13
  replace F13 : FnP K "_law_numbers" sLNum (ga K "_law_numbers") fd13 := F13
  obtain ⟨fd14, F14⟩ := cx.fd 14
  replace F14 : FnP K "_law_system" sLSys (ga K "_law_system") fd14 := F14
  obtain ⟨fd15, F15⟩ := cx.fd 15
  replace F15 : FnP K "_law_roads" sLRds (ga K "_law_roads") fd15 := F15
  obtain ⟨fd16, F16⟩ := cx.fd 16
  replace F16 : FnP K "_law_pairs" sLPrs (ga K "_law_pairs") fd16 := F16
  obtain ⟨fd17, F17⟩ := cx.fd 17
  replace F17 : FnP K "law" sLaw (ga K "law") fd17 := F17
  obtain ⟨fd2, F2⟩ := cx.fd 2
  replace F2 : FunD K "__init__" (("BadBound" : Str) ++ ".__init__") (defArgs sBBI) (defBody sBBI) (defScope sBBI) [] [] (ma K (ga K "BadBound") "__init__") fd2 := F2
  rw [(by decide +kernel : (("BadBound" : Str) ++ ".__init__" : Str) = "BadBound.__init__")] at F2
  obtain ⟨fd3, F3⟩ := cx.fd 3
  replace F3 : FunD K "__init__" (("Bounds" : Str) ++ ".__init__") (defArgs sNInit) (defBody sNInit) (defScope sNInit) [] [] (ma K (ga K "Bounds") "__init__") fd3 := F3
  rw [(by decide +kernel : (("Bounds" : Str) ++ ".__init__" : Str) = "Bounds.__init__")] at F3
  obtain ⟨fd18, F18⟩ := cx.fd 18
  replace F18 : FunD K "least" (("Bounds" : Str) ++ "." ++ "least") (defArgs sNLeast) (defBody sNLeast) (defScope sNLeast) [] [] (ma K (ga K "Bounds") "least") fd18 := F18
  rw [(by decide +kernel : (("Bounds" : Str) ++ "." ++ "least" : Str) = "Bounds.least")] at F18
  replace F18 : MtP K "least" "Bounds.least" sNLeast (ma K (ga K "Bounds") "least") fd18 := F18
  obtain ⟨fd19, F19⟩ := cx.fd 19
  replace F19 : FunD K "ring" (("Bounds" : Str) ++ "." ++ "ring") (defArgs sNRing) (defBody sNRing) (defScope sNRing) [] [] (ma K (ga K "Bounds") "ring") fd19 := F19
  rw [(by decide +kernel : (("Bounds" : Str) ++ "." ++ "ring" : Str) = "Bounds.ring")] at F19
  replace F19 : MtP K "ring" "Bounds.ring" sNRing (ma K (ga K "Bounds") "ring") fd19 := F19
  obtain ⟨fd20, F20⟩ := cx.fd 20
  replace F20 : FunD K "__contains__" (("Bounds" : Str) ++ "." ++ "__contains__") (defArgs sNHas) (defBody sNHas) (defScope sNHas) [] [] (ma K (ga K "Bounds") "__contains__") fd20 := F20
  rw [(by decide +kernel : (("Bounds" : Str) ++ "." ++ "__contains__" : Str) = "Bounds.__contains__")] at F20
  replace F20 : MtP K "__contains__" "Bounds.__contains__" sNHas (ma K (ga K "Bounds") "__contains__") fd20 := F20
  obtain ⟨fd21, F21⟩ := cx.fd 21
  replace F21 : FunD K "__add__" (("Bounds" : Str) ++ "." ++ "__add__") (defArgs sNAdd) (defBody sNAdd) (defScope sNAdd) [] [] (ma K (ga K "Bounds") "__add__") fd21 := F21
  rw [(by decide +kernel : (("Bounds" : Str) ++ "." ++ "__add__" : Str) = "Bounds.__add__")] at F21
  replace F21 : MtP K "__add__" "Bounds.__add__" sNAdd (ma K (ga K "Bounds") "__add__") fd21 := F21
  obtain ⟨fd22, F22⟩ := cx.fd 22
  replace F22 : FunD K "__len__" (("Bounds" : Str) ++ "." ++ "__len__") (defArgs sNLen) (defBody sNLen) (defScope sNLen) [] [] (ma K (ga K "Bounds") "__len__") fd22 := F22
  rw [(by decide +kernel : (("Bounds" : Str) ++ "." ++ "__len__" : Str) = "Bounds.__len__")] at F22
  replace F22 : MtP K "__len__" "Bounds.__len__" sNLen (ma K (ga K "Bounds") "__len__") fd22 := F22
  have e := hfa.symm.trans (g "law" (by decide))
  cases e
  refine ⟨fd17, fun s u => FunD.bindsA (ps := ["script"]) F17 (fun _ _ _ _ _ _ us hl => match us, hl with | [_], _ => rfl) s [u] rfl, fun base _ _ => ?_⟩
  have n_isinstance := fr "isinstance" (by decide)
  have n_int := fr "int" (by decide)
  have n_bool := fr "bool" (by decide)
  have n_str := fr "str" (by decide)
  have n_len := fr "len" (by decide)
  have n_all := fr "all" (by decide)
  have n_tuple := fr "tuple" (by decide)
  have n_list := fr "list" (by decide)
  have n_enumerate := fr "enumerate" (by decide)
  have n_sum := fr "sum" (by decide)
  have n_abs := fr "abs" (by decide)
  have n_range := fr "range" (by decide)
  have n_max := fr "max" (by decide)
  have n_min := fr "min" (by decide)
  have n_dict := fr "dict" (by decide)
  have n_any := fr "any" (by decide)
  have b0 : Binds K fd0 ["thing"] [] := F0.bindsN fun _ _ _ _ _ _ us hl => match us, hl with | [_], _ => rfl
  have b1 : Binds K fd1 ["thing"] [] := F1.bindsN fun _ _ _ _ _ _ us hl => match us, hl with | [_], _ => rfl
  have b4 : Binds K fd4 ["bound"] [] := F4.bindsN fun _ _ _ _ _ _ us hl => match us, hl with | [_], _ => rfl
  have b5 : Binds K fd5 ["thing"] [] := F5.bindsN fun _ _ _ _ _ _ us hl => match us, hl with | [_], _ => rfl
  have b6 : Binds K fd6 ["bounds"] [] := F6.bindsN fun _ _ _ _ _ _ us hl => match us, hl with | [_], _ => rfl
  have b7 : Binds K fd7 ["causes", "name"] [] := F7.bindsN fun _ _ _ _ _ _ us hl => match us, hl with | [_, _], _ => rfl
  have b8 : Binds K fd8 ["script", "at"] [] := F8.bindsN fun _ _ _ _ _ _ us hl => match us, hl with | [_, _], _ => rfl
  have b9 : Binds K fd9 ["bag", "many"] [] := F9.bindsN fun _ _ _ _ _ _ us hl => match us, hl with | [_, _], _ => rfl
  have b10 : Binds K fd10 ["bag", "some"] [] := F10.bindsN fun _ _ _ _ _ _ us hl => match us, hl with | [_, _], _ => rfl
  have b11 : Binds K fd11 ["bag"] [] := F11.bindsN fun _ _ _ _ _ _ us hl => match us, hl with | [_], _ => rfl
  have b12 : Binds K fd12 ["bag", "many"] [] := F12.bindsN fun _ _ _ _ _ _ us hl => match us, hl with | [_, _], _ => rfl
  have b13 : Binds K fd13 ["bag", "many"] [] := F13.bindsN fun _ _ _ _ _ _ us hl => match us, hl with | [_, _], _ => rfl
  have b14 : Binds K fd14 ["bag", "names"] [] := F14.bindsN fun _ _ _ _ _ _ us hl => match us, hl with | [_, _], _ => rfl
  have b15 : Binds K fd15 ["bounds", "names"] [] := F15.bindsN fun _ _ _ _ _ _ us hl => match us, hl with | [_, _], _ => rfl
  have b16 : Binds K fd16 ["names"] [] := F16.bindsN fun _ _ _ _ _ _ us hl => match us, hl with | [_], _ => rfl
  have b17 : Binds K fd17 ["script"] [] := F17.bindsN fun _ _ _ _ _ _ us hl => match us, hl with | [_], _ => rfl
  have b2 : Binds K fd2 ["self", "index"] [] := F2.bindsN fun _ _ _ _ _ _ us hl => match us, hl with | [_, _], _ => rfl
  have b18 : Binds K fd18 ["self"] [] := F18.bindsN fun _ _ _ _ _ _ us hl => match us, hl with | [_], _ => rfl
  have b19 : Binds K fd19 ["self"] [] := F19.bindsN fun _ _ _ _ _ _ us hl => match us, hl with | [_], _ => rfl
  have b20 : Binds K fd20 ["self", "x"] [] := F20.bindsN fun _ _ _ _ _ _ us hl => match us, hl with | [_, _], _ => rfl
  have b21 : Binds K fd21 ["self", "other"] [] := F21.bindsN fun _ _ _ _ _ _ us hl => match us, hl with | [_, _], _ => rfl
  have b22 : Binds K fd22 ["self"] [] := F22.bindsN fun _ _ _ _ _ _ us hl => match us, hl with | [_], _ => rfl
  have g0 := g "is_integer" (by decide)
  have g1 := g "is_name" (by decide)
  have g4 := g "opposite" (by decide)
  have g5 := g "is_bound" (by decide)
  have g6 := g "_solved" (by decide)
  have g7 := g "_ring" (by decide)
  have g8 := g "_law_bag" (by decide)
  have g9 := g "_law_draw" (by decide)
  have g10 := g "_law_of" (by decide)
  have g11 := g "_law_name" (by decide)
  have g12 := g "_law_names" (by decide)
  have g13 := g "_law_numbers" (by decide)
  have g14 := g "_law_system" (by decide)
  have g15 := g "_law_roads" (by decide)
  have g16 := g "_law_pairs" (by decide)
  have g17 := g "law" (by decide)
  have G0 : FnOk P w K mg base CX0 1 (ga K "is_integer") fd0 ["thing"] (spInt K) := ok_int F0 n_isinstance n_int n_bool
  have G1 : FnOk P w K mg base CX0 1 (ga K "is_name") fd1 ["thing"] (spName K) := ok_name F1 n_isinstance n_str n_len n_all
  have G4 : FnOk P w K mg base CX0 1 (ga K "opposite") fd4 ["bound"] (spOpp K) := ok_opp F4
  have G5 : FnOk P w K mg base CX0 2 (ga K "is_bound") fd5 ["thing"] (spBound K) := ok_bound F5 F0 F1 g0 g1 n_isinstance n_int n_bool n_str n_tuple n_len n_all
  have G8 : FnOk P w K mg base CX0 1 (ga K "_law_bag") fd8 ["script", "at"] (spBag K) := ok_bag F8 n_len n_abs n_int
  have G9 : FnOk P w K mg base CX0 1 (ga K "_law_draw") fd9 ["bag", "many"] spDraw := ok_draw F9 n_int
  have G10 : FnOk P w K mg base CX0 2 (ga K "_law_of") fd10 ["bag", "some"] (spOf K) := ok_of F10 F9 g9 n_len n_int
  have G11 : FnOk P w K mg base CX0 2 (ga K "_law_name") fd11 ["bag"] spLName := ok_lnm F11 G9 b9 F9.kp g9 n_range
  have G12 : FnOk P w K mg base CX0 3 (ga K "_law_names") fd12 ["bag", "many"] spLNames := ok_lnms F12 G9 b9 F9.kp g9 G10 b10 F10.kp g10 G11 b11 F11.kp g11 n_range n_len
  have G13 : FnOk P w K mg base CX0 4 (ga K "_law_numbers") fd13 ["bag", "many"] spLNz := ok_lnumZ F13 G12 b12 F12.kp g12
  obtain ⟨tz, gZ⟩ := str_ok X G S.zer
  have G7 : FnOk P w K mg base CX0 1 (ga K "_ring") fd7 ["causes", "name"] spRing2 := ok_ring2 F7 n_range n_len
  have G6 : FnOk P w K mg base CX0 2 (ga K "_solved") fd6 ["bounds"] (spSolved K) := ok_solved F6 G7 b7 F7.kp g7 gZ n_range n_len
  have gB := g "Bounds" (by decide)
  have gBB := g "BadBound" (by decide)
  have GS : FnR P w K mg base (L2N.CX P w) 3 (ma K (ga K "Bounds") "__init__") (spNR K) := ok_ninit F3 S.bb gBB F2 G5 b5 F5.kp g5 n_enumerate S.brd.cls S.brd.noat
  have G18 : FnOk P w K mg base CX0 3 (ma K (ga K "Bounds") "least") fd18 ["self"] (spNLeast K) := ok_nleast F18 S.brd G6 b6 F6.kp g6 gZ
  have G20 : FnOk P w K mg base CX0 3 (ma K (ga K "Bounds") "__contains__") fd20 ["self", "x"] (spNHas K) := ok_nhas F20 S.brd G5 b5 F5.kp g5 G4 b4 F4.kp g4 G6 b6 F6.kp g6
  have G21 : FnOk P w K mg base CX0 5 (ma K (ga K "Bounds") "__add__") fd21 ["self", "other"] (spNAdd K) := ok_nadd F21 S.brd GS gB
  have G22 : FnOk P w K mg base CX0 1 (ma K (ga K "Bounds") "__len__") fd22 ["self"] (spNLen K) := ok_nlen F22 S.brd n_len
  have G14 : FnOk P w K mg base CX0 3 (ga K "_law_system") fd14 ["bag", "names"] spSys := ok_lsys F14 G9 b9 F9.kp g9 G10 b10 F10.kp g10 n_range n_dict
  have G16 : FnOk P w K mg base CX0 1 (ga K "_law_pairs") fd16 ["names"] spPrs := ok_lprs F16
  have G15 : FnOk P w K mg base CX0 2 (ga K "_law_roads") fd15 ["bounds", "names"] spRds := ok_lrds F15 G16 b16 F16.kp g16 n_dict n_min n_all
  exact FnG.of (ok_law F17 S.brd G8 b8 F8.kp g8 G10 b10 F10.kp g10 G13 b13 F13.kp g13 G14 b14 F14.kp g14 G15 b15 F15.kp g15 G20 b20 G22 b22 G21 b21 G18 b18 GS gB n_max n_min n_len n_range n_any)
end K31
open PySem PySem.W PySem.Calls PyProof.Rows
set_option maxRecDepth 100000 in
set_option maxHeartbeats 0 in
theorem PySem.Challenge.cw_rowsinplace_k31_whole_bounds_that_follow_holds : PySem.Challenge.rw_rowsinplace_k31_whole_bounds_that_follow.Holds := by
  w_on; o_law
  refine HandSHeadRun.head_any (r := OpenLaw.row PySem.Challenge.rw_rowsinplace_k31_whole_bounds_that_follow) (q := view (OpenLaw.row PySem.Challenge.rw_rowsinplace_k31_whole_bounds_that_follow).prog [23]) (H := K31.hk) (ob := K31.ob) (M := 20000) (loose := K31.loose) (d := HandSHeadRun.topDef (OpenLaw.row PySem.Challenge.rw_rowsinplace_k31_whole_bounds_that_follow).prog 23) (kwd := []) K31.ob_eq
    (by kernel_rfl) (fun s => by kernel_rfl) K31.run (by kernel_rfl) (by kernel_rfl) (by kernel_rfl) (by rfl) (by first | assumption | decide +kernel) (by decide +kernel) ⟨rfl, rfl, rfl, rfl, rfl, by decide +kernel⟩ ?hw ?hc
  case hw => w_witness2
  case hc =>
    refine KX.walk_atG (l := PySem.Challenge.rw_rowsinplace_k31_whole_bounds_that_follow) (n := 63) (k := 6) (x := "script") rfl (by decide) (by kernel_rfl) ⟨rfl, by decide, by decide⟩ ?F
    intro w mg fa h Y G hmg0
    obtain ⟨K, KI, c⟩ := Y
    have hmg : mg ("law" : PySem.Str) = some (.ref fa) := by
      have e : (HandSHeadRun.topDef (OpenLaw.row PySem.Challenge.rw_rowsinplace_k31_whole_bounds_that_follow).prog 23).name = ("law" : PySem.Str) := by kernel_rfl
      rw [← e]
      exact hmg0
    obtain ⟨fd, hb, hF⟩ := K31.all_ok (P := (PySem.Challenge.rw_rowsinplace_k31_whole_bounds_that_follow).prog) (w := w) KI G hmg c
    exact ⟨K, fd, K31.spLaw K, KI, hb, fun H a ns hl _ hS => ⟨a, ns, rfl, hS, hl, fun _ => rfl⟩, hF⟩

