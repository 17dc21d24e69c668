import PyProof.Rows.All
import Wide.All
import OpenK.AllK
import Wide.FinOn
import HandS.ForMost
import HandS.ExcInit
import HandS.Defaults
import HandS.WordsExc
import HandS.Wide
import HandS.EndBits
import HandS.Head0
import HandS.Head1
import HandS.Head2
import HandS.HeadEnd
import HandS.HeadHook1
import HandS.HeadHook2
import KE.KExcInit
import KE.KExcIs
import PyProof.ExcBaseAll.ValueError
import PyProof.ExcBaseAll.LookupError
import PyProof.ReprRoads
import HandS.ExcIs
import HandS.ExcField
import HandS.ExcCtx
import HandS.ExcInitHot
import HandS.HotCalls
import HandS.Star
import KE.GoesMore
import HandS.Walk
import PyProof.FitsInt
import HandS.IsInst
import HandS.Small
import HandS.SortKw
import KE.KOpsOwn
import KE.DataMinMax
import HandS.Text
import HandS.SetKeys
import KE.SortData
import PyProof.Claim2Refuses
import HandS.Set
import HandS.SetBool
import KE.GoesSet
import KE.GoesDict
import KE.GoesOver
import HandS.ListItems
import PyProof.RulesMatch
import HandS.DictComp
import PyProof.DictUpdate
import PyProof.Rows.TupDisplay
import HandS.FStr
import PyProof.StrOps2
import OpenK.KMeth
import HandS.Iter
import HandS.More
import HandS.WordsDict
import HandS.RaiseMore
import PyProof.Rows.ReprOcc
import HandS.WideBits
import HandS.Style
import PySem.Challenge.RW_rowsinplace_k86_boards_refused
set_option Elab.async false
set_option maxRecDepth 100000
set_option maxHeartbeats 2000000
/-! A hook of our own: one Bool over the written part, and the defs by their places. -/
namespace KX
open PySem PySem.Spec PyProof.Rows L2 He
def lookX (n : Nat) (chk : PySem.W.Frag → Bool) (fn : List DefD) (g : Addr → Option Obj) : Bool × List FnW :=
  let K := frG g (asD g n)
  (chk K && fn.all fun d => d.ok K, fn.map fun d => fnW K d.at_)
def SaysX (chk : PySem.W.Frag → Bool) (fn : List DefD) (K : PySem.W.Frag) : Prop := chk K = true ∧ (fn.all fun d => d.ok K) = true ∧ fn.map (fun d => fnW K d.at_) = fn.map DefD.val
def hookX (n : Nat) (chk : PySem.W.Frag → Bool) (fn : List DefD) : PySem.W.Hook where
  α := Bool × List FnW
  obs := fun s => lookX n chk fn s.heap.get?
  val := fun _ => (true, fn.map DefD.val)
  says := fun _ h => ∃ K : PySem.W.Frag, K.In h ∧ SaysX chk fn K
  of := fun _ s e => by
    refine ⟨frG s.heap.get? (asD s.heap.get? n), frG_in, ?_⟩
    have e1 := congrArg Prod.fst e
    have e2 := congrArg Prod.snd e
    obtain ⟨a, b⟩ := Bool.and_eq_true_iff.mp e1
    exact ⟨a, b, e2⟩
  keeps := fun _ _ _ h k => by
    obtain ⟨K, hK, c⟩ := h
    exact ⟨K, PySem.W.Frag.In.keeps hK k, c⟩
theorem lookX_eq {n : Nat} {chk : PySem.W.Frag → Bool} {fn : List DefD} {g : Addr → Option Obj} {s : Shared} (h : ∀ a, g a = s.heap.get? a) : lookX n chk fn g = (hookX n chk fn).obs s := by
  obtain rfl : g = s.heap.get? := funext h
  rfl
theorem SaysX.fd {chk : PySem.W.Frag → Bool} {fn : List DefD} {K : PySem.W.Frag} (c : SaysX chk fn K) (i : Nat) {d : DefD} (h : fn[i]? = some d := by rfl) :
    ∃ fd, FunD K d.name d.qual d.params d.body d.scope (d.dvs K) (d.kws K) (fAd K d.at_) fd := by
  obtain ⟨_, c2, c3⟩ := c
  have q : (fn.map fun d => fnW K d.at_)[i]? = (fn.map DefD.val)[i]? := congrArg (·[i]?) c3
  rw [List.getElem?_map, List.getElem?_map, h] at q
  exact DefD.funD (Option.some.inj q) (List.all_eq_true.mp c2 d (List.mem_of_getElem? h))
end KX

set_option Elab.async false
set_option maxRecDepth 100000
set_option maxHeartbeats 2000000
/-! What the written part says of an own exception class with an __init__ of its own, as one Bool. -/
namespace KX
open PySem PySem.Spec PyProof.Rows L2 He
structure ExK (K : PySem.W.Frag) (C : Addr) (bmB : List Value) (newId : String) : Prop where
  init : PySem.W.excInitIn K C bmB newId = true
  over : PySem.W.excOver K C bmB = true
  hd : PySem.W.hasDictIn K C = true
  sa : PySem.W.findIn K (.ref C) "__setattr__" = some (some (.builtin "object.__setattr__"))
  ga : PySem.W.findIn K (.ref C) "__getattribute__" = some (some (.builtin "BaseException.__getattribute__"))
  gg : PySem.W.findIn K (.ref C) "__getattr__" = some none
  exC : PySem.W.subIn K (.ref C) (.type "BaseException") = some true
  kC : PySem.W.keepIn K (.ref C) = true
  ha : PySem.W.findIn K (.ref C) "__class__" = some (some (.builtin "object.__class__"))
  hm : PySem.W.mroIn K C (.type "object") = some true
def exkB (K : PySem.W.Frag) (C : Addr) (bmB : List Value) (newId : String) : Bool :=
  PySem.W.excInitIn K C bmB newId && (PySem.W.excOver K C bmB && (PySem.W.hasDictIn K C && (eqO (PySem.W.findIn K (.ref C) "__setattr__") (some (some (.builtin "object.__setattr__")))
  && (eqO (PySem.W.findIn K (.ref C) "__getattribute__") (some (some (.builtin "BaseException.__getattribute__"))) && (eqO (PySem.W.findIn K (.ref C) "__getattr__") (some none)
  && (decide (PySem.W.subIn K (.ref C) (.type "BaseException") = some true) && (PySem.W.keepIn K (.ref C) && (eqO (PySem.W.findIn K (.ref C) "__class__") (some (some (.builtin "object.__class__"))) && decide (PySem.W.mroIn K C (.type "object") = some true)))))))))
theorem exkB_ok {K : PySem.W.Frag} {C : Addr} {bmB : List Value} {newId : String} (h : exkB K C bmB newId = true) : ExK K C bmB newId := by
  obtain ⟨h1, h⟩ := Bool.and_eq_true_iff.mp h
  obtain ⟨h2, h⟩ := Bool.and_eq_true_iff.mp h
  obtain ⟨h3, h⟩ := Bool.and_eq_true_iff.mp h
  obtain ⟨h4, h⟩ := Bool.and_eq_true_iff.mp h
  obtain ⟨h5, h⟩ := Bool.and_eq_true_iff.mp h
  obtain ⟨h6, h⟩ := Bool.and_eq_true_iff.mp h
  obtain ⟨h7, h⟩ := Bool.and_eq_true_iff.mp h
  obtain ⟨h8, h⟩ := Bool.and_eq_true_iff.mp h
  obtain ⟨h9, hA⟩ := Bool.and_eq_true_iff.mp h
  exact ⟨h1, h2, h3, eqO_ok h4, eqO_ok h5, eqO_ok h6, of_decide_eq_true h7, h8, eqO_ok h9, of_decide_eq_true hA⟩
end KX

set_option Elab.async false
set_option maxRecDepth 100000
set_option maxHeartbeats 2000000
/-! Own exception classes over any built-in base, with an __init__ that stores: made as values, read, asked by isinstance. -/
namespace KX
open PySem PySem.Spec PyProof.Rows L2
/-- what is known of the built-in base -/
def Bs (bmB : List Value) (newId : String) : Prop := ∃ B initId, ExcBaseFacts B newId initId bmB ∧ StoreFacts B bmB "object.__setattr__" "object"
theorem bsV : Bs [.type "ValueError", .type "Exception", .type "BaseException", .type "object"] "ValueError.__new__" := ⟨_, _, PySem.F.excBase_ValueError, PySem.F.store_ValueError⟩
theorem bsL : Bs [.type "LookupError", .type "Exception", .type "BaseException", .type "object"] "LookupError.__new__" := ⟨_, _, PySem.F.excBase_LookupError, PySem.F.store_LookupError⟩
section
open Builtin Builtin.ObjectAttr
variable {prog : Program} {w : World} {A : Around} {R : Result → Shared → Prop} {hp : Heap} {g : Array GenState} {dw : Drawn} {tt : Nat} {os : OsState} {K : PySem.W.Frag} {C x t1 : Addr} {bmB : List Value} {newId : String} {f : Str} {tk : Tok} {v : Value}
/-- the first store lays the dict -/
theorem put_first (T : ExK K C bmB newId) (bs : Bs bmB newId) (X : K.In hp) (hx : hp.get? x = some ({ cls := .ref C, dict := none, data := .fields #[.ref t1, .none, .none, .none, .bool false, .none] } : Obj)) (hno : PySem.W.findIn K (.ref C) f = some none)
    (hq : ∀ h' tk' dx, (∀ b o, b ≠ x → hp.get? b = some o → h'.get? b = some o) → hp.objs.size ≤ dx → dx ≠ x → h'.get? x = some ({ cls := .ref C, dict := some dx, data := .fields #[.ref t1, .none, .none, .none, .bool false, .none] } : Obj) →
      h'.Ns1 dx (fun y => if y = f then some v else none) → R (.ok (.ret .none)) ⟨h', g, dw, tk', os⟩) :
    codeAny (model prog w) A (.call (.builtin "object.__setattr__") ⟨[.ref x, .str f tk, v], []⟩) R ⟨hp, g, dw, tt, os⟩ := by
  obtain ⟨B, iid, _, SF⟩ := bs
  have hxs : x ≠ hp.objs.size := Nat.ne_of_lt (Heap.lt_size hx)
  refine PySem.W.osa_openX (s := ⟨hp, g, dw, tt, os⟩) (od := none) (r := none) SF X ⟨hx, rfl, rfl, trivial⟩ T.over (by unfold PySem.W.takerIn; rw [hno] <;> rfl) fun b => ?_
  obtain ⟨cd, hc, hd⟩ := PySem.W.any_some T.hd
  have hcls : PySem.W.Looks (model prog w) hp (classData C) cd := PySem.W.looks_clsIn X hc
  refine wpAny_bind (wpAny_pure (wpAny_bind (PySem.W.instanceDict_exc (s := ⟨hp, g, dw, tt, os⟩) hx hcls hd ?_)))
  refine HandSPX.store_in_new ?_ ?_
  · exact ⟨_, #[], _, (Heap.get?_update_ne _ _ _ _ hxs.symm).trans (Heap.get?_push_at rfl rfl), rfl, fun e he => absurd he (by simp), fun _ => rfl⟩
  · intro h' tk' hn' hs
    have hx1 : (hp.push { cls := .type "dict", data := .dict #[] }).get? x = _ := Heap.get?_push_of_some _ hx
    refine hq h' tk' hp.objs.size (fun b o hb ho => ?_) (Nat.le_refl _) hxs.symm ?_ hn'
    · have z := hs.2 b (Nat.ne_of_lt (Heap.lt_size ho))
      exact z.trans ((Heap.get?_update_ne _ _ _ _ hb).trans (Heap.get?_push_of_some _ ho))
    · exact (hs.2 x hxs).trans (Heap.get?_update_self _ hx1 rfl)
/-- a later one -/
theorem put_more {dx : Addr} {m0 : Str → Option Value} {nl : List Str} (T : ExK K C bmB newId) (bs : Bs bmB newId) (X : K.In hp) (hx : hp.get? x = some ({ cls := .ref C, dict := some dx, data := .fields #[.ref t1, .none, .none, .none, .bool false, .none] } : Obj))
    (hns : hp.Ns1 dx m0) (hw : Within m0 nl) (hz : nl.length ≤ 1000) (hno : PySem.W.findIn K (.ref C) f = some none)
    (hq : ∀ h' tk', (∀ b o, b ≠ dx → hp.get? b = some o → h'.get? b = some o) → h'.Ns1 dx (fun y => if y = f then some v else m0 y) → R (.ok (.ret .none)) ⟨h', g, dw, tk', os⟩) :
    codeAny (model prog w) A (.call (.builtin "object.__setattr__") ⟨[.ref x, .str f tk, v], []⟩) R ⟨hp, g, dw, tt, os⟩ := by
  obtain ⟨B, iid, _, SF⟩ := bs
  obtain ⟨oD, esD, epD, hoD, hdD, _⟩ := hns.count hw
  refine PySem.W.osa_openX (s := ⟨hp, g, dw, tt, os⟩) (od := some oD) (r := none) SF X ⟨hx, rfl, rfl, hoD⟩ T.over (by unfold PySem.W.takerIn; rw [hno] <;> rfl) fun b => ?_
  obtain ⟨cd, hc, hd⟩ := PySem.W.any_some T.hd
  have hcls : PySem.W.Looks (model prog w) hp (classData C) cd := PySem.W.looks_clsIn X hc
  obtain ⟨c1, c2, c3, c4, c5, c6, c7, c8, c9, cA, cB⟩ := cd
  dsimp only at hd
  subst hd
  show wpAny _ _ (storeInOwnDict _ _ _ _ _ _) _ _ _
  unfold storeInOwnDict ownDictForStores
  repeat (first | with_reducible refine PySem.OEX.store_in_old hns hw hz ?_ | with_reducible refine wpAny_loadPart_at hx ?_ | with_reducible refine hcls.at ?_ | wp_step)
  intro h' tk' hn' hs
  exact hq h' tk' (fun b o hb ho => (hs.2 b hb).trans ho) hn'
end
section
variable {X : Cx} {pins : List (Addr × Obj)} {σ : L2.St} {H : Hp} {s : Shared} {a C dx : Addr} {f : Str} {y : V} {u : Value} {fs : List (Str × V)} {Q : Unit → Shared → Prop} {E : Value → Shared → Prop} {A : Around} {bmB : List Value} {newId : String}
/-- an exception's object gets a dict that is new -/
theorem inv_dict {h' : Heap} {tk : Nat} {t1 : Addr} {od : HO} (I : Inv X pins σ H s) (e : H a = some (exo a C none)) (k : ∀ b o, b ≠ a → s.heap.get? b = some o → h'.get? b = some o) (dn : s.heap.objs.size ≤ dx) (dne : dx ≠ a)
    (hx : h'.get? a = some ({ cls := .ref C, dict := some dx, data := .fields #[.ref t1, .none, .none, .none, .bool false, .none] } : Obj)) (new : ∀ G : Hp, ObjOk X.prog X.w G h' dx od) :
    Inv X pins σ (upd (upd H dx od) a (exo a C (some dx))) { s with heap := h', toks := tk } := by
  have hnd : H dx = none := I.hok.fresh dn
  have hH : ∀ b, b ≠ a → b ≠ dx → upd (upd H dx od) a (exo a C (some dx)) b = H b := fun b n1 n2 => (upd_ne n1).trans (upd_ne n2)
  have na : ∀ b, H b = none → b ≠ a := fun b n z => by
    subst z
    exact nomatch n.symm.trans e
  have nd : ∀ b o, s.heap.get? b = some o → b ≠ dx := fun b o q => Nat.ne_of_lt (Nat.lt_of_lt_of_le (Heap.lt_size q) dn)
  have nk : ∀ b o, H b = some o → o ≠ exo a C none → upd (upd H dx od) a (exo a C (some dx)) b = some o := fun b o q n => by
    rw [hH b (ne_of q e n) (ne_of_none q hnd)]
    exact q
  refine I.un ⟨fun b o q n _ _ => k b o (na b n) q, fun b o q n _ _ => ⟨o.slots, k b o (na b n) q⟩, fun b o q n _ => ?_, fun b o q _ => ?_, fun b xs q => nk b _ q (Ne.symm exo_tup), fun b o v q => nk b _ q (Ne.symm exo_frz), fun b ps q => ⟨#[], ?_⟩⟩ fun b o q => ?_
  · rw [hH b (na b n) (nd b o q)]
    exact n
  · by_cases hb : b = a
    · subst hb
      exact ⟨_, hx⟩
    · exact ⟨o, k b o hb q⟩
  · rw [nk b _ q (Ne.symm exo_tbl)]
    simp
  · by_cases hb : b = a
    · subst hb
      obtain rfl := Option.some.inj (upd_same.symm.trans q)
      exact exo_ok hx
    · rw [upd_ne hb] at q
      by_cases hd : b = dx
      · subst hd
        obtain rfl := Option.some.inj (upd_same.symm.trans q)
        exact new _
      · rw [upd_ne hd] at q
        refine (I.hok b o q).stay (fun c v hc z => k c v ?_ z) (fun c hc => nk c _ hc (Ne.symm exo_own)) fun c xs hc => nk c _ hc (Ne.symm exo_tup)
        rcases hc with rfl | hc
        · exact hb
        · exact ne_of hc e (Ne.symm exo_own)
/-- self.f = y, the first one -/
theorem st_first (T : ExK X.K C bmB newId) (bs : Bs bmB newId) (I : Inv X pins σ H s) (e : H a = some (exo a C none)) (hno : PySem.W.findIn X.K (.ref C) f = some none) (ry : RelV y u)
    (h : ∀ d s', H d = none → d ≠ a → Inv X pins σ (upd (upd H d (exd d [(f, y)])) a (exo a C (some d))) s' → Q () s') : wpAny (model X.prog X.w) A (setAttr (.ref a) f u) Q E s := by
  obtain ⟨t1, ho⟩ := exo_at I.hok e
  obtain ⟨hp, g, d, t, os⟩ := s
  refine PySem.W.set_plain (od := none) I.kIn ⟨ho, rfl, rfl, trivial⟩ T.sa ?_
  refine put_first T bs I.kIn ho hno fun h' tk' dx k dn dne hx hn => ?_
  exact h dx _ (I.hok.fresh dn) dne (inv_dict I e k dn dne hx fun G => exd_ok hn (relO_put (fs := []) ry fun _ => True.intro))
/-- self.f = y, a further one -/
theorem st_more (T : ExK X.K C bmB newId) (bs : Bs bmB newId) (I : Inv X pins σ H s) (e : H a = some (exo a C (some dx))) (ed : H dx = some (exd dx fs)) (hl : fs.length ≤ 900) (hno : PySem.W.findIn X.K (.ref C) f = some none) (ry : RelV y u)
    (h : ∀ s', Inv X pins σ (upd H dx (exd dx ((f, y) :: fs))) s' → Q () s') : wpAny (model X.prog X.w) A (setAttr (.ref a) f u) Q E s := by
  obtain ⟨t1, ho⟩ := exo_at I.hok e
  obtain ⟨mA, hns, rel⟩ := exd_at I.hok ed
  have hw := within_of rel
  obtain ⟨hp, g, d, t, os⟩ := s
  obtain ⟨oD, _, _, hoD, _⟩ := hns.count hw
  refine PySem.W.set_plain (od := some oD) I.kIn ⟨ho, rfl, rfl, hoD⟩ T.sa ?_
  refine put_more T bs I.kIn ho hns hw (by rw [List.length_map]; omega) hno fun h' tk' k hn => ?_
  have hd : ∃ o, h'.get? dx = some o := let ⟨o, _, _, z, _⟩ := hn; ⟨o, z⟩
  exact h _ (I.write (t' := tk') (e := dx) (by rw [ed]; exact True.intro) (.inl rfl) k hd (exd_ok hn (relO_put ry rel)))
end
/-- self.f = e -/
def tSt (K : PySem.W.Frag) (f : Str) (to te : TE) : TS := fun D σ H => te σ H fun y H1 => to σ H1 fun x H2 => ∃ (a C : Addr) (bmB : List Value) (newId : String), x = .ref a ∧ ExK K C bmB newId ∧ Bs bmB newId ∧ PySem.W.findIn K (.ref C) f = some none ∧
  ((H2 a = some (exo a C none) ∧ ∀ d, H2 d = none → d ≠ a → D.nx σ (upd (upd H2 d (exd d [(f, y)])) a (exo a C (some d)))) ∨
    ∃ (d : Addr) (fs : List (Str × V)), H2 a = some (exo a C (some d)) ∧ H2 d = some (exd d fs) ∧ fs.length ≤ 900 ∧ D.nx σ (upd H2 d (exd d ((f, y) :: fs))))
/-- C(e, ..) as a value -/
def tMkV (C : Addr) (sp : Sp) (ta : TA) : TE := fun σ H Q => ta σ H fun vs H1 => vs.length ≤ 1000 ∧ ∀ a, H1 a = none → sp (.ref a :: vs) (upd H1 a (exo a C none)) (fun v H2 => v = .non ∧ Q (.ref a) H2) (fun _ _ _ => False)
/-- e.f of an own exception -/
def tXv (K : PySem.W.Frag) (f : Str) (te : TE) : TE := fun σ H Q => te σ H fun x H1 => ∃ (a C d : Addr) (bmB : List Value) (newId : String) (fs : List (Str × V)) (v : V), x = .ref a ∧ H1 a = some (exo a C (some d)) ∧ H1 d = some (exd d fs) ∧ ExK K C bmB newId ∧ PySem.W.findIn K (.ref C) f = some none ∧ fs.lookup f = some v ∧ Q v H1
section
variable {X : Cx} {o e : Expr} {es : List Expr} {to te : TE} {ta : TA} {f : Str} {p p' p1 p2 pos : Pos}
theorem ps_st (ho : PE X o to) (he : PE X e te) (hs : swapsWith e (some (.Attribute o f p')) pos.line X.env = pure false := by rfl) : PS X (.Assign [.Attribute o f p'] e pos) (tSt X.K f to te) := by
  refine ⟨fun pins s σ H D I h => plainObj_wpAny_Assign_Attribute (thn (he.run pins s σ H _ I h) fun v s1 ⟨y, H1, I1, r1, q1⟩ => thn (ho.run pins s1 σ H1 _ I1 q1) fun u s2 hh => ?_) hs⟩
  obtain ⟨x, H2, I2, r2, a, C, bmB, nid, rfl, T, bs, hno, q⟩ := hh
  obtain rfl : u = Value.ref a := r2
  rcases q with ⟨ea, q⟩ | ⟨d, fs, ea, ed, hl, q⟩
  · exact st_first T bs I2 ea hno r1 fun d s' n ne J => ⟨σ, _, J, q d n ne⟩
  · exact st_more T bs I2 ea ed hl hno r1 fun s' J => ⟨σ, _, J, q⟩
theorem pe_mkv {CX : CXT} {x : Str} {C fI : Addr} {k : Nat} {fd : FuncData} {ps : List Str} {sp : Sp} {bmB : List Value} {newId : String} (T : ExK X.K C bmB newId) (bs : Bs bmB newId) (iC : PySem.W.findIn X.K (.ref C) "__init__" = some (some (.ref fI))) (tI : PySem.W.isFn X.K (.ref fI) = true)
    (G : FnOk X.prog X.w X.K X.mg X.base CX k fI fd ps sp) (hr : Room (k + 1) X.A) (hb : Binds X.K fd ps []) (hx : Passes CX X (fun _ _ _ => False)) (hg : Gl X x) (hm : X.mg x = some (.ref C)) (ha : PA X (e :: es) ta)
    (hdb : (x == ("__debug__" : Str)) = false := by decide) (he : starEach (e :: es) X.env = (false, eval e X.env) :: starEach es X.env := by rfl) (hpl : (backTo pos (starEach es X.env)).any (·.1) = false := by rfl) :
    PE X (.Call (.Name x p) (e :: es) [] pos) (tMkV C sp ta) := by
  refine ⟨fun pins s σ H Q I h => ?_⟩
  refine wpAny_Call_Name_kw (ld_glob I hg hm ?_ hdb)
  refine PySem.W.callWith_K (h₀ := X.base) I.ok.mod.kin T.kC (thn (ha.run pos pins s σ H _ I h) fun us s1 hh => ?_) he hpl
  obtain ⟨vs, H1, I1, r1, hz, q1⟩ := hh
  refine ⟨I1.kIn, ?_⟩
  obtain ⟨B, iid, FB, SF⟩ := bs
  obtain ⟨nm, N', qn, bs', bm, hdct, sn, sub, ab, col, dd, k0, k1, k2, k3, k5, hC, hT⟩ := PySem.W.excInit_of I1.kIn T.init
  obtain ⟨oI, hoI, hcI⟩ : ∃ oI, s1.heap.get? fI = some oI ∧ oI.cls = .type "function" := by
    obtain ⟨oo, h1, h2⟩ := Option.map_eq_some_iff.mp (show (X.K.lookup fI).map (·.cls) = some (.type "function") from beq_iff_eq.mp tI)
    exact ⟨oo, I1.kIn _ _ h1, h2⟩
  obtain ⟨hp, g, dr, tk, os⟩ := s1
  have kk : ∀ b u, hp.get? b = some u → ((hp.push (PySem.W.kdv_tup us)).push (PySem.HandSPX.excO C hp.objs.size)).get? b = some u := fun b u z => Heap.get?_push_of_some _ (Heap.get?_push_of_some _ z)
  have hget : ((hp.push (PySem.W.kdv_tup us)).push (PySem.HandSPX.excO C hp.objs.size)).get? (hp.objs.size + 1) = some (PySem.HandSPX.excO C hp.objs.size) := by heap_get
  have I2 : Inv X pins σ (upd H1 (hp.objs.size + 1) (exo (hp.objs.size + 1) C none)) ⟨(hp.push (PySem.W.kdv_tup us)).push (PySem.HandSPX.excO C hp.objs.size), g, dr, tk, os⟩ := I1.laid (t' := tk) kk (Nat.le_succ _) (exo_ok hget)
  have hq := q1 (hp.objs.size + 1) (I1.hok.fresh (Nat.le_succ _))
  have r2 : Vals (V.ref (hp.objs.size + 1) :: vs) (Value.ref (hp.objs.size + 1) :: us) := .cons rfl r1
  have hl : (Value.ref (hp.objs.size + 1) :: us ++ []).length = ps.length := by
    rw [List.append_nil, ← r2.length]
    exact G.len _ _ _ _ hq
  have hus : us.length ≤ sizeLine := by
    rw [← Paired.length r1, sizeLine_eq]
    omega
  have hbi := hb _ (Value.ref (hp.objs.size + 1) :: us) I2.kIn hl
  rw [List.append_nil] at hbi
  refine wpAny_call (PySem.HandSPX.call_own FB hT hC (PySem.W.looks_findIn I1.kIn iC) (fun self => PySem.W.exc_bind hoI hcI self) hus (codeAny_mono (G.run _ X.stack _ _ _ _ _ _ (fun _ _ _ => False) (hr.make C us []) (I2.env0.make C us []) hbi r2 hq) fun r s' hq' => ?_))
  cases r with
  | error er => exact hx pins σ _ _ er s' I2 hq'
  | ok fl =>
    cases fl with
    | ret u =>
      obtain ⟨v, H2, os2, bare2, un2, hok2, rv, rfl, q2⟩ := hq'
      exact ⟨rv, .ref (hp.objs.size + 1), H2, I2.call' (ch := []) os2 un2 hok2 bare2 (fun b z => absurd z (by simp)), rfl, q2⟩
    | next => exact False.elim hq'
    | brk => exact False.elim hq'
    | cont => exact False.elim hq'
theorem pe_xv (he : PE X e te) (hb : attributeBase e f X.env (eval e X.env) = eval e X.env := by rfl) : PE X (.Attribute e f pos) (tXv X.K f te) := by
  refine ⟨fun pins s σ H Q I h => attr_of hb (thn (he.run pins s σ H _ I h) fun u s1 hh => ?_)⟩
  obtain ⟨x, H1, I1, rx, a, C, d, bmB, nid, fs, v, rfl, ea, ed, T, hno, l, q⟩ := hh
  obtain rfl : u = Value.ref a := rx
  obtain ⟨t1, ho⟩ := exo_at I1.hok ea
  obtain ⟨mA, hns, rel⟩ := exd_at I1.hok ed
  obtain ⟨od, h1, h2⟩ := lookIn_ns hns
  obtain ⟨u, hu, ru⟩ := RelO.some_of (v := v) (o := mA f) (by rw [← l]; exact rel f)
  exact HandSPX.exc_get I1.kIn ⟨ho, rfl, rfl, h1⟩ T.ga T.gg T.exC (PySem.W.findObj_own T.hd hno rfl (by rw [h2, hu])) (handed_of ru) ⟨v, H1, I1.tok _, ru, q⟩
end
end KX

set_option Elab.async false
set_option maxRecDepth 100000
set_option maxHeartbeats 2000000
/-! repr of nested data where no repr is running yet; isinstance of an own exception; defs that want to know that no repr is running. -/
namespace KX
open PySem PySem.Spec PyProof.Rows L2
/-- repr(data) -/
def rRepr (K : PySem.W.Frag) : List V → Hp → VK → Prop := fun xs H Q => ∃ (a : Addr) (d : PyData), xs = [.ref a] ∧ Dp K H (.ref a) d ∧ d.showable = true ∧ d.hasDict = false ∧ d.depth ≤ 8 ∧ d.shown.length ≤ sizeLine ∧ Q (.str d.shown) H
theorem call_repr {X : Cx} (hg : X.A.guards = some []) (hu : X.A.units + 10 < cLine) : CallR X (.builtin "repr") (rRepr X.K) := by
  intro pins s σ H xs us Q I r h
  obtain ⟨a, d, rfl, hd, h1, h2, h3, h4, q⟩ := h
  obtain ⟨u, rfl, ru⟩ := vals1 r
  obtain rfl : u = Value.ref a := ru
  obtain ⟨as, rd⟩ := Dp.reads I d _ _ hd rfl
  exact repr_of_reads' rd h1 (PyData.noDict_hsm h2) hg (by omega) (fun _ _ e => e) (fun h' u tk hk => ⟨.str d.shown, H, I.kept (t' := tk) hk, ⟨_, rfl⟩, q⟩) h4
/-- isinstance(e, c) of an own exception e -/
def rIsX (K : PySem.W.Frag) : List V → Hp → VK → Prop := fun xs H Q => ∃ (a C d : Addr) (bmB : List Value) (nid : String) (fs : List (Str × V)) (c : V) (cv : Value) (b : Bool), xs = [.ref a, c] ∧ H a = some (exo a C (some d)) ∧ H d = some (exd d fs) ∧ ExK K C bmB nid ∧
  PySem.W.specialIn K (.builtin "object.__class__") "__get__" = some (some (.builtin "getset_descriptor.__get__")) ∧ PySem.W.takesIn K (.builtin "object.__class__") = some true ∧ (∀ u, RelV c u → u = cv) ∧ PySem.W.kitOne K (.ref C) cv = some b ∧ Q (.bl b) H
theorem call_isX {X : Cx} : CallR X (.builtin "isinstance") (rIsX X.K) := by
  intro pins s σ H xs us Q I r h
  obtain ⟨a, C, d, bmB, nid, fs, c, cv, b, rfl, ea, ed, T, sp, tk, hcv, e, q⟩ := h
  cases r with
  | cons rx rr => cases rr with
    | cons rt rr =>
      cases rr
      cases rx
      obtain rfl := hcv _ rt
      obtain ⟨t1, ho⟩ := exo_at I.hok ea
      obtain ⟨mA, hns, rel⟩ := exd_at I.hok ed
      obtain ⟨od, h1, _⟩ := lookIn_ns hns
      obtain ⟨cd, hc, _⟩ := PySem.W.any_some T.hd
      exact PySem.W.kia_one (PySem.W.kitx_exc (od := some od) (by rw [hc] <;> rfl) T.ga T.gg T.exC T.ha sp tk T.hm) I.kIn ⟨ho, rfl, rfl, h1⟩ e (fun z => nomatch z) fun tk' => ⟨.bl b, H, I.kept (t' := tk') fun _ _ z => z, rfl, q⟩
end KX

set_option Elab.async false
set_option maxRecDepth 100000
set_option maxHeartbeats 2000000
namespace KX
open PySem PySem.Spec PyProof.Rows L2
/-- a def's promise where no repr is running -/
structure FnG (P : Program) (w : World) (K : PySem.W.Frag) (mg : Str → Option Value) (base : Heap) (CX : CXT) (k : Nat) (f : Addr) (fd : FuncData) (ps : List Str) (sp : Sp) : Prop where
  len : ∀ vs H Q E, sp vs H Q E → vs.length = ps.length
  run : ∀ (A : Around) (outer : List Env) (s : Shared) (H : Hp) (args : Args) (us : List Value) (vs : List V) (Q : VK) (E : XK), A.guards = some [] → Room k A →
    Env0 P w K mg base A outer s H → BindsTo s fd args (ps.zip us) → Vals vs us → sp vs H Q E → codeAny (model P w) A (.call (.ref f) args) (CR CX outer P w H s Q E) s
section
variable {P : Program} {w : World} {K : PySem.W.Frag} {mg : Str → Option Value} {base : Heap} {CX : CXT} {k : Nat} {f : Addr} {fd : FuncData} {ps : List Str} {sp : Sp}
theorem FnG.of (F : FnOk P w K mg base CX k f fd ps sp) : FnG P w K mg base CX k f fd ps sp :=
  ⟨F.len, fun A outer s H args us vs Q E _ => F.run A outer s H args us vs Q E⟩
/-- the rule for a def whose body may use that no repr is running -/
theorem fnG_ok {x qual : Str} {params : Arguments} {body : List Stmt} {scope : Scope} {dvs : List V} {kws : List (Str × V)} {N : List Str} (F : FunD K x qual params body scope dvs kws f fd) (S : FnScope N ps scope)
    (len : ∀ vs H Q E, sp vs H Q E → vs.length = ps.length)
    (hbody : ∀ (cdv : Value) (A : Around) (outer : List Env) (s : Shared) (H : Hp) (vs : List V) (Q : VK) (E : XK),
      A.guards = some [] → Room k (A.deeper (envOfC qual scope s.heap.objs.size f cdv)) → sp vs H Q E →
      ∃ t, PSs (cxOf CX P w K mg base N qual scope f cdv A outer s H E) body t ∧ t { nx := fun _ G => Q .non G, rt := Q } (start N vs) H) :
    FnG P w K mg base CX (k + 1) f fd ps sp := by
  obtain ⟨oc, od, dV, kV, doc, pm, an, cdv, ct, osl, rfl, lk, hcd, _, _⟩ := F.ex
  constructor
  · exact len
  intro A outer s H args us vs Q E hg hr e0 hb r hsp
  have hn := len _ _ _ _ hsp
  have keep : ∀ b o, base.get? b = some o → s.heap.get? b = some o := fun b o z => (e0.bs b o z).1
  have hK : K.In s.heap := e0.mod.kin.keeps keep
  have hL : s.heap.NoLimit := e0.mod.nolimit.keeps keep
  refine codeAny_call_function hr.depth (hK _ _ lk) rfl S.co S.gen rfl (PySem.W.codeRec_of hK hcd) (hb _ _ _ _ ?_)
  refine wpAny_newFunctionEnv_cells S.kind (fun y hy => ?_) fun env he s1 x => ?_
  · rcases S.par y.1 (List.of_mem_zip (show (y.1, y.2) ∈ ps.zip us from hy)).1 with z | z
    · exact Or.inl z
    · exact Or.inr ⟨z, PySem.W.cellsFrom_some _ _ _ (Or.inl z)⟩
  · subst he
    refine ⟨hL.keeps x.toInCall.keep, codeAny_func ?_⟩
    obtain ⟨t, ht, hq⟩ := hbody cdv A outer s H vs Q E hg (hr.deeper _) hsp
    have I0 := inv_start (CX := CX) (E := E) S hr.hd e0 hn r x
    refine wpAny_mono (ht.run [] s1 (start N vs) H _ I0 hq) (fun fl s' z => ?_) fun _ _ z => z
    match fl, z with
    | .ret u, ⟨v, σ', G, J, rv, qv⟩ => exact ⟨v, G, J.os, J.bare, J.base, J.hok, rv, qv⟩
    | .next, ⟨σ', G, J, qv⟩ => exact ⟨.non, G, J.os, J.bare, J.base, J.hok, rfl, qv⟩
    | .brk, ⟨_, _, _, qv⟩ => exact False.elim qv
    | .cont, ⟨_, _, _, qv⟩ => exact False.elim qv
end
section
variable {X : Cx} {CX : CXT} {k : Nat} {f : Addr} {fd : FuncData} {ps : List Str} {sp : Sp} {dvs : List V} {ds : List Value} {E : XK} {x : Str} {p pos : Pos} {e : Expr} {es : List Expr} {t : TA}
/-- f(e, ..) where no repr is running -/
theorem pe_callG (F : FnG X.prog X.w X.K X.mg X.base CX k f fd ps sp) (gg : X.A.guards = some []) (hr : Room k X.A) (hg : Gl X x) (hm : X.mg x = some (.ref f)) (hk : PySem.W.keepIn X.K (.ref f) = true) (hb : Binds X.K fd ps ds) (hd : Vals dvs ds)
    (hx : Passes CX X E) (ha : PA X (e :: es) t) (hdb : (x == ("__debug__" : Str)) = false := by decide) (he : starEach (e :: es) X.env = (false, eval e X.env) :: starEach es X.env := by rfl)
    (hpl : (backTo pos (starEach es X.env)).any (·.1) = false := by rfl) : PE X (.Call (.Name x p) (e :: es) [] pos) (tCall sp dvs E t) := by
  constructor
  intro pins s σ H Q I h
  refine wpAny_Call_Name_kw (ld_glob I hg hm ?_ hdb)
  refine PySem.W.callWith_K (h₀ := X.base) I.ok.mod.kin hk (thn (ha.run pos pins s σ H _ I h) fun us s1 hh => ?_) he hpl
  obtain ⟨vs, H1, I1, r, q⟩ := hh
  refine ⟨I1.kIn, ?_⟩
  have r2 : Vals (vs ++ dvs) (us ++ ds) := r.append hd
  have hl : (us ++ ds).length = ps.length := r2.length.symm.trans (F.len _ _ _ _ q)
  refine wpAny_call (codeAny_mono (F.run X.A X.stack s1 H1 ⟨us, []⟩ _ _ Q E gg hr I1.env0 (hb s1 us I1.kIn hl) r2 q) fun res s' z => ?_)
  match res, z with
  | .error er, z => exact hx pins σ H1 s1 er s' I1 z
  | .ok (.ret u), z => exact I1.after z
  | .ok .next, z => exact False.elim z
  | .ok .brk, z => exact False.elim z
  | .ok .cont, z => exact False.elim z
end
/-! ### the law's own call -/
theorem law_atG {P : Program} {w : World} {K : PySem.W.Frag} {mg mb : Str → Option Value} {k : Nat} {fa a : Addr} {fd : FuncData} {x : Str} {sp : Sp} {s1 : Shared} {vs : List Value} {ns : List Int}
    (KI : K.In s1.heap) (hns : s1.heap.Ns mainGlobals mg) (hb : s1.heap.Ns builtinsNs mb) (hbb : ∀ x : Str, x ≠ "__name__" → mb x = bootBuiltins x) (hlim : s1.heap.NoLimit) (hg : s1.gens = #[])
    (ha : s1.heap.get? a = some { cls := .type "list", data := .seq vs.toArray }) (hi : IntsAre vs ns) (hl : ns.length ≤ sizeLine) (hr : Room k callerA)
    (F : ∀ base : Heap, K.In base → base.Ns mainGlobals mg → FnG P w K mg base CX0 k fa fd [x] sp) (hbind : ∀ (s : Shared) (u : Value), BindsTo s fd ⟨[u], []⟩ [(x, u)])
    (hsp : ∀ H : Hp, SqL K H a (ns.map V.int) → sp [.ref a] H (fun v _ => v = .bl true) E0) :
    codeAny (model P w) callerA (.call (.ref fa) ⟨[.ref a], []⟩) (fun r s' => r = .ok (.ret (.bool true)) ∧ PySem.OldK s1.heap s'.heap ∧ s'.os = s1.os ∧ AllBare s'.gens) s1 := by
  have rv := vals_ints hi
  have frozen : ∀ H : Hp, (∀ b u, H b = some u → b = a ∧ u = .frz { cls := .type "list", data := .seq vs.toArray } (.lst (ns.map V.int)) ∧ K.lookup a = none) → SqL K H a (ns.map V.int) →
      codeAny (model P w) callerA (.call (.ref fa) ⟨[.ref a], []⟩) (fun r s' => r = .ok (.ret (.bool true)) ∧ PySem.OldK s1.heap s'.heap ∧ s'.os = s1.os ∧ AllBare s'.gens) s1 := by
    intro H hH hS
    have free : ∀ b o, s1.heap.get? b = some o → (b = a → K.lookup a ≠ none ∨ (∀ its n, o.data ≠ .seq its n)) → H b = none := by
      intro b o e n
      cases q : H b with
      | none => rfl
      | some u =>
        obtain ⟨rfl, _, z3⟩ := hH b u q
        rw [ha] at e
        obtain rfl := Option.some.inj e
        rcases n rfl with n | n
        · exact absurd z3 n
        · exact absurd rfl (n vs.toArray _)
    have inK : K.In (hidT s1.heap H) := fun b o e => hidT_get (KI b o e) (free b o (KI b o e) fun z => .inl (by rw [← z, e]; simp))
    have nsOk : ∀ {b : Addr} {m : Str → Option Value}, s1.heap.Ns b m → (hidT s1.heap H).Ns b m := by
      rintro b m ⟨o, es, ep, e, d, r⟩
      exact ⟨o, es, ep, hidT_get e (free b o e fun _ => .inr fun its n z => by rw [d] at z; cases z), d, r⟩
    have hok : HOk P w H s1.heap := by
      intro b u q
      obtain ⟨rfl, rfl, _⟩ := hH b u q
      exact ⟨ha, by rw [List.length_map]; exact hl, vs, _, rv, ha⟩
    have md : Mod K mg (hidT s1.heap H) := ⟨inK, nsOk hns, ⟨mb, nsOk hb, hbb⟩, by
      obtain ⟨mc, h1, h2⟩ := hlim
      exact ⟨mc, nsOk h1, h2⟩⟩
    have e0 : Env0 P w K mg (hidT s1.heap H) callerA [] s1 H :=
      ⟨rfl, md, fun b o e => of_hidT e, Nat.le_of_eq (hidT_size _ _), trivial, fun b z => absurd (show b ∈ ([] : List Addr) from z) (by simp), hok, .of_eq hg⟩
    have go := (F _ inK (nsOk hns)).run callerA [] s1 H ⟨[.ref a], []⟩ [.ref a] [.ref a] _ _ rfl hr e0 (hbind s1 (.ref a)) (.cons rfl .nil) (hsp H hS)
    refine codeAny_mono go fun r s' z => ?_
    match r, z with
    | .error _, z => exact False.elim z
    | .ok .next, z => exact False.elim z
    | .ok .brk, z => exact False.elim z
    | .ok .cont, z => exact False.elim z
    | .ok (.ret u), ⟨v, G, os, bare, un, hok', rr, qv⟩ =>
      obtain rfl : v = .bl true := qv
      obtain rfl : u = Value.bool true := rr
      refine ⟨rfl, PySem.OldK.of_keep fun b o e => ?_, os, bare⟩
      cases q : H b with
      | none => exact un.keep b o e q (fun z => absurd (show b ∈ ([] : List Addr) from z) (by simp)) (by simp)
      | some t =>
        obtain ⟨rfl, rfl, _⟩ := hH b t q
        obtain ⟨e2, _⟩ := hok' _ _ (un.frzs _ _ _ q)
        exact e2.trans (ha.symm.trans e)
  cases hk : K.lookup a with
  | none =>
    refine frozen (fun b => if b = a then some (.frz { cls := .type "list", data := .seq vs.toArray } (.lst (ns.map V.int))) else none) (fun b u z => ?_) (.inl (.inr ⟨_, if_pos rfl⟩))
    by_cases hba : b = a
    · exact ⟨hba, (Option.some.inj ((if_pos hba).symm.trans z)).symm, hk⟩
    · exact nomatch (if_neg hba).symm.trans z
  | some o =>
    have e := KI a o hk
    rw [ha] at e
    obtain rfl := Option.some.inj e
    exact frozen (fun _ => none) (fun b u z => nomatch (show (none : Option HO) = some u from z))
      (.inr ⟨_, vs.toArray, _, hk, rfl, rfl, rfl, by rw [List.size_toArray, hi.length]; exact hl, by simpa using rv⟩)
/-- the goal that a head leaves, by the law's promise -/
theorem walk_atG {l : PySem.W.OpenLaw} {n k : Nat} {q : Program} {loose : List Str} {XP : (Str → Option Value) → Heap → Prop} {YP : World → Heap → Prop} {d : DefRec} {x : Str}
    (hn : l.most = some n) (hn2 : n ≤ sizeLine) (hdf : d.params.defaults = []) (hr : Room k callerA)
    (F : ∀ (w : World) (mg : Str → Option Value) (fa : Addr) (h : Heap), YP w h → h.Ns mainGlobals mg → mg d.name = some (.ref fa) →
      ∃ (K : PySem.W.Frag) (fd : FuncData) (sp : Sp), K.In h ∧ (∀ (s : Shared) (u : Value), BindsTo s fd ⟨[u], []⟩ [(x, u)]) ∧
        (∀ (H : Hp) (a : Addr) (ns : List Int), ns.length ≤ n → (∀ z ∈ ns, Builtin.Int.intBits z ≤ 1048576) → SqL K H a (ns.map V.int) → sp [.ref a] H (fun v _ => v = .bl true) E0) ∧
        ∀ base : Heap, K.In base → base.Ns mainGlobals mg → FnG l.prog w K mg base CX0 k fa fd [x] sp) :
    PySem.W.WalkO q loose XP YP l.row.toRowW d [] (fun f vs => PySem.call f vs) := by
  refine Att.attach_callB hn hdf fun w s₀ s₁ mg mb fa o pm cd doc a vs ns G Y ho hd hcd hmg hobj hints hlen hbits hg => ?_
  obtain ⟨K, fd, sp, KI, hb, hsp, hF⟩ := F w mg fa _ Y G.T.g hmg
  exact law_atG KI G.T.g G.T.b G.T.builtins G.T.nolimit hg hobj hints (Nat.le_trans hlen hn2) hr hF hb fun H hS => hsp H a ns hlen hbits hS
end KX

set_option Elab.async false
set_option maxRecDepth 100000
set_option maxHeartbeats 2000000
/-! The bag that a law draws from: what stands in it, what is promised of a draw. -/
namespace KX
open PySem PySem.Spec PyProof.Rows L2
/-- the bag at b: digits, a seed, a count of at most n -/
def Bag (H : Hp) (b : Addr) (n : Int) : Prop := ∃ d m c : Int, H b = some (.lst [.int d, .int m, .int c]) ∧ 0 ≤ d ∧ 0 ≤ m ∧ m < 2 ^ 61 ∧ 0 ≤ c ∧ c ≤ n
/-- all but b is as it was -/
def But (b : Addr) (H H' : Hp) : Prop := ∀ x, x ≠ b → H' x = H x
/-- what was tracked is as it was, but b -/
def Kept (b : Addr) (H H' : Hp) : Prop := ∀ x o, x ≠ b → H x = some o → H' x = some o
theorem But.kept {b : Addr} {H H' : Hp} (h : But b H H') : Kept b H H' := fun x o n e => (h x n).trans e
theorem Kept.refl (b : Addr) (H : Hp) : Kept b H H := fun _ _ _ e => e
theorem Kept.trans {b : Addr} {H H1 H2 : Hp} (h : Kept b H H1) (k : Kept b H1 H2) : Kept b H H2 := fun x o n e => k x o n (h x o n e)
theorem Kept.new {b p : Addr} {H : Hp} {o : HO} (h : H p = none) : Kept b H (upd H p o) := fun x u _ e => by
  rw [upd_ne (ne_of_none e h)]
  exact e
theorem Kept.seq {K : PySem.W.Frag} {b a : Addr} {H H' : Hp} {xs : List V} (k : Kept b H H') (n : a ≠ b) (h : SqL K H a xs) : SqL K H' a xs := by
  rcases h with (h | ⟨o, h⟩) | h
  · exact .inl (.inl (k _ _ n h))
  · exact .inl (.inr ⟨o, k _ _ n h⟩)
  · exact .inr h
theorem Bag.some {H : Hp} {b : Addr} {n : Int} (h : Bag H b n) : ∃ o, H b = some o := let ⟨_, _, _, e, _⟩ := h; ⟨_, e⟩
theorem Bag.ne {H : Hp} {b p : Addr} {n : Int} (h : Bag H b n) (hp : H p = none) : p ≠ b := by
  obtain ⟨o, e⟩ := h.some
  exact (ne_of_none e hp).symm
theorem Bag.put {H : Hp} {b p : Addr} {n : Int} {o : HO} (h : Bag H b n) (hp : p ≠ b) : Bag (upd H p o) b n := by
  obtain ⟨d, m, c, e, r⟩ := h
  exact ⟨d, m, c, (upd_ne hp.symm).trans e, r⟩
theorem Bag.mono {H : Hp} {b : Addr} {n n' : Int} (h : Bag H b n) (hn : n ≤ n') : Bag H b n' := by
  obtain ⟨d, m, c, e, r1, r2, r3, r4, r5⟩ := h
  exact ⟨d, m, c, e, r1, r2, r3, r4, by omega⟩
/-- _law_bag -/
def spBag (K : PySem.W.Frag) : Sp := fun vs H Q _ => ∃ (a : Addr) (ns : List Int) (i : Nat), vs = [.ref a, .int i] ∧ SqL K H a (ns.map V.int) ∧ ns.length ≤ 63 ∧ i ≤ 63 ∧ ∀ b H', H b = none → Kept b H H' → (∀ x, x ≠ b → H' x = H x) → Bag H' b 0 → Q (.ref b) H'
/-- _law_draw -/
def spDraw : Sp := fun vs H Q _ => ∃ (b : Addr) (n many : Int), vs = [.ref b, .int many] ∧ Bag H b n ∧ n < 1000000 ∧ 0 < many ∧ many.natAbs < 2 ^ 200 ∧ ∀ (r : Int) (H' : Hp), 0 ≤ r → r < many → But b H H' → Bag H' b (n + 1) → Q (.int r) H'
/-- _law_of -/
def spOf (K : PySem.W.Frag) : Sp := fun vs H Q _ => ∃ (b l : Addr) (n : Int) (xs : List V), vs = [.ref b, .ref l] ∧ Bag H b n ∧ n < 1000000 ∧ l ≠ b ∧ SqL K H l xs ∧ 0 < xs.length ∧ xs.length ≤ 1000 ∧
  ∀ (i : Nat) (v : V) (H' : Hp), xs[i]? = some v → But b H H' → Bag H' b (n + 1) → Q v H'
/-- the numbers of a draw -/
theorem draw_pow {m c : Int} (hm0 : 0 ≤ m) (hm : m < 2 ^ 61) (hc0 : 0 ≤ c) (hc : c ≤ 1000000) : CPow (m + 611953 * (c + 1)) 2 := by
  refine ⟨by decide, by decide, ?_⟩
  omega
theorem draw_pow3 {x c : Int} (hx0 : 0 ≤ x) (hx : x < 1152921504606846869) (hc0 : 0 ≤ c) (hc : c ≤ 1000000) : CPow (x + 15485863 * (c + 1)) 3 := by
  refine ⟨by decide, by decide, ?_⟩
  omega
theorem fmod_in {x y : Int} (h : 0 < y) : 0 ≤ x.fmod y ∧ x.fmod y < y := by
  rw [Int.fmod_eq_emod_of_nonneg x (Int.le_of_lt h)]
  exact ⟨Int.emod_nonneg x (by omega), Int.emod_lt_of_pos x h⟩
end KX

set_option Elab.async false
set_option maxRecDepth 100000
set_option maxHeartbeats 2000000
/-! Own exceptions raised with what they keep, caught with the context None; isinstance of a caught one that has a dict; defs called in the suite; C() of a class with *rest. -/
namespace KX
open PySem PySem.Spec PyProof.Rows L2 StX
theorem mk_endN {X : Cx} {pins : List (Addr × Obj)} {σ : L2.St} {H1 H2 : Hp} {Q : XK} {hp hp2 h2 : Heap} {g1 g2 : Array GenState} {d1 d2 : Drawn} {t1 t2 : Nat} {os1 os2 : OsState} {a C d : Addr} {fs : List (Str × V)} (T : Raises X (.ref C)) (I1 : Inv X pins σ H1 ⟨hp, g1, d1, t1, os1⟩)
    (ha : hp.objs.size ≤ a) (k : ∀ b o, hp.get? b = some o → hp2.get? b = some o) (un : Un (frs X.stack) [] (upd H1 a (exo a C none)) H2 hp2 h2) (hok : HOk X.prog X.w H2 h2) (ho : os2 = os1) (hb : AllBare g2)
    (ea : H2 a = some (exo a C (some d))) (ed : H2 d = some (exd d fs)) (hd1 : H1 d = none) (q : Q (.ref C) (some d) (upd (del H2 a) d (.xd fs))) : L2N.MkP X pins σ Q (.ref a) ⟨h2, g2, d2, t2, os2⟩ := by
  obtain ⟨t0, G, J, kG, ge, hoe, na⟩ := mk_end0 (d2 := d2) (t2 := t2) I1 ha k un hok ho hb ea ed hd1
  exact ⟨a, _, _, ⟨G, g2, d2, t2, os2⟩, _, .ref C, some d, rfl, J, kG, ge, hoe, ⟨rfl, rfl, fun vs e => by cases e; rfl⟩, rfl, rfl, na, rfl, hb, T, q⟩
section
variable {X : Cx} {CX : CXT} {x : Str} {C fI : Addr} {k : Nat} {fd : FuncData} {ps : List Str} {sp : Sp} {e : Expr} {es : List Expr} {ta : TA} {p pos : Pos}
theorem pmk_x {bmB : List Value} {newId : String} (T : ExK X.K C bmB newId) (tyC : PySem.W.typeIn X.K (.ref C) = some (.type "type")) (bs : Bs bmB newId) (iC : PySem.W.findIn X.K (.ref C) "__init__" = some (some (.ref fI))) (tI : PySem.W.isFn X.K (.ref fI) = true)
    (G : FnOk X.prog X.w X.K X.mg X.base CX k fI fd ps sp) (hr : Room (k + 1) X.A) (hb : Binds X.K fd ps []) (hx : Passes CX X (fun _ _ _ => False)) (hg : Gl X x) (hm : X.mg x = some (.ref C)) (ha : PA X (e :: es) ta)
    (hdb : (x == ("__debug__" : Str)) = false := by decide) (he : starEach (e :: es) X.env = (false, eval e X.env) :: starEach es X.env := by rfl) (hpl : (backTo pos (starEach es X.env)).any (·.1) = false := by rfl) :
    L2N.PMk X (.Call (.Name x p) (e :: es) [] pos) (tMkO C sp [] ta) := by
  intro pins s σ H Q I h
  refine wpAny_Call_Name_kw (ld_glob I hg hm ?_ hdb)
  refine PySem.W.callWith_K (h₀ := X.base) I.ok.mod.kin T.kC (thn (ha.run pos pins s σ H _ I h) fun us s1 hh => ?_) he hpl
  obtain ⟨vs, H1, I1, r1, hz, q1⟩ := hh
  refine ⟨I1.kIn, ?_⟩
  obtain ⟨B, iid, FB, SF⟩ := bs
  obtain ⟨nm, N', qn, bs', bm, hdct, sn, sub, ab, col, dd, k0, k1, k2, k3, k5, hC, hT⟩ := PySem.W.excInit_of I1.kIn T.init
  obtain ⟨oI, hoI, hcI⟩ : ∃ oI, s1.heap.get? fI = some oI ∧ oI.cls = .type "function" := by
    obtain ⟨oo, h1, h2⟩ := Option.map_eq_some_iff.mp (show (X.K.lookup fI).map (·.cls) = some (.type "function") from beq_iff_eq.mp tI)
    exact ⟨oo, I1.kIn _ _ h1, h2⟩
  obtain ⟨hp, g, dr, tk, os⟩ := s1
  have kk : ∀ b u, hp.get? b = some u → ((hp.push (PySem.W.kdv_tup us)).push (PySem.HandSPX.excO C hp.objs.size)).get? b = some u := fun b u z => Heap.get?_push_of_some _ (Heap.get?_push_of_some _ z)
  have hget : ((hp.push (PySem.W.kdv_tup us)).push (PySem.HandSPX.excO C hp.objs.size)).get? (hp.objs.size + 1) = some (PySem.HandSPX.excO C hp.objs.size) := by heap_get
  have I2 : Inv X pins σ (upd H1 (hp.objs.size + 1) (exo (hp.objs.size + 1) C none)) ⟨(hp.push (PySem.W.kdv_tup us)).push (PySem.HandSPX.excO C hp.objs.size), g, dr, tk, os⟩ := I1.laid (t' := tk) kk (Nat.le_succ _) (exo_ok hget)
  have hq := q1 (hp.objs.size + 1) (I1.hok.fresh (Nat.le_succ _))
  rw [List.append_nil] at hq
  have r2 : Vals (V.ref (hp.objs.size + 1) :: vs) (Value.ref (hp.objs.size + 1) :: us) := .cons rfl r1
  have hl : (Value.ref (hp.objs.size + 1) :: us ++ []).length = ps.length := by
    rw [List.append_nil, ← r2.length]
    exact G.len _ _ _ _ hq
  have hus : us.length ≤ sizeLine := by
    rw [← Paired.length r1, sizeLine_eq]
    omega
  have hbi := hb _ (Value.ref (hp.objs.size + 1) :: us) I2.kIn hl
  rw [List.append_nil] at hbi
  refine wpAny_call (PySem.HandSPX.call_own FB hT hC (PySem.W.looks_findIn I1.kIn iC) (fun self => PySem.W.exc_bind hoI hcI self) hus (codeAny_mono (G.run _ X.stack _ _ _ _ _ _ (fun _ _ _ => False) (hr.make C us []) (I2.env0.make C us []) hbi r2 hq) fun r s' hq' => ?_))
  cases r with
  | error er => exact hx pins σ _ _ er s' I2 hq'
  | ok fl =>
    cases fl with
    | ret u =>
      obtain ⟨v, H2, os2, bare2, un2, hok2, rv, ev, d, fs, ea, ed, hd1, q2⟩ := hq'
      subst ev
      obtain ⟨h2, g2, d2, t2, os'⟩ := s'
      exact ⟨rv, mk_endN (raises_own T.exC tyC) I1 (Nat.le_succ _) kk un2 hok2 os2 bare2 ea ed hd1 q2⟩
    | next => exact False.elim hq'
    | brk => exact False.elim hq'
    | cont => exact False.elim hq'
end
/-- isinstance(e, c), e the exception that the suite holds -/
theorem call_isEd {X : Cx} {a D d : Addr} {oe : Obj} {pn : List (Addr × Obj)} {bmB : List Value} {nid : String} (T : ExK X.K D bmB nid) (sp : PySem.W.specialIn X.K (.builtin "object.__class__") "__get__" = some (some (.builtin "getset_descriptor.__get__"))) (tk : PySem.W.takesIn X.K (.builtin "object.__class__") = some true)
    (hz : Zc (.ref D) (some d) oe) (hf : ∃ vs, oe.data = .fields vs) : CallR (X.suite a ((a, oe) :: pn)) (.builtin "isinstance") (fun xs H Q => (∃ fs, H d = some (.xd fs)) ∧ rIsE X.K D a xs H Q) := by
  intro pins s σ H xs us Q I r h
  obtain ⟨⟨fs, hd⟩, c, cv, b, rfl, hcv, e, q⟩ := h
  cases r with
  | cons rx rr =>
    cases rr with
    | cons rt rr =>
      cases rr
      cases rx
      have ec := hcv _ rt
      subst ec
      obtain ⟨hget, _⟩ := I.pin (a, oe) (List.mem_append.mpr (.inl List.mem_cons_self))
      obtain ⟨vs, hv⟩ := hf
      have hx : ObjOk X.prog X.w H s.heap d (.xd fs) := I.hok d _ hd
      obtain ⟨mA, hns, rel⟩ := hx
      obtain ⟨od, ho, _⟩ := lookIn_ns hns
      obtain ⟨cd, hc, _⟩ := PySem.W.any_some T.hd
      have J : PySem.W.InstAt s.heap a oe D (some od) := ⟨hget, hz.1, by unfold PySem.W.notCls; rw [hv] <;> rfl, by rw [hz.2]; exact ho⟩
      exact PySem.W.kia_one (PySem.W.kitx_exc (od := some od) (by rw [hc] <;> rfl) T.ga T.gg T.exC T.ha sp tk T.hm) I.kIn J e (fun z => nomatch z) fun tk' => ⟨.bl b, H, I.kept (t' := tk') fun _ _ z => z, rfl, q⟩
theorem cxUpN {P : Program} {w : World} : CXUp (L2N.CX P w) := by
  rintro outer s H s2 H2 E e s' un kp ho ⟨a, B, H', cls, d, ea, fl, hok, ub, na, os, ag, he⟩
  refine ⟨a, B, H', cls, d, ea, fl, hok, ⟨fun b o q n hb => ub.keep b o (kp b o q) (un.free b o q n (by simp)) hb, fun b o q hb => ub.slot b o (kp b o q) hb, fun b o q n => ub.free b o (kp b o q) (un.free b o q n (by simp)),
    fun b o q hb => ub.there b o (kp b o q) hb, fun b xs q => ub.tups b xs (un.tups b xs q), fun b o xs q => ub.frzs b o xs (un.frzs b o xs q), fun b ps q => ?_⟩, na, os.trans ho, ag, he⟩
  obtain ⟨m1, e1⟩ := un.tbls b ps q
  obtain ⟨m2, e2⟩ := ub.tbls b _ e1
  exact ⟨m1 ++ m2, by rw [e2, Array.append_assoc]⟩
theorem fnH_ok {P : Program} {w : World} {K : PySem.W.Frag} {mg : Str → Option Value} {base : Heap} {f : Addr} {x qual : Str} {params : Arguments} {body : List Stmt} {scope : Scope} {dvs : List V} {kws : List (Str × V)} {fd : FuncData} {CX : CXT} {N ps : List Str} {k : Nat} {sp : Sp}
    (F : FunD K x qual params body scope dvs kws f fd) (S : FnScope N ps scope) (len : ∀ vs H Q E, sp vs H Q E → vs.length = ps.length)
    (hbody : ∀ (cdv : Value) (A : Around) (outer : List Env) (s : Shared) (H : Hp) (vs : List V) (Q : VK) (E : XK) (p : Addr × Obj), L2H.Hot1 A p → L2H.RoomH k (A.deeper (envOfC qual scope s.heap.objs.size f cdv)) → sp vs H Q E →
      ∃ t, PSs (L2H.cxH CX P w K mg base N qual scope f cdv A outer s H E p) body t ∧ t { nx := fun _ H' => Q .non H', rt := Q } (start N vs) H) : L2H.FnH P w K mg base CX (k + 1) f fd ps sp := by
  obtain ⟨oc, od, dV, kV, doc, pm, an, cdv, ct, osl, rfl, lk, hcd, _, _⟩ := F.ex
  exact L2H.fn_ofH lk hcd S len fun A outer s H vs Q E p hot hr hsp => hbody cdv A outer s H vs Q E p hot hr hsp
theorem pe_makeR0 {X : Cx} {CX : CXT} {k : Nat} {f C : Addr} {sp : Sp} {E : XK} {x : Str} {p pos : Pos} (M : Mk X.K C f) (F : FnR X.prog X.w X.K X.mg X.base CX k f sp) (hr : Room (k + 1) X.A) (hg : Gl X x) (hm : X.mg x = some (.ref C)) (hx : Passes CX X E)
    (hdb : (x == ("__debug__" : Str)) = false := by decide) : PE X (.Call (.Name x p) [] [] pos) (tMakeR C sp E tNil) := by
  refine ⟨fun pins s σ H Q I h => ?_⟩
  refine wpAny_Call_Name_kw (ld_glob I hg hm ?_ hdb)
  exact PySem.W.callWith_K0 I.kIn M.kp (run_makeR (us := []) M F hr hx I .nil h)
end KX

set_option Elab.async false
set_option maxRecDepth 100000
set_option maxHeartbeats 2000000
/-! for i, x in enumerate(t), t a tuple. -/
namespace KX
open PySem PySem.Spec PyProof.Rows L2
open Sem (wp)
open AutoSeq1 (wpAny_loadPart')
/-- enumerate's maker, told of whatever begins to be walked -/
theorem enum_new1 {v : Value} {o : Obj} {G : Heap → Prop} (B : Begins v o G) :
    Meets (Builtin.«enumerate.__new__» ⟨[.type "enumerate", v], []⟩) (fun _ R s => G s.heap ∧ R (.ok (.ret (.ref (s.heap.push o).objs.size)))
        { s with heap := (s.heap.push o).push { cls := .type "enumerate", data := .fields #[.none, .bool false, .ref s.heap.objs.size, rawInt 0, .none, .none] } }) :=
  .of_wp fun prog w A R s hh => by
    obtain ⟨hp, g, d, tk, os⟩ := s
    have hsub := sub_enumerate
    have it : ∀ {A' : Around} {E Q : Value → Shared → Prop}, Q (.ref hp.objs.size) ⟨hp.push o, g, d, tk, os⟩ → wpAny (model prog w) A' (pyIter v) Q E ⟨hp, g, d, tk, os⟩ := fun q => B.iter _ _ _ _ ⟨hp, g, d, tk, os⟩ _ hh.1 q
    wp_walk using it
    refine wpAny_stack_any fun _ => wpAny_pure ?_
    split
    case h_1 c _ _ _ _ _ => cases (c == Value.type "enumerate") <;> (wp_walk using it; exact ⟨_, rfl, hh.2⟩)
    all_goals (wp_walk using it; exact ⟨_, rfl, hh.2⟩)
section
variable {prog : Program} {w : World} {A : Around} {E : Value → Shared → Prop} {s : Shared}
theorem enum_tup {t : Addr} {its : Array Value} {Q : Value → Shared → Prop} (ht : s.heap.IsTuple t its)
    (q : ∀ h', IsEnum h' (s.heap.objs.size + 1) s.heap.objs.size 0 .none → h'.IsTupleIter s.heap.objs.size t 0 → (∀ b u, s.heap.get? b = some u → h'.get? b = some u) → Q (.ref (s.heap.objs.size + 1)) { s with heap := h' }) :
    wpAny (model prog w) A (call (.type "enumerate") [.ref t]) Q E s := by
  refine callType_new F.called_enumerate (by decide) (F.typeCall_enumerate_1 _) (F.newCall_enumerate_1 _) (fun obj => F.args_object_init_2 obj _) F.entry_enumerate_new (enum_new1 (begins_tuple t its)) ⟨ht, ?_⟩
  generalize ho : ({ cls := .type "tuple_iterator", data := .fields #[.ref t, .int 0 0] } : Obj) = o
  have hf : o.isFreed = false := by rw [← ho]; rfl
  have hz : (s.heap.push o).objs.size = s.heap.objs.size + 1 := Heap.size_push ..
  show _ ∧ _
  rw [hz]
  have e1 : ((s.heap.push o).push { cls := .type "enumerate", data := .fields #[.none, .bool false, .ref s.heap.objs.size, rawInt 0, .none, .none] }).get? (s.heap.objs.size + 1) = some { cls := .type "enumerate", data := .fields #[.none, .bool false, .ref s.heap.objs.size, rawInt 0, .none, .none] } := by
    rw [← hz]
    exact Heap.get?_push_size _ rfl
  have e2 := Heap.get?_push_of_some ({ cls := .type "enumerate", data := .fields #[.none, .bool false, .ref s.heap.objs.size, rawInt 0, .none, .none] }) (Heap.get?_push_size s.heap hf)
  exact ⟨⟨_, e1, rfl⟩, q _ e1 ⟨o, e2, by rw [← ho], by rw [← ho]; rfl⟩ fun b u z => Heap.get?_push_of_some _ (Heap.get?_push_of_some _ z)⟩
end
/-- the tuple at a as it stands at each turn, each item in a new pair -/
def ItE (K : PySem.W.Frag) (a : Addr) : It where
  go := fun i H => ∃ (xs : List V) (x : V), SqT K H a xs ∧ xs[i]? = some x
  yld := fun i H v H' => ∃ T x, v = .ref T ∧ H T = none ∧ H' = upd H T (.tup [.int (i : Nat), x]) ∧ ∀ xs, SqT K H a xs → xs[i]? = some x
  stop := fun i H => ∃ xs : List V, SqT K H a xs ∧ xs.length = i
theorem tup_ne {h : Heap} {a it : Addr} {i : Nat} {its : Array Value} (hi : h.IsTupleIter it a i) (ht : h.IsTuple a its) : a ≠ it := by
  rintro rfl
  obtain ⟨o, ho, hc, _⟩ := hi
  obtain ⟨u, hu, uc, _⟩ := ht
  rw [ho] at hu
  cases hu
  rw [hc] at uc
  exact absurd (Value.type.inj uc) (by decide)
theorem turn_enumT {P : Program} {w : World} {K : PySem.W.Frag} {elts : List Expr} {kk : Nat} {tpos : Pos} (a e it : Addr) :
    Turn P w K (.Tuple elts kk tpos) (ItE K a) [e, it] e (fun i h => (∃ old, IsEnum h e it ((i : Nat) : Int) old) ∧ h.IsTupleIter it a i ∧ e ≠ it) where
  mem := by simp
  obj := fun i h st b hb => by
    obtain ⟨⟨old, he⟩, ⟨o, ho, hc, hd⟩, _⟩ := st
    rcases List.mem_cons.mp hb with rfl | hb
    · exact ⟨_, he, fun v q => nomatch q⟩
    · rw [List.mem_singleton.mp hb]
      exact ⟨o, ho, fun v q => by rw [hd] at q; cases q⟩
  keep := fun i h h' st k => ⟨st.1.imp fun old he => k e (by simp) _ he, st.2.1.at fun o q => k it (by simp) o q, st.2.2⟩
  item := by
    intro X hP hw hK hc i pins s σ H E I hf st hg
    subst hP hw hK
    obtain ⟨⟨old, he⟩, hit, hne⟩ := st
    obtain ⟨xs, x, hq, hx⟩ := hg
    obtain ⟨its, rv, p, hz⟩ := I.tuple hq
    obtain ⟨u, hu, ru⟩ := rv.get hx
    have p' : s.heap.IsTuple a its.toArray := p
    have hel : e < s.heap.objs.size := Heap.lt_size he
    have hil : it < s.heap.objs.size := by obtain ⟨_, q, _⟩ := hit; exact Heap.lt_size q
    have hlt : i < its.toArray.size := by
      have := (List.getElem?_eq_some_iff.mp hu).1
      simpa using this
    have hea : e ≠ a := by
      rintro rfl
      obtain ⟨o2, ho2, uc, _⟩ := p'
      rw [he] at ho2
      cases ho2
      exact absurd (Value.type.inj uc) (by decide)
    refine wpAny_pyNext_enum_itemD (Draws.tuple (A := X.A.in1) (I.ok.hd hc) it a (tup_ne hit p') its.toArray) he ⟨hit, p'⟩ hlt hne (by simp [hne, hea]) fun x2 h' tk hx2 ho st2 hT hsz hk => ?_
    obtain rfl : x2 = u := by
      have e1 : its.toArray[i]? = some u := by simpa using hu
      exact Option.some.inj (hx2.symm.trans e1)
    refine ⟨_, rfl, wpAny_letOwnedTupleGo_enum (s := { s with heap := h', toks := tk + 1 }) ho fun h'' he' sb => ?_⟩
    have hT2 : h''.get? s.heap.objs.size = some { cls := .type "tuple", data := .seq #[.int i tk, x2] } := (sb.2 _ (Nat.ne_of_gt hel)).trans hT
    have new : ObjOk X.prog X.w (upd H s.heap.objs.size (.tup [.int (i : Nat), x])) h'' s.heap.objs.size (.tup [.int (i : Nat), x]) :=
      ⟨by show 2 ≤ sizeLine; decide, [.int i tk, x2], .cons ⟨_, rfl⟩ (.cons ru .nil), ⟨_, hT2, rfl, _, rfl⟩⟩
    have I1 : Inv X pins σ (upd H s.heap.objs.size (.tup [.int (i : Nat), x])) { s with heap := h'', toks := tk + 1 } :=
      I.turnedNew (ch := [e, it]) (fun b ob hb q => (sb.2 b (fun z => hb (by simp [z]))).trans (hk b ob (fun z => hb (by simp [z])) (fun z => hb (by simp [z])) q)) hf (Nat.le_refl _) new
    refine ⟨.ref s.heap.objs.size, _, I1, rfl, ⟨_, x, rfl, I.hok.fresh (Nat.le_refl _), rfl, fun ys hy => by rw [I.tuple_inj hy hq]; exact hx⟩, ⟨⟨x2, ?_⟩, st2.1.at fun o q => (sb.2 it (Ne.symm hne)).trans q, hne⟩, fun b hb => ?_⟩
    · rw [show ((i + 1 : Nat) : Int) = (i : Int) + 1 by omega]
      exact he'
    · have hb' : b < s.heap.objs.size := by
        rcases List.mem_cons.mp hb with rfl | hb
        · exact hel
        · rw [List.mem_singleton.mp hb]
          exact hil
      rw [upd_ne (Nat.ne_of_lt hb')]
      exact (hf b hb).1
  done := by
    intro X hP hw hK hc i pins s σ H E I hf st hg
    subst hP hw hK
    obtain ⟨⟨old, he⟩, hit, hne⟩ := st
    obtain ⟨xs, hq, hx⟩ := hg
    obtain ⟨its, rv, p, hz⟩ := I.tuple hq
    have p' : s.heap.IsTuple a its.toArray := p
    obtain ⟨f0, f1, f2, f3, f4, f5⟩ := hf it (by simp)
    have hl := rv.length
    obtain rfl : i = its.toArray.size := by simp; omega
    exact wpAny_pyNext_enum_endD (Draws.tuple (A := X.A.in1) (I.ok.hd hc) it a (tup_ne hit p') its.toArray) he ⟨hit, p'⟩ fun h' eb => ⟨rfl, I.turned (t' := s.toks) (fun b o hb q => eb b o hb q) f0 f1 f3 f4 f5⟩
  self := fun A i s Q E st h => let ⟨⟨_, he⟩, _⟩ := st; wpAny_pyIter_enum he h
def iEnumT (K : PySem.W.Frag) (ta : TA) : TI := fun σ H R => ta σ H fun vs H1 => ∃ a xs, vs = [.ref a] ∧ SqT K H1 a xs ∧ R (ItE K a) H1
theorem pi_enumT {X : Cx} {e : Expr} {ta : TA} {p pos tpos : Pos} {elts : List Expr} {kk : Nat} (hg : Gl X "enumerate") (hm : X.mg "enumerate" = none) (ha : PA X [e] ta) (hs : starEach [e] X.env = [(false, eval e X.env)] := by rfl) :
    PI X (.Tuple elts kk tpos) (.Call (.Name "enumerate" p) [e] [] pos) (iEnumT X.K ta) := by
  refine ⟨fun pins s σ H R I h => Call_ (ld_blt I hg hm boot_enumerate (PyProof.Rows.callWith_type1 (thn (ha.run pos pins s σ H _ I h) fun us s1 hh => ?_) hs rfl))⟩
  obtain ⟨vs, H1, I1, r1, a, xs, rfl, hq, q⟩ := hh
  obtain rfl := Vals.ref1 r1
  obtain ⟨its, rv, p', hz⟩ := I1.tuple hq
  refine enum_tup p' fun h' he hit hk => wpAny_pyIter_enum he ?_
  have I2 : Inv X pins σ H1 { s1 with heap := h' } := I1.kept (t' := s1.toks) hk
  refine ⟨s1.heap.objs.size + 1, [s1.heap.objs.size + 1, s1.heap.objs.size], _, _, H1, rfl, I2, turn_enumT a (s1.heap.objs.size + 1) s1.heap.objs.size, ⟨⟨.none, he⟩, hit, Nat.succ_ne_self _⟩, fun b hb => ?_, q⟩
  have hle : s1.heap.objs.size ≤ b := by
    rcases List.mem_cons.mp hb with rfl | hb
    · exact Nat.le_succ _
    · rw [List.mem_singleton.mp hb]
      exact Nat.le_refl _
  exact I1.fpOk hle (I1.hok.fresh hle)
theorem walk_enumT {K : PySem.W.Frag} {a : Addr} {xs : List V} : Walk (ItE K a) xs.length (fun H => SqT K H a xs) (YPair (fun i => some (.int (i : Nat))) (fun i => xs[i]?)) :=
  ⟨fun i _ hi q => ⟨xs, xs[i], q, by simp [hi]⟩, fun _ q => ⟨xs, q, rfl⟩, fun i H v H' _ q y => y.elim fun T y => y.elim fun x y => ⟨T, .int (i : Nat), x, y.1, y.2.1, y.2.2.1, rfl, y.2.2.2 xs q⟩⟩
end KX

set_option Elab.async false
set_option maxRecDepth 100000
set_option maxHeartbeats 2000000
/-! Nested data on the abstract heap: it stays while what is tracked stays; bounds of its text. -/
namespace KX
open PySem PySem.Spec PyProof.Rows L2
theorem sqT_same {K : PySem.W.Frag} {H H' : Hp} {a : Addr} {xs : List V} (s : Same H H') (h : SqT K H a xs) : SqT K H' a xs := by
  rcases h with (h | ⟨o, h⟩) | h
  · exact .inl (.inl (s _ _ h))
  · exact .inl (.inr ⟨o, s _ _ h⟩)
  · exact .inr h
mutual
theorem dp_same {K : PySem.W.Frag} {H H' : Hp} (s : Same H H') : ∀ (d : PyData) (v : V), Dp K H v d → Dp K H' v d
  | .none, _, .non => .non
  | .bool _, _, .bl b => .bl b
  | .int _, _, .int i => .int i
  | .str _, _, .str x => .str x
  | .list ds, _, .lst hS ha => .lst (s.seq hS) (dps_same s ds _ ha)
  | .tuple ds, _, .tup hS ha => .tup (sqT_same s hS) (dps_same s ds _ ha)
  | .dict _, _, h => nomatch h
theorem dps_same {K : PySem.W.Frag} {H H' : Hp} (s : Same H H') : ∀ (ds : List PyData) (vs : List V), DpAll K H vs ds → DpAll K H' vs ds
  | [], _, .nil => .nil
  | d :: ds, _, .cons h hs => .cons (dp_same s d _ h) (dps_same s ds _ hs)
end
/-- what may be shown in little room -/
structure Small (d : PyData) (k n : Nat) : Prop where
  sh : d.showable = true
  nd : d.hasDict = false
  dp : d.depth ≤ k
  ln : d.shown.length ≤ n
/-- v is small data on H -/
def Good (K : PySem.W.Frag) (H : Hp) (v : V) : Prop := ∃ d, Dp K H v d ∧ Small d 2 100
theorem Good.same {K : PySem.W.Frag} {H H' : Hp} {v : V} (s : Same H H') (h : Good K H v) : Good K H' v := let ⟨d, h1, h2⟩ := h; ⟨d, dp_same s d v h1, h2⟩
theorem good_int {K : PySem.W.Frag} {H : Hp} {i : Int} (h : i.natAbs < 10 ^ 30) : Good K H (.int i) := by
  refine ⟨.int i, .int i, ⟨decide_eq_true ?_, rfl, Nat.zero_le _, ?_⟩⟩
  · have h2 : i.natAbs < 2 ^ 100 := Nat.lt_trans h (by decide)
    exact Nat.lt_trans (PySem.Flt.log2_lt_of (by decide) h2) (by decide)
  · have q := int_text_length_le10 (k := 30) (by decide) h
    show (Str.ofString (toString i)).length ≤ 100
    rw [PySem.ofString_length]
    omega
theorem textFrom_le {m : Nat} : ∀ (ts : List Str) (k : Nat) (acc : Str), (∀ t ∈ ts, t.length ≤ m) → (textFrom k acc ts).length ≤ acc.length + ts.length * (m + 2)
  | [], k, acc, _ => Nat.le_add_right _ _
  | t :: r, k, acc, h => by
    have q := textFrom_le r (k + 1) (acc ++ (if k > 0 then ", " else "" : String) ++ t) (fun u hu => h u (List.mem_cons_of_mem _ hu))
    have ht := h t List.mem_cons_self
    have e : (acc ++ (if k > 0 then ", " else "" : String) ++ t).length ≤ acc.length + 2 + t.length := by
      rw [Str.length_append, Str.length_append]
      have z : ((if k > 0 then ", " else "" : String) : Str).length ≤ 2 := by
        split <;> decide
      omega
    have f : (t :: r).length * (m + 2) = r.length * (m + 2) + (m + 2) := by rw [List.length_cons, Nat.succ_mul]
    show (textFrom (k + 1) _ r).length ≤ _
    omega
theorem listText_le {m : Nat} {ts : List Str} (h : ∀ t ∈ ts, t.length ≤ m) : (listText ts).length ≤ ts.length * (m + 2) + 2 := by
  have q := textFrom_le ts 0 ("[" : String) h
  unfold listText
  rw [Str.length_append]
  have e1 : (("[" : String) : Str).length = 1 := by decide
  have e2 : (("]" : String) : Str).length = 1 := by decide
  omega
theorem shownAll_mem : ∀ {ds : List PyData} {t : Str}, t ∈ PyData.shownAll ds → ∃ d ∈ ds, t = d.shown
  | [], _, h => nomatch h
  | d :: r, t, h => by
    rcases List.mem_cons.mp (show t ∈ d.shown :: PyData.shownAll r from h) with h | h
    · exact ⟨d, List.mem_cons_self, h⟩
    · obtain ⟨e, he, q⟩ := shownAll_mem h
      exact ⟨e, List.mem_cons_of_mem _ he, q⟩
theorem shownAll_len : ∀ ds : List PyData, (PyData.shownAll ds).length = ds.length
  | [] => rfl
  | d :: r => congrArg (· + 1) (shownAll_len r)
theorem small_all {k n : Nat} : ∀ {ds : List PyData}, (∀ d ∈ ds, Small d k n) → PyData.showableAll ds = true ∧ PyData.hasDictAll ds = false ∧ PyData.depthAll ds ≤ k
  | [], _ => ⟨rfl, rfl, Nat.zero_le _⟩
  | d :: r, h => by
    obtain ⟨h1, h2, h3⟩ := small_all (ds := r) fun e he => h e (List.mem_cons_of_mem _ he)
    have z := h d List.mem_cons_self
    refine ⟨?_, ?_, ?_⟩
    · show (d.showable && PyData.showableAll r) = true
      rw [z.sh, h1]
      rfl
    · show (d.hasDict || PyData.hasDictAll r) = false
      rw [z.nd, h2]
      rfl
    · exact Nat.max_le.mpr ⟨z.dp, h3⟩
/-- a list of small data is small, one deeper -/
theorem small_list {k n m : Nat} {ds : List PyData} (h : ∀ d ∈ ds, Small d k n) (hm : ds.length * (n + 2) + 2 ≤ m) : Small (.list ds) (k + 1) m := by
  obtain ⟨h1, h2, h3⟩ := small_all h
  refine ⟨h1, h2, Nat.succ_le_succ h3, Nat.le_trans (listText_le (m := n) fun t ht => ?_) (by rw [shownAll_len]; exact hm)⟩
  obtain ⟨d, hd, rfl⟩ := shownAll_mem ht
  exact (h d hd).ln
end KX

set_option Elab.async false
set_option maxRecDepth 100000
set_option maxHeartbeats 2000000
/-! Nested data: its type, what isinstance says of it; items of it; small walks. -/
namespace KX
open PySem PySem.Spec PyProof.Rows L2
def tyD : PyData → String
  | .none => "NoneType"
  | .bool _ => "bool"
  | .int _ => "int"
  | .str _ => "str"
  | .list _ => "list"
  | .tuple _ => "tuple"
  | .dict _ => "dict"
def isIntD : PyData → Bool
  | .int _ => true
  | _ => false
def isBoolD : PyData → Bool
  | .bool _ => true
  | _ => false
def isStrD : PyData → Bool
  | .str _ => true
  | _ => false
def isTupD : PyData → Bool
  | .tuple _ => true
  | _ => false
def isLstD : PyData → Bool
  | .list _ => true
  | _ => false
theorem dp_ty {K : PySem.W.Frag} {H : Hp} {v : V} {d : PyData} (h : Dp K H v d) : TyX K H v (.type (tyD d)) := by
  cases h with
  | non => exact .base .non
  | bl b => exact .base (.bl b)
  | int i => exact .base (.int i)
  | str z => exact .base (.str z)
  | tup h _ =>
    rcases h with h | ⟨o, its, n, h1, h2, _⟩
    · rcases h with h | ⟨o, h⟩
      · exact .base (.tup h)
      · exact .fTuple h
    · exact .kTuple h1 h2
  | lst h _ =>
    rcases h with h | ⟨o, its, n, h1, h2, _⟩
    · rcases h with h | ⟨o, h⟩
      · exact .base (.lst h)
      · exact .base (.frz h)
    · exact .kList h1 h2
theorem kit_int {K : PySem.W.Frag} (d : PyData) : PySem.W.kitOne K (.type (tyD d)) (.type "int") = some (isIntD d || isBoolD d) := by cases d <;> kernel_rfl
theorem kit_bool {K : PySem.W.Frag} (d : PyData) : PySem.W.kitOne K (.type (tyD d)) (.type "bool") = some (isBoolD d) := by cases d <;> kernel_rfl
theorem kit_str {K : PySem.W.Frag} (d : PyData) : PySem.W.kitOne K (.type (tyD d)) (.type "str") = some (isStrD d) := by cases d <;> kernel_rfl
theorem kit_tup {K : PySem.W.Frag} (d : PyData) : PySem.W.kitOne K (.type (tyD d)) (.type "tuple") = some (isTupD d) := by cases d <;> kernel_rfl
theorem kit_lst {K : PySem.W.Frag} (d : PyData) : PySem.W.kitOne K (.type (tyD d)) (.type "list") = some (isLstD d) := by cases d <;> kernel_rfl
theorem kit_seq {K : PySem.W.Frag} (d : PyData) : PySem.W.kitAny K (.type (tyD d)) [.type "list", .type "tuple"] = some (isLstD d || isTupD d) := by
  unfold PySem.W.kitAny PySem.W.kitAny PySem.W.kitAny
  rw [kit_lst, kit_tup]
  cases d <;> rfl
theorem ite2' {b : Bool} {A B : Prop} (h1 : b = true → A) (h2 : b = false → B) : if b = true then A else B := by
  cases b
  · exact h2 rfl
  · exact h1 rfl
theorem same_put {H : Hp} {p : Addr} {o : HO} (hp : H p = none) : Same H (upd H p o) := fun x u e => (upd_ne (ne_of_none e hp)).trans e
theorem sqL_same {K : PySem.W.Frag} {H H' : Hp} {a : Addr} {xs : List V} (s : Same H H') (h : SqL K H a xs) : SqL K H' a xs := by
  rcases h with (h | ⟨o, h⟩) | h
  · exact .inl (.inl (s _ _ h))
  · exact .inl (.inr ⟨o, s _ _ h⟩)
  · exact .inr h
theorem dpall_len {K : PySem.W.Frag} {H : Hp} : ∀ {xs : List V} {ds : List PyData}, DpAll K H xs ds → xs.length = ds.length
  | _, _, .nil => rfl
  | _, _, .cons _ h => congrArg (· + 1) (dpall_len h)
theorem dpall_at {K : PySem.W.Frag} {H : Hp} : ∀ {xs : List V} {ds : List PyData} {i : Nat} {x : V}, DpAll K H xs ds → xs[i]? = some x → ∃ d, ds[i]? = some d ∧ Dp K H x d
  | _, _, 0, _, .cons h _, e => ⟨_, rfl, by cases e; exact h⟩
  | _, _, i + 1, _, .cons _ t, e => dpall_at (i := i) t e
theorem dpall_snoc {K : PySem.W.Frag} {H : Hp} {x : V} {d : PyData} (h : Dp K H x d) : ∀ {xs : List V} {ds : List PyData}, DpAll K H xs ds → DpAll K H (xs ++ [x]) (ds ++ [d])
  | _, _, .nil => .cons h .nil
  | _, _, .cons h1 t => .cons h1 (dpall_snoc h t)
theorem dpall_app {K : PySem.W.Frag} {H : Hp} {ys : List V} {es : List PyData} (k : DpAll K H ys es) : ∀ {xs : List V} {ds : List PyData}, DpAll K H xs ds → DpAll K H (xs ++ ys) (ds ++ es)
  | _, _, .nil => k
  | _, _, .cons h1 t => .cons h1 (dpall_app k t)
theorem dpall_take {K : PySem.W.Frag} {H : Hp} : ∀ {xs : List V} {ds : List PyData} (i : Nat), DpAll K H xs ds → DpAll K H (xs.take i) (ds.take i)
  | _, _, 0, _ => .nil
  | _, _, _ + 1, .nil => .nil
  | _, _, i + 1, .cons h t => .cons h (dpall_take i t)
theorem dpall_drop {K : PySem.W.Frag} {H : Hp} : ∀ {xs : List V} {ds : List PyData} (i : Nat), DpAll K H xs ds → DpAll K H (xs.drop i) (ds.drop i)
  | _, _, 0, h => h
  | _, _, _ + 1, .nil => .nil
  | _, _, i + 1, .cons _ t => dpall_drop i t
theorem dpall_set {K : PySem.W.Frag} {H : Hp} {x : V} {d : PyData} (h : Dp K H x d) : ∀ {xs : List V} {ds : List PyData} (i : Nat), DpAll K H xs ds → DpAll K H (xs.set i x) (ds.set i d)
  | _, _, _, .nil => .nil
  | _, _, 0, .cons _ t => .cons h t
  | _, _, i + 1, .cons h1 t => .cons h1 (dpall_set h i t)
theorem dpall_erase {K : PySem.W.Frag} {H : Hp} : ∀ {xs : List V} {ds : List PyData} (i : Nat), DpAll K H xs ds → DpAll K H (xs.eraseIdx i) (ds.eraseIdx i)
  | _, _, _, .nil => .nil
  | _, _, 0, .cons _ t => t
  | _, _, i + 1, .cons h t => .cons h (dpall_erase i t)
theorem dpall_3 {K : PySem.W.Frag} {H : Hp} : ∀ {xs : List V} {ds : List PyData}, DpAll K H xs ds → xs.length = 3 → ∃ x y z a b c, xs = [x, y, z] ∧ ds = [a, b, c] ∧ Dp K H x a ∧ Dp K H y b ∧ Dp K H z c
  | _, _, .cons h1 (.cons h2 (.cons h3 .nil)), _ => ⟨_, _, _, _, _, _, rfl, rfl, h1, h2, h3⟩
  | _, _, .nil, e => nomatch e
  | _, _, .cons _ .nil, e => nomatch e
  | _, _, .cons _ (.cons _ .nil), e => nomatch e
  | _, _, .cons _ (.cons _ (.cons _ (.cons _ _))), e => absurd e (by simp)
/-- a text's data -/
theorem dpall_strs {K : PySem.W.Frag} {H : Hp} : ∀ zs : List Str, DpAll K H (zs.map V.str) (zs.map PyData.str)
  | [] => .nil
  | z :: zs => .cons (.str z) (dpall_strs zs)
/-- one of two walks -/
theorem pi_or {X : Cx} {tg e : Expr} {A B : TI} (ha : PI X tg e A) (hb : PI X tg e B) : PI X tg e (fun σ H R => A σ H R ∨ B σ H R) :=
  ⟨fun pins s σ H R I h => h.elim (ha.run pins s σ H R I) (hb.run pins s σ H R I)⟩
theorem take_at {α : Type} {xs : List α} {i : Nat} {x : α} (h : xs[i]? = some x) : xs.take (i + 1) = xs.take i ++ [x] := by
  rw [List.take_add_one, h]
  rfl
theorem ixN_nat {n j : Nat} (h : j < n) : ixN n (j : Int) = some j := by
  unfold ixN
  rw [if_pos (by omega), if_pos (by omega)]
  rfl
theorem len_is {α : Type} {xs : List α} (j : Nat) (c : decide (V.int ((xs.length : Nat) : Int) = V.int (j : Int)) = true) : xs.length = j := by
  have q := V.int.inj (of_decide_eq_true c)
  omega
theorem len_not {α : Type} {xs : List α} (j : Nat) (c : decide (V.int ((xs.length : Nat) : Int) = V.int (j : Int)) = false) : xs.length ≠ j := fun e => of_decide_eq_false c (by rw [e])
theorem len_isN {α : Type} {xs : List α} (j : Nat) (c : (!decide (V.int ((xs.length : Nat) : Int) = V.int (j : Int))) = false) : xs.length = j := by
  refine len_is j ?_
  revert c
  cases decide (V.int ((xs.length : Nat) : Int) = V.int (j : Int)) <;> intro q
  · cases q
  · rfl
theorem len_notN {α : Type} {xs : List α} (j : Nat) (c : (!decide (V.int ((xs.length : Nat) : Int) = V.int (j : Int))) = true) : xs.length ≠ j := by
  rintro e
  rw [e, decide_eq_true rfl] at c
  cases c
theorem lay_all {k : Nat} : ∀ {ds : List PyData}, (∀ d ∈ ds, d.canLay0 = true ∧ d.depth ≤ k) → PyData.canLayAll0 ds = true ∧ PyData.depthAll ds ≤ k
  | [], _ => ⟨rfl, Nat.zero_le _⟩
  | d :: ds, h => by
    obtain ⟨h1, h2⟩ := h d List.mem_cons_self
    obtain ⟨h3, h4⟩ := lay_all fun e he => h e (List.mem_cons_of_mem _ he)
    refine ⟨?_, ?_⟩
    · show (d.canLay0 && PyData.canLayAll0 ds) = true
      rw [h1, h3]
      rfl
    · show max d.depth (PyData.depthAll ds) ≤ k
      exact Nat.max_le.mpr ⟨h2, h4⟩
theorem list_shaped {ds : List PyData} (h : ∀ d ∈ ds, d.canLay0 = true ∧ d.depth ≤ 60) : SeqAt.shaped (.list ds) = true := by
  obtain ⟨h1, h2⟩ := lay_all h
  unfold SeqAt.shaped
  refine Bool.and_eq_true_iff.mpr ⟨h1, decide_eq_true ?_⟩
  show PyData.depthAll ds + 1 ≤ 64
  omega
end KX

set_option Elab.async false
set_option maxRecDepth 100000
set_option maxHeartbeats 2000000
/-! Names: texts of 1 to 8 letters a to z. -/
namespace KX
open PySem PySem.Spec PyProof.Rows L2
def isLet (c : Nat) : Bool := decide (97 ≤ c) && decide (c ≤ 122)
def isNm (z : Str) : Bool := decide (1 ≤ z.length) && decide (z.length ≤ 8) && z.cps.toList.all isLet
def nmD : PyData → Bool
  | .str z => isNm z
  | _ => false
def okN (d : PyData) : Prop := ∀ z, d = .str z → z.length ≤ 1000
theorem letters_eq : (("abcdefghijklmnopqrstuvwxyz" : Str)).cps.toList = [97, 98, 99, 100, 101, 102, 103, 104, 105, 106, 107, 108, 109, 110, 111, 112, 113, 114, 115, 116, 117, 118, 119, 120, 121, 122] := by decide +kernel
theorem mem_26 (c : Nat) : c ∈ ([97, 98, 99, 100, 101, 102, 103, 104, 105, 106, 107, 108, 109, 110, 111, 112, 113, 114, 115, 116, 117, 118, 119, 120, 121, 122] : List Nat) ↔ (97 ≤ c ∧ c ≤ 122) := by
  constructor
  · intro h
    have k : ∀ x ∈ ([97, 98, 99, 100, 101, 102, 103, 104, 105, 106, 107, 108, 109, 110, 111, 112, 113, 114, 115, 116, 117, 118, 119, 120, 121, 122] : List Nat), 97 ≤ x ∧ x ≤ 122 := by decide
    exact k c h
  · rintro ⟨h1, h2⟩
    obtain ⟨k, rfl⟩ : ∃ k, c = 97 + k := ⟨c - 97, by omega⟩
    have hk : k < 26 := by omega
    have z : ∀ k : Fin 26, 97 + k.val ∈ ([97, 98, 99, 100, 101, 102, 103, 104, 105, 106, 107, 108, 109, 110, 111, 112, 113, 114, 115, 116, 117, 118, 119, 120, 121, 122] : List Nat) := by decide
    exact z ⟨k, hk⟩
theorem mem_letters (c : Nat) : decide (c ∈ (("abcdefghijklmnopqrstuvwxyz" : Str)).cps.toList) = isLet c := by
  rw [letters_eq]
  unfold isLet
  by_cases h : 97 ≤ c ∧ c ≤ 122
  · rw [decide_eq_true h.1, decide_eq_true h.2]
    exact decide_eq_true ((mem_26 c).mpr h)
  · have e : (decide (97 ≤ c) && decide (c ≤ 122)) = false := by
      by_cases h1 : 97 ≤ c
      · rw [decide_eq_true h1, decide_eq_false (fun h2 => h ⟨h1, h2⟩)]
        rfl
      · rw [decide_eq_false h1]
        rfl
    rw [e]
    exact decide_eq_false fun q => h ((mem_26 c).mp q)
theorem one_lt (a b : Nat) : ([a] < [b]) ↔ a < b := by
  constructor
  · intro h
    rcases List.cons_lt_cons_iff.mp h with h | ⟨rfl, h⟩
    · exact h
    · exact absurd h (List.lt_irrefl _)
  · intro h
    exact List.cons_lt_cons_iff.mpr (.inl h)
theorem lo_let (c : Nat) : (!decide ((⟨#[c]⟩ : Str).cps.toList < (("a" : Str)).cps.toList)) = decide (97 ≤ c) := by
  have e : (("a" : Str)).cps.toList = [97] := by decide +kernel
  rw [e]
  show (!decide ([c] < [97])) = _
  by_cases h : 97 ≤ c
  · rw [decide_eq_true h, decide_eq_false (fun q => by have := (one_lt _ _).mp q; omega)]
    rfl
  · rw [decide_eq_false h, decide_eq_true ((one_lt _ _).mpr (by omega))]
    rfl
theorem hi_let (c : Nat) : (!decide ((("z" : Str)).cps.toList < (⟨#[c]⟩ : Str).cps.toList)) = decide (c ≤ 122) := by
  have e : (("z" : Str)).cps.toList = [122] := by decide +kernel
  rw [e]
  show (!decide ([122] < [c])) = _
  by_cases h : c ≤ 122
  · rw [decide_eq_true h, decide_eq_false (fun q => by have := (one_lt _ _).mp q; omega)]
    rfl
  · rw [decide_eq_false h, decide_eq_true ((one_lt _ _).mpr (by omega))]
    rfl
theorem nm_off {d : PyData} (h : isStrD d = false) : nmD d = false := by cases d <;> first | rfl | cases h
theorem nm_short {z : Str} (h : z.length < 1) : isNm z = false := by
  unfold isNm
  rw [decide_eq_false (by omega)]
  rfl
theorem nm_long {z : Str} (h : z.length > 8) : isNm z = false := by
  unfold isNm
  rw [decide_eq_false (show ¬ z.length ≤ 8 by omega), Bool.and_false]
  rfl
theorem nm_mid {z : Str} (h1 : ¬ z.length < 1) (h2 : ¬ z.length > 8) : isNm z = z.cps.toList.all isLet := by
  unfold isNm
  rw [decide_eq_true (by omega), decide_eq_true (by omega)]
  rfl
/-- what is promised of is_name -/
def spName (K : PySem.W.Frag) : Sp := fun vs H Q _ => ∃ (x : V) (d : PyData), vs = [x] ∧ Dp K H x d ∧ okN d ∧ ∀ H', Same H H' → Q (.bl (nmD d)) H'
def spInt (K : PySem.W.Frag) : Sp := fun vs H Q _ => ∃ (x : V) (d : PyData), vs = [x] ∧ Dp K H x d ∧ Q (.bl (isIntD d)) H
theorem str_dec (u v : Str) : decide (V.str u = V.str v) = decide (u = v) := by
  by_cases h : u = v
  · rw [h, decide_eq_true rfl, decide_eq_true rfl]
  · rw [decide_eq_false (fun q => h (V.str.inj q)), decide_eq_false h]
theorem str_dec' (u v : Str) : decide (V.str u = V.str v) = decide (v = u) := by
  rw [str_dec]
  by_cases h : u = v
  · rw [h]
  · rw [decide_eq_false h, decide_eq_false (fun q => h q.symm)]
end KX

set_option Elab.async false
set_option maxRecDepth 100000
set_option maxHeartbeats 2000000
/-! A walk over a thing that is a list or a tuple. -/
namespace KX
open PySem PySem.Spec PyProof.Rows L2
section
variable {X : Cx} {tg : Expr}
def Sq (K : PySem.W.Frag) (H : Hp) (a : Addr) (xs : List V) : Prop := SqL K H a xs ∨ SqT K H a xs
theorem Sq.same {K : PySem.W.Frag} {H H' : Hp} {a : Addr} {xs : List V} (s : Same H H') (h : Sq K H a xs) : Sq K H' a xs := h.imp (sqL_same s) (sqT_same s)
def iSeq (K : PySem.W.Frag) (tl : TE) : TI := fun σ H R => tl σ H fun x H1 => ∃ a xs, x = .ref a ∧ Sq K H1 a xs ∧ ∀ J, Walk J xs.length (fun G => Same H1 G) (YAt xs) → R J H1
theorem pi_seq {l : Expr} {tl : TE} (hl : PE X l tl) : PI X tg l (iSeq X.K tl) := by
  refine ⟨fun pins s σ H R I h => ?_⟩
  refine thn (hl.run pins s σ H _ I h) fun v s1 ⟨x, H1, I1, r1, q1⟩ => ?_
  obtain ⟨a, xs, e, hq, q⟩ := q1
  subst e
  cases r1
  rcases hq with hq | hq
  · obtain ⟨its, rv, p, hz⟩ := I1.list hq
    refine wpAny_pyIter_list p.isList ?_
    refine ⟨s1.heap.objs.size, [s1.heap.objs.size], _, _, H1, rfl, I1.kept (t' := s1.toks) fun b o e => Heap.get?_push_of_some _ e, turn_list a _, ⟨_, Heap.get?_push_size _ rfl, rfl, rfl⟩, fun b hb => ?_, q _ (walk_list.mono (fun G z => sqL_same z hq) fun _ _ _ _ _ _ y => y)⟩
    have e : b = s1.heap.objs.size := by simpa using hb
    subst e
    exact I1.fpOk (Nat.le_refl _) (I1.hok.fresh (Nat.le_refl _))
  · obtain ⟨its, rv, p, hz⟩ := I1.tuple hq
    refine wpAny_pyIter_tuple (show s1.heap.IsTuple a its.toArray from p) ?_
    refine ⟨s1.heap.objs.size, [s1.heap.objs.size], _, _, H1, rfl, I1.kept (t' := s1.toks) fun b o e => Heap.get?_push_of_some _ e, turn_tuple a _, ⟨_, Heap.get?_push_size _ rfl, rfl, rfl⟩, fun b hb => ?_, q _ (walk_tup.mono (fun G z => sqT_same z hq) fun _ _ _ _ _ _ y => y)⟩
    have e : b = s1.heap.objs.size := by simpa using hb
    subst e
    exact I1.fpOk (Nat.le_refl _) (I1.hok.fresh (Nat.le_refl _))
def iEnumS (K : PySem.W.Frag) (ta : TA) : TI := fun σ H R => ta σ H fun vs H1 => ∃ a xs, vs = [.ref a] ∧ Sq K H1 a xs ∧ ∀ J, Walk J xs.length (fun G => Same H1 G) (YPair (fun i => some (.int (i : Nat))) (fun i => xs[i]?)) → R J H1
theorem pi_enumS {e : Expr} {ta : TA} {p pos tpos : Pos} {elts : List Expr} {kk : Nat} (hg : Gl X "enumerate") (hm : X.mg "enumerate" = none) (ha : PA X [e] ta) (hs : starEach [e] X.env = [(false, eval e X.env)] := by rfl) :
    PI X (.Tuple elts kk tpos) (.Call (.Name "enumerate" p) [e] [] pos) (iEnumS X.K ta) := by
  refine ⟨fun pins s σ H R I h => Call_ (ld_blt I hg hm boot_enumerate (PyProof.Rows.callWith_type1 (thn (ha.run pos pins s σ H _ I h) fun us s1 hh => ?_) hs rfl))⟩
  obtain ⟨vs, H1, I1, r1, a, xs, rfl, hq, q⟩ := hh
  obtain rfl := Vals.ref1 r1
  rcases hq with hq | hq
  · obtain ⟨its, rv, p', hz⟩ := I1.list hq
    refine call_enumerate_list p'.isList fun h' he hit hsz hk => wpAny_pyIter_enum he ?_
    have I2 : Inv X pins σ H1 { s1 with heap := h' } := I1.kept (t' := s1.toks) hk
    refine ⟨s1.heap.objs.size + 1, [s1.heap.objs.size + 1, s1.heap.objs.size], _, _, H1, rfl, I2, turn_enum a (s1.heap.objs.size + 1) s1.heap.objs.size, ⟨⟨.none, he⟩, hit, Nat.succ_ne_self _⟩, fun b hb => ?_, q _ (walk_enum.mono (fun G z => sqL_same z hq) fun _ _ _ _ _ _ y => y)⟩
    have hle : s1.heap.objs.size ≤ b := by
      rcases List.mem_cons.mp hb with rfl | hb
      · exact Nat.le_succ _
      · rw [List.mem_singleton.mp hb]
        exact Nat.le_refl _
    exact I1.fpOk hle (I1.hok.fresh hle)
  · obtain ⟨its, rv, p', hz⟩ := I1.tuple hq
    refine enum_tup p' fun h' he hit hk => wpAny_pyIter_enum he ?_
    have I2 : Inv X pins σ H1 { s1 with heap := h' } := I1.kept (t' := s1.toks) hk
    refine ⟨s1.heap.objs.size + 1, [s1.heap.objs.size + 1, s1.heap.objs.size], _, _, H1, rfl, I2, turn_enumT a (s1.heap.objs.size + 1) s1.heap.objs.size, ⟨⟨.none, he⟩, hit, Nat.succ_ne_self _⟩, fun b hb => ?_, q _ (walk_enumT.mono (fun G z => sqT_same z hq) fun _ _ _ _ _ _ y => y)⟩
    have hle : s1.heap.objs.size ≤ b := by
      rcases List.mem_cons.mp hb with rfl | hb
      · exact Nat.le_succ _
      · rw [List.mem_singleton.mp hb]
        exact Nat.le_refl _
    exact I1.fpOk hle (I1.hok.fresh hle)
/-- xs[i] of a list or a tuple -/
theorem atI_len {α β : Type} (f : α → β) (xs : List α) (i : Int) : atI (xs.map f) i = (atI xs i).map f := by
  unfold atI
  rw [List.length_map]
  cases ixN xs.length i with
  | none => rfl
  | some j =>
    show (xs.map f)[j]? = (xs[j]?).map f
    rw [List.getElem?_map]
end
end KX
namespace KX
open PySem PySem.Spec PyProof.Rows L2
theorem ix_of {K : PySem.W.Frag} {H : Hp} {a : Addr} {xs : List V} {i : Int} {v : V} {Q : VK} (h : Sq K H a xs) (e : atI xs i = some v) (q : Q v H) : rIx K (.ref a) (.int i) H Q :=
  h.elim (fun h => .inl ⟨a, xs, i, v, rfl, rfl, h, e, q⟩) fun h => .inr (.inl ⟨a, xs, i, v, rfl, rfl, h, e, q⟩)
/-- the place ahead of i, around -/
def pred (n i : Nat) : Nat := if i = 0 then n - 1 else i - 1
theorem pred_lt {n i : Nat} (h : i < n) : pred n i < n := by unfold pred; split <;> omega
theorem ixN_pred {n i : Nat} (h : i < n) : ixN n ((i : Int) - 1) = some (pred n i) := by
  unfold ixN pred
  by_cases h0 : i = 0
  · subst h0
    rw [if_neg (by omega), if_pos (by omega), if_pos rfl]
    congr 1
    omega
  · rw [if_pos (by omega), if_pos (by omega), if_neg h0]
    congr 1
    omega
theorem atI_pred {α : Type} {xs : List α} {i : Nat} (h : i < xs.length) : atI xs ((i : Int) - 1) = xs[pred xs.length i]? := by
  unfold atI
  rw [ixN_pred h]
  rfl
theorem range_at {n i : Nat} : (List.range n).take n = List.range n := by rw [List.take_of_length_le (by rw [List.length_range]; exact Nat.le_refl _)]
theorem map_range_succ {α : Type} (f : Nat → α) (i : Nat) : (List.range (i + 1)).map f = (List.range i).map f ++ [f i] := by
  rw [List.range_succ, List.map_append]
  rfl
theorem walk_rng {n : Nat} : Walk (Itr 0 n) n (fun _ => True) (fun i H x H' => H' = H ∧ x = .int ((i : Nat) : Int)) :=
  walk_range.mono (fun _ h => h) fun i H x H' _ _ y => ⟨y.1, by rw [y.2]; show V.int (0 + (i : Int)) = _; rw [Int.zero_add]⟩
def rLenQ (K : PySem.W.Frag) : List V → Hp → VK → Prop := fun xs H Q => ∃ p ys, xs = [.ref p] ∧ (SqL K H p ys ∨ SqT K H p ys) ∧ Q (.int ys.length) H
end KX

set_option Elab.async false
set_option maxRecDepth 100000
set_option maxHeartbeats 2000000
/-! len, bool, abs, in, ==, >>, + of own instances, by own methods; max(.., default=). -/
namespace KX
open PySem PySem.Spec PySem.Calls PyProof.Rows L2
section
variable {X : Cx} {pins : List (Addr × Obj)} {σ : L2.St} {H : Hp} {s : Shared} {CX : CXT} {k : Nat} {f C : Addr} {fd : FuncData} {ps : List Str} {sp : Sp} {E : XK}
/-- f called by a built-in, one call deep -/
theorem run_in1 {us : List Value} {vs : List V} {Q : VK} (F : FnOk X.prog X.w X.K X.mg X.base CX k f fd ps sp) (hr : Room (k + 1) X.A) (hb : Binds X.K fd ps []) (hx : Passes CX X E) (I : Inv X pins σ H s) (r : Vals vs us) (h : sp vs H Q E) :
    wpAny (model X.prog X.w) X.A.in1 (call (.ref f) us) (EP X pins σ Q) X.xe s := by
  have hl : (us ++ []).length = ps.length := by
    rw [List.append_nil, ← r.length]
    exact F.len _ _ _ _ h
  have hbi := hb s us I.kIn hl
  rw [List.append_nil] at hbi
  refine wpAny_call (codeAny_mono (F.run X.A.in1 X.stack s H ⟨us, []⟩ us vs Q E hr.in1 I.env0.in1 hbi r h) fun res s' z => ?_)
  match res, z with
  | .error e, z => exact hx pins σ H s e s' I z
  | .ok (.ret u), z => exact I.after z
  | .ok .next, z => exact False.elim z
  | .ok .brk, z => exact False.elim z
  | .ok .cont, z => exact False.elim z
theorem run_in0 {us : List Value} {vs : List V} {Q : VK} (F : FnOk X.prog X.w X.K X.mg X.base CX k f fd ps sp) (hr : Room k X.A) (hb : Binds X.K fd ps []) (hx : Passes CX X E) (I : Inv X pins σ H s) (r : Vals vs us) (h : sp vs H Q E) :
    wpAny (model X.prog X.w) X.A (call (.ref f) us) (EP X pins σ Q) X.xe s :=
  run_fn (dvs := []) F hr hb .nil hx I r (by rw [List.append_nil]; exact h)
/-- an instance of C that H tracks -/
abbrev InsT (H : Hp) (a C : Addr) : Prop := ∃ dx fs, H a = some (.ins C dx fs)
theorem insT_at (I : Inv X pins σ H s) {a : Addr} (h : InsT H a C) : ∃ ox od, PySem.W.InstAt s.heap a ox C od := by
  obtain ⟨dx, fs, h⟩ := h
  obtain ⟨mA, O, _⟩ := ins_get I.hok h
  obtain ⟨od, J, _⟩ := O.look
  exact ⟨_, _, J⟩
/-- len(o) -/
theorem call_lenO (m : Meth X.K C "__len__" f) (F : FnOk X.prog X.w X.K X.mg X.base CX k f fd ps sp) (hr : Room (k + 1) X.A) (hb : Binds X.K fd ps []) (hx : Passes CX X E) :
    CallR X (.builtin "len") (fun xs H Q => ∃ a, xs = [.ref a] ∧ InsT H a C ∧ sp [.ref a] H (fun v H' => ∃ n : Nat, v = .int n ∧ n < 2 ^ 62 ∧ Q (.int n) H') E) := by
  intro pins s σ H xs us Q I r h
  obtain ⟨a, rfl, hi, q⟩ := h
  obtain rfl := Vals.ref1 r
  obtain ⟨ox, od, J⟩ := insT_at I hi
  obtain ⟨m', fr⟩ := I.fr
  refine PySem.W.len_K fr I.mod.kin J m.at_ m.fn (wpAny_mono (run_in1 F hr hb hx I r q) (fun u s' z => ?_) fun _ _ z => z)
  obtain ⟨v, H', I', rv, n, rfl, hn, q'⟩ := z
  obtain ⟨t, rfl⟩ := rv
  exact ⟨⟨by omega, by omega⟩, .int n, H', I'.tok _, ⟨_, rfl⟩, q'⟩
/-- the truth of o -/
theorem truthy_O (m : Meth X.K C "__bool__" f) (F : FnOk X.prog X.w X.K X.mg X.base CX k f fd ps sp) (hr : Room k X.A) (hb : Binds X.K fd ps []) (hx : Passes CX X E) {a : Addr} {Q : Bool → Hp → Prop} (I : Inv X pins σ H s) (hi : InsT H a C)
    (q : sp [.ref a] H (fun v H' => ∃ b, v = .bl b ∧ Q b H') E) : wpAny (model X.prog X.w) X.A (truthy (.ref a)) (TP X pins σ Q) X.xe s := by
  obtain ⟨ox, od, J⟩ := insT_at I hi
  obtain ⟨m', fr⟩ := I.fr
  refine PySem.W.truthy_K fr I.mod.kin J m.at_ m.fn (wpAny_mono (run_in0 F hr hb hx I (us := [.ref a]) (vs := [.ref a]) (.cons rfl .nil) q) (fun u s' z => ?_) fun _ _ z => z)
  obtain ⟨v, H', I', rv, b, rfl, q'⟩ := z
  cases (show u = Value.bool b from rv)
  exact ⟨H', I', q'⟩
/-- x in o -/
theorem op_inO (m : Meth X.K C "__contains__" f) (F : FnOk X.prog X.w X.K X.mg X.base CX k f fd ps sp) (hr : Room k X.A) (hb : Binds X.K fd ps []) (hx : Passes CX X E) :
    OpR X (compareOp .In) (fun x y H Q => ∃ a, y = .ref a ∧ InsT H a C ∧ sp [.ref a, x] H (fun v H' => ∃ b, v = .bl b ∧ Q (.bl b) H') E) := by
  intro pins s σ H x y v u Q I rx ry h
  obtain ⟨a, rfl, hi, q⟩ := h
  cases (show u = Value.ref a from ry)
  obtain ⟨ox, od, J⟩ := insT_at I hi
  obtain ⟨m', fr⟩ := I.fr
  refine PySem.W.in_K fr I.mod.kin J m.at_ m.fn (wpAny_mono (run_in0 F hr hb hx I (us := [.ref a, v]) (vs := [.ref a, x]) (.cons rfl (.cons rx .nil)) q) (fun u s' z => ?_) fun _ _ z => z)
  obtain ⟨v', H', I', rv, b, rfl, q'⟩ := z
  cases (show u = Value.bool b from rv)
  exact wpAny_truthy_bool ⟨.bl b, H', I', rfl, q'⟩
theorem op_notInO (m : Meth X.K C "__contains__" f) (F : FnOk X.prog X.w X.K X.mg X.base CX k f fd ps sp) (hr : Room k X.A) (hb : Binds X.K fd ps []) (hx : Passes CX X E) :
    OpR X (compareOp .NotIn) (fun x y H Q => ∃ a, y = .ref a ∧ InsT H a C ∧ sp [.ref a, x] H (fun v H' => ∃ b, v = .bl b ∧ Q (.bl (!b)) H') E) := by
  intro pins s σ H x y v u Q I rx ry h
  obtain ⟨a, rfl, hi, q⟩ := h
  cases (show u = Value.ref a from ry)
  obtain ⟨ox, od, J⟩ := insT_at I hi
  obtain ⟨m', fr⟩ := I.fr
  refine PySem.W.notIn_K fr I.mod.kin J m.at_ m.fn (wpAny_mono (run_in0 F hr hb hx I (us := [.ref a, v]) (vs := [.ref a, x]) (.cons rfl (.cons rx .nil)) q) (fun u s' z => ?_) fun _ _ z => z)
  obtain ⟨v', H', I', rv, b, rfl, q'⟩ := z
  cases (show u = Value.bool b from rv)
  exact wpAny_truthy_bool ⟨.bl (!b), H', I', rfl, q'⟩
/-- abs(o) -/
theorem call_absO (m : Meth X.K C "__abs__" f) (F : FnOk X.prog X.w X.K X.mg X.base CX k f fd ps sp) (hr : Room (k + 1) X.A) (hb : Binds X.K fd ps []) (hx : Passes CX X E) :
    CallR X (.builtin "abs") (fun xs H Q => ∃ a, xs = [.ref a] ∧ InsT H a C ∧ sp [.ref a] H Q E) := by
  intro pins s σ H xs us Q I r h
  obtain ⟨a, rfl, hi, q⟩ := h
  obtain rfl := Vals.ref1 r
  obtain ⟨ox, od, J⟩ := insT_at I hi
  refine call_function_entry kind_abs plain_abs entry_abs (args_abs _) ?_
  unfold Builtin.«abs»
  refine wpAny_bind (m := oneArg "abs" _) (wpAny_pure ?_)
  refine wpAny_bind (m := callSpecial? (.ref a) (Str.ofString "__abs__")) ?_
  refine PySem.W.special_fn I.kIn J m.at_ (beq_iff_eq.mp m.fn) ?_
  exact wpAny_mono (run_in1 F hr hb hx I r q) (fun u s' z => wpAny_pure ⟨u, rfl, z⟩) fun _ _ z => z
/-- max(xs, default=d), of whole numbers -/
def rMaxD (K : PySem.W.Frag) : List V → List V → Hp → VK → Prop := fun xs zs H Q => ∃ (a : Addr) (ns : List Int) (d : Int), xs = [.ref a] ∧ zs = [.int d] ∧ SqL K H a (ns.map V.int) ∧
  Q (.int (match ns with | [] => d | n :: r => r.foldl max n)) H
theorem cr_maxD (hc : X.calm = true) (hu : X.A.units + 64 < cLine) : CallRK X (.builtin "max") [Str.ofString "default"] (rMaxD X.K) := by
  intro pins s σ H xs zs us ws Q I r rz h
  obtain ⟨a, ns, d, rfl, rfl, hs, q⟩ := h
  obtain rfl := Vals.ref1 r
  obtain ⟨ud, rfl, td, rfl⟩ := vals1 rz
  obtain ⟨its, rv, hl, _⟩ := I.list hs
  obtain ⟨as, ra⟩ : ∃ as, ReadsAll s.heap its (ns.map PyData.int) as := by
    clear hs hl q
    rename_i hlen
    clear hlen
    induction ns generalizing its with
    | nil => cases rv; exact ⟨_, .nil⟩
    | cons n r ih =>
      cases rv with
      | cons h t =>
        obtain ⟨tk, rfl⟩ := h
        obtain ⟨as, ra⟩ := ih _ t
        exact ⟨_, .cons (.int _ _) ra⟩
  have dep : PyData.depthAll (ns.map PyData.int) = 0 := by
    clear ra hs q rv hl
    rename_i hlen
    clear hlen
    induction ns with
    | nil => rfl
    | cons n r ih => exact Nat.le_zero.mp (Nat.max_le.mpr ⟨Nat.le_refl _, Nat.le_of_eq ih⟩)
  refine PySem.W.max_list_default (I.ok.hd hc) hl.isList (by simpa using ra) ⟨fun x hx y hy => by
    obtain ⟨i, _, rfl⟩ := List.mem_map.mp hx
    obtain ⟨j, _, rfl⟩ := List.mem_map.mp hy
    rfl, fun x hx => by
    obtain ⟨i, _, rfl⟩ := List.mem_map.mp hx
    exact nofun⟩ (by rw [dep]; omega) (fun e h' tk kp => ?_) (fun y ys i v h' tk bs e hv hr kp => ?_)
  · have e0 : ns = [] := List.map_eq_nil_iff.mp e
    subst e0
    exact ⟨.int d, H, I.kept (t' := tk) kp, ⟨_, rfl⟩, q⟩
  · cases ns with
    | nil => cases e
    | cons n r =>
      cases e
      rw [PySem.W.maxD_ints] at hr
      cases hr
      exact ⟨.int _, H, I.kept (t' := tk) kp, ⟨_, rfl⟩, q⟩
/-- bool(o) -/
theorem bool_in {prog : Program} {w : World} (x : Value) : MeetsIn prog w (Builtin.«bool.__new__» ⟨[.type "bool", x], []⟩) (fun A R s => wpAny (model prog w) A.in1 (truthy x) (fun b s' => R (.ok (.ret (.bool b))) s') (fun e s' => R (.error e) s') s) :=
  .of_wp fun A R s h => by
    have f1 := F.conv_sub_bool
    obtain ⟨hp, g, d, tk, os⟩ := s
    repeat (any_goals (first | assumption | (with_reducible refine wpAny_bind (wpAny_mono h (fun b s' z => ?_) fun _ _ e => e)) | wp_step))
    exact ⟨_, rfl, z⟩
theorem op_eqO (m : Meth X.K C "__eq__" f) (F : FnOk X.prog X.w X.K X.mg X.base CX k f fd ps sp) (hr : Room k X.A) (hb : Binds X.K fd ps []) (hx : Passes CX X E) (hu : X.A.units < cLine) :
    OpR X (compareOp .Eq) (fun x y H Q => ∃ (a : Addr) (t : Value), x = .ref a ∧ InsT H a C ∧ TyX X.K H y t ∧ PySem.W.notFirst X.K C t = true ∧ sp [.ref a, y] H (fun v H' => ∃ b, v = .bl b ∧ Q (.bl b) H') E) := by
  intro pins s σ H x y v u Q I rx ry h
  obtain ⟨a, t, rfl, hi, ty, hn, q⟩ := h
  cases (show v = Value.ref a from rx)
  obtain ⟨ox, od, J⟩ := insT_at I hi
  obtain ⟨m', fr⟩ := I.fr
  obtain ⟨P, Z, p, _⟩ := kit_of I ry ty
  show wpAny _ _ (richCompare .Eq (.ref a) u) _ _ _
  refine PySem.W.cmp_K (op := .Eq) hu fr I.mod.kin J (Z.ty _ _ I.kIn p) hn m.at_ m.fn (wpAny_mono (run_in0 F hr hb hx I (us := [.ref a, u]) (vs := [.ref a, y]) (.cons rfl (.cons ry .nil)) q) (fun w s' z => ?_) fun _ _ z => z)
  obtain ⟨v', H', I', rv, b, rfl, q'⟩ := z
  cases (show w = Value.bool b from rv)
  exact ⟨.bl b, H', I', rfl, q'⟩
/-- bool(x), by the truth of x -/
theorem bool_of {x : Value} {Q : Bool → Hp → Prop} {R : VK} (h : wpAny (model X.prog X.w) X.A.in1.in1 (truthy x) (TP X pins σ Q) X.xe s) (q : ∀ b H', Q b H' → R (.bl b) H') : wpAny (model X.prog X.w) X.A (call (.type "bool") [x]) (EP X pins σ R) X.xe s :=
  callType_newIn F.called_bool F.newNe_bool (F.typeCall_bool_1 x) (F.newCall_bool_1 x) (fun obj => F.args_object_init_2 obj x) F.entry_bool_new (bool_in x) (wpAny_mono h (fun b s' z => by
    obtain ⟨H', I', q'⟩ := z
    exact ⟨PySem.typeIs_bool _ _, .bl b, H', I', rfl, q b H' q'⟩) fun _ _ z => z)
theorem run_in22 {us : List Value} {vs : List V} {Q : VK} (F : FnOk X.prog X.w X.K X.mg X.base CX k f fd ps sp) (hr : Room (k + 2) X.A) (hb : Binds X.K fd ps []) (hx : Passes CX X E) (I : Inv X pins σ H s) (r : Vals vs us) (h : sp vs H Q E) :
    wpAny (model X.prog X.w) X.A.in1.in1 (call (.ref f) us) (EP X pins σ Q) X.xe s := by
  have hl : (us ++ []).length = ps.length := by
    rw [List.append_nil, ← r.length]
    exact F.len _ _ _ _ h
  have hbi := hb s us I.kIn hl
  rw [List.append_nil] at hbi
  refine wpAny_call (codeAny_mono (F.run X.A.in1.in1 X.stack s H ⟨us, []⟩ us vs Q E hr.in1.in1 I.env0.in1.in1 hbi r h) fun res s' z => ?_)
  match res, z with
  | .error e, z => exact hx pins σ H s e s' I z
  | .ok (.ret u), z => exact I.after z
  | .ok .next, z => exact False.elim z
  | .ok .brk, z => exact False.elim z
  | .ok .cont, z => exact False.elim z
/-- bool(o) -/
theorem call_boolO (m : Meth X.K C "__bool__" f) (F : FnOk X.prog X.w X.K X.mg X.base CX k f fd ps sp) (hr : Room (k + 2) X.A) (hb : Binds X.K fd ps []) (hx : Passes CX X E) :
    CallR X (.type "bool") (fun xs H Q => ∃ a, xs = [.ref a] ∧ InsT H a C ∧ sp [.ref a] H (fun v H' => ∃ b, v = .bl b ∧ Q (.bl b) H') E) := by
  intro pins s σ H xs us Q I r h
  obtain ⟨a, rfl, hi, q⟩ := h
  obtain rfl := Vals.ref1 r
  obtain ⟨ox, od, J⟩ := insT_at I hi
  obtain ⟨m', fr⟩ := I.fr
  refine bool_of (Q := fun b H' => Q (.bl b) H') (PySem.W.truthy_K fr I.mod.kin J m.at_ m.fn (wpAny_mono (run_in22 F hr hb hx I r q) (fun u s' z => ?_) fun _ _ z => z)) fun b H' q => q
  obtain ⟨v, H', I', rv, b, rfl, q'⟩ := z
  cases (show u = Value.bool b from rv)
  exact ⟨H', I', q'⟩
/-- bool(t), t a tuple -/
theorem call_boolT : CallR X (.type "bool") (fun xs H Q => ∃ (a : Addr) (zs : List V), xs = [.ref a] ∧ SqT X.K H a zs ∧ Q (.bl (!zs.isEmpty)) H) := by
  intro pins s σ H xs us Q I r h
  obtain ⟨a, zs, rfl, hq, q⟩ := h
  obtain rfl := Vals.ref1 r
  obtain ⟨its, rv, pl, hz⟩ := I.tuple hq
  have hl := line63
  have hlen := rv.length
  exact bool_of (Q := fun b H' => Q (.bl b) H') (truthy_tuple pl (by simp only [List.size_toArray]; omega) ⟨H, I.tok _, by rw [isEmpty_of rv]; exact q⟩) fun b H' q => q
end
end KX

set_option Elab.async false
set_option maxRecDepth 100000
set_option maxHeartbeats 2000000
namespace KX
open PySem PySem.Spec PyProof.Rows L2
theorem call_isEdT {X : Cx} {a D d : Addr} {oe : Obj} {pn : List (Addr × Obj)} {bmB : List Value} {nid : String} (T : ExK X.K D bmB nid) (sp : PySem.W.specialIn X.K (.builtin "object.__class__") "__get__" = some (some (.builtin "getset_descriptor.__get__"))) (tk : PySem.W.takesIn X.K (.builtin "object.__class__") = some true)
    (hz : Zc (.ref D) (some d) oe) (hf : ∃ vs, oe.data = .fields vs) : CallR (X.suite a ((a, oe) :: pn)) (.builtin "isinstance") (fun xs H Q => (∃ fs, H d = some (.xd fs)) ∧ ∃ (tp : Addr) (cs : List V) (us : List Value) (b : Bool), xs = [.ref a, .ref tp] ∧ H tp = some (.tup cs) ∧ Paired ClsV cs us ∧ PySem.W.kitAny X.K (.ref D) us = some b ∧ Q (.bl b) H) := by
  intro pins s σ H xs us Q I r h
  obtain ⟨⟨fs, hd⟩, tp, cs, ws, b, rfl, hT, k, e, q⟩ := h
  obtain ⟨u1, u2, rfl, r1, r2⟩ := vals2 r
  cases (show u2 = Value.ref tp from r2)
  cases (show u1 = Value.ref a from r1)
  obtain ⟨_, its, rv, o, h1, h2, n, h3⟩ := (show ObjOk X.prog X.w H s.heap tp (.tup cs) from I.hok tp _ hT)
  obtain rfl := ClsV.all k rv
  obtain ⟨oc, od2, dt, sl⟩ := o
  simp only at h2 h3
  subst h2 h3
  obtain ⟨hget, _⟩ := I.pin (a, oe) (List.mem_append.mpr (.inl List.mem_cons_self))
  obtain ⟨vs, hv⟩ := hf
  have hx : ObjOk X.prog X.w H s.heap d (.xd fs) := I.hok d _ hd
  obtain ⟨mA, hns, rel⟩ := hx
  obtain ⟨od, ho, _⟩ := lookIn_ns hns
  obtain ⟨cd, hc, _⟩ := PySem.W.any_some T.hd
  have J : PySem.W.InstAt s.heap a oe D (some od) := ⟨hget, hz.1, by unfold PySem.W.notCls; rw [hv] <;> rfl, by rw [hz.2]; exact ho⟩
  exact PySem.W.kia_tup (PySem.W.kitx_exc (od := some od) (by rw [hc] <;> rfl) T.ga T.gg T.exC T.ha sp tk T.hm) I.kIn J h1 e (fun z => nomatch z) fun tk' => ⟨.bl b, H, I.tok tk', rfl, q⟩
theorem pss_only {X : Cx} {st : List Stmt} {p : Prop} {t : TS} (h : p → PSs X st t) : PSs X st (fun D σ H => p ∧ t D σ H) := ⟨fun pins s σ H D I q => (h q.1).run pins s σ H D I q.2⟩
theorem pss_no {X : Cx} {st : List Stmt} : PSs X st (fun _ _ _ => False) := ⟨fun _ _ _ _ _ _ q => q.elim⟩
def excBody : List Stmt → List Stmt
  | .Try _ (.ExceptHandler _ _ b _ :: _) _ _ _ :: _ => b
  | _ => []
/-- a suite told at the place where it is entered -/
def tsAt (X : Cx) (st : List Stmt) (a : Addr) (cls : Value) (d : Option Addr) : TS := fun D σ H => ∃ t, (∀ (oe : Obj) (pn : List (Addr × Obj)), L2N.Zn cls d oe → (∃ vs, oe.data = .fields vs) → PSs (X.suite a ((a, oe) :: pn)) st t) ∧ t D σ H
theorem tsAt_ok {X : Cx} {st : List Stmt} {a : Addr} {cls : Value} {d : Option Addr} {oe : Obj} {pn : List (Addr × Obj)} (hz : L2N.Zn cls d oe) (hf : ∃ vs, oe.data = .fields vs) : PSs (X.suite a ((a, oe) :: pn)) st (tsAt X st a cls d) :=
  ⟨fun pins s σ H D I q => (q.choose_spec.1 oe pn hz hf).run pins s σ H D I q.choose_spec.2⟩
theorem takesN0 {X : Cx} : L2N.Takes X (fun _ _ _ _ => False) := fun _ _ ⟨_, _, _, _, _, _, _, _, _, _, _, _, _, _, _, _, w⟩ => w.elim
end KX

set_option Elab.async false
set_option maxRecDepth 100000
set_option maxHeartbeats 2000000
/-! Defs called in an except suite that look at the exception itself: the promise is made for the pinned object p. -/
namespace KX
open PySem PySem.Spec PyProof.Rows L2 L2H
structure FnP0 (p : Addr × Obj) (P : Program) (w : World) (K : PySem.W.Frag) (mg : Str → Option Value) (base : Heap) (CX : CXT) (k : Nat) (f : Addr) (fd : FuncData) (ps : List Str) (sp : Sp) : Prop where
  len : ∀ vs H Q E, sp vs H Q E → vs.length = ps.length
  run : ∀ (A : Around) (outer : List Env) (s : Shared) (H : Hp) (args : Args) (us : List Value) (vs : List V) (Q : VK) (E : XK), RoomH k A → Hot1 A p → PinOk outer H s p → Env0 P w K mg base A outer s H → BindsTo s fd args (ps.zip us) → Vals vs us → sp vs H Q E →
    codeAny (model P w) A (.call (.ref f) args) (CR CX outer P w H s Q E) s
section
variable {p : Addr × Obj} {P : Program} {w : World} {K : PySem.W.Frag} {mg : Str → Option Value} {base : Heap} {CX : CXT} {k : Nat} {f : Addr} {x qual : Str} {params : Arguments} {body : List Stmt} {scope : Scope} {dvs : List V} {kws : List (Str × V)} {fd : FuncData} {N ps : List Str} {sp : Sp}
theorem fnP0_ok (F : FunD K x qual params body scope dvs kws f fd) (S : FnScope N ps scope) (len : ∀ vs H Q E, sp vs H Q E → vs.length = ps.length)
    (hb : ∀ (cdv : Value) (A : Around) (outer : List Env) (s : Shared) (H : Hp) (vs : List V) (Q : VK) (E : XK), Hot1 A p → RoomH k (A.deeper (envOfC qual scope s.heap.objs.size f cdv)) → sp vs H Q E →
      ∃ t, PSs (cxH CX P w K mg base N qual scope f cdv A outer s H E p) body t ∧ t { nx := fun _ H' => Q .non H', rt := Q } (start N vs) H) : FnP0 p P w K mg base CX (k + 1) f fd ps sp := by
  obtain ⟨oc, od, dV, kV, doc, pm, an, cdv, ct, osl, rfl, lk, hcd, _, _⟩ := F.ex
  refine ⟨len, fun A outer s H args us vs Q E hr hot hpin e0 bd r hsp => ?_⟩
  have hl := len _ _ _ _ hsp
  have KI : K.In s.heap := e0.mod.kin.keeps fun b o e => (e0.bs b o e).1
  have nl : s.heap.NoLimit := e0.mod.nolimit.keeps fun b o e => (e0.bs b o e).1
  have kinds : ∀ y ∈ ps.zip us, scope.names.lookup y.1 = some .local ∨ (scope.names.lookup y.1 = some .cell ∧ ((cellsFrom (s.heap.objs.size + 1) scope.names []).lookup y.1).isSome = true) := by
    rintro ⟨n, v⟩ hy
    exact (S.par n (List.of_mem_zip hy).1).imp id fun q => ⟨q, PySem.W.cellsFrom_some _ _ _ (.inl q)⟩
  refine codeAny_call_function hr.depth (KI _ _ lk) rfl S.co S.gen rfl (PySem.W.codeRec_of KI hcd) (bd _ _ _ _ ?_)
  refine wpAny_newFunctionEnv_cells S.kind kinds fun env he s1 xx => ?_
  subst he
  refine ⟨nl.keeps xx.toInCall.keep, codeAny_func ?_⟩
  obtain ⟨t, ht, hq⟩ := hb cdv A outer s H vs Q E hot (hr.deeper _) hsp
  have I : Inv (cxH CX P w K mg base N qual scope f cdv A outer s H E p) [] (L2.start N vs) H s1 := inv_startH S hpin e0 hl r xx
  refine wpAny_mono (ht.run [] s1 (L2.start N vs) H _ I hq) (fun fl s' hs => ?_) fun e s' hs => hs
  cases fl with
  | ret u =>
    obtain ⟨v, σ', H', J, rv, q⟩ := hs
    exact ⟨v, H', J.os, J.bare, J.base, J.hok, rv, q⟩
  | next =>
    obtain ⟨σ', H', J, q⟩ := hs
    exact ⟨V.non, H', J.os, J.bare, J.base, J.hok, rfl, q⟩
  | brk => exact False.elim hs.choose_spec.choose_spec.2
  | cont => exact False.elim hs.choose_spec.choose_spec.2
end
section
variable {X : Cx} {CX : CXT} {k : Nat} {f : Addr} {fd : FuncData} {ps : List Str} {sp : Sp} {E : L2.St → XK} {x : Str} {q pos : Pos} {e : Expr} {es : List Expr} {t : TA} {p : Addr × Obj}
theorem pe_callP0 (F : FnP0 p X.prog X.w X.K X.mg X.base CX k f fd ps sp) (hr : RoomH k X.A) (hot : Hot1 X.A p) (hp : p ∈ X.pn) (hg : Gl X x) (hm : X.mg x = some (.ref f)) (hk : PySem.W.keepIn X.K (.ref f) = true) (hb : Binds X.K fd ps []) (hx : ∀ σ, PassesAt CX X σ (E σ))
    (ha : PA X (e :: es) t) (hdb : (x == ("__debug__" : Str)) = false := by decide) (he : starEach (e :: es) X.env = (false, eval e X.env) :: starEach es X.env := by rfl) (hpl : (backTo pos (starEach es X.env)).any (·.1) = false := by rfl) :
    PE X (.Call (.Name x q) (e :: es) [] pos) (tCallS sp E t) := by
  refine ⟨fun pins s σ H Q I h => ?_⟩
  refine wpAny_Call_Name_kw (ld_glob I hg hm ?_ hdb)
  refine PySem.W.callWith_K (h₀ := X.base) I.ok.mod.kin hk (thn (ha.run pos pins s σ H _ I h) fun us s1 ⟨vs, H1, I1, r, hsp⟩ => ⟨I1.kIn, ?_⟩) he hpl
  have hl : us.length = ps.length := by rw [← r.length]; exact F.len _ _ _ _ hsp
  have b := hb s1 us I1.kIn (by rw [List.append_nil]; exact hl)
  rw [List.append_nil] at b
  have P1 := I1.pin p (List.mem_append_left _ hp)
  have hpin : PinOk X.stack H1 s1 p := ⟨P1.1, P1.2.1, fun hm => (List.mem_cons.mp (I1.stkSub p.1 hm)).elim P1.2.2.1 P1.2.2.2.1, P1.2.2.2.2⟩
  refine wpAny_call (codeAny_mono (F.run X.A X.stack s1 H1 ⟨us, []⟩ us vs Q (E σ) hr hot hpin I1.env0 b r hsp) fun r s' hq => ?_)
  cases r with
  | error e => exact hx σ pins H1 s1 e s' I1 hq
  | ok fl =>
    cases fl with
    | ret u => exact I1.after hq
    | next => exact False.elim hq
    | brk => exact False.elim hq
    | cont => exact False.elim hq
/-- isinstance of the pinned exception, of a class -/
theorem call_isEdG {a D d : Addr} {oe : Obj} {bmB : List Value} {nid : String} (hp : (a, oe) ∈ X.pn) (T : ExK X.K D bmB nid) (sp : PySem.W.specialIn X.K (.builtin "object.__class__") "__get__" = some (some (.builtin "getset_descriptor.__get__"))) (tk : PySem.W.takesIn X.K (.builtin "object.__class__") = some true)
    (hz : Zc (.ref D) (some d) oe) (hf : ∃ vs, oe.data = .fields vs) : CallR X (.builtin "isinstance") (fun xs H Q => (∃ fs, H d = some (.xd fs)) ∧ rIsE X.K D a xs H Q) := by
  intro pins s σ H xs us Q I r h
  obtain ⟨⟨fs, hd⟩, c, cv, b, rfl, hcv, e, q⟩ := h
  obtain ⟨u1, u2, rfl, rx, rt⟩ := vals2 r
  cases (show u1 = Value.ref a from rx)
  obtain rfl := hcv _ rt
  obtain ⟨hget, _⟩ := I.pin (a, oe) (List.mem_append_left _ hp)
  obtain ⟨vs, hv⟩ := hf
  obtain ⟨mA, hns, rel⟩ := (show ObjOk X.prog X.w H s.heap d (.xd fs) from I.hok d _ hd)
  obtain ⟨od, ho, _⟩ := lookIn_ns hns
  obtain ⟨cd, hc, _⟩ := PySem.W.any_some T.hd
  have J : PySem.W.InstAt s.heap a oe D (some od) := ⟨hget, hz.1, by unfold PySem.W.notCls; rw [hv] <;> rfl, by rw [hz.2]; exact ho⟩
  exact PySem.W.kia_one (PySem.W.kitx_exc (od := some od) (by rw [hc] <;> rfl) T.ga T.gg T.exC T.ha sp tk T.hm) I.kIn J e (fun z => nomatch z) fun tk' => ⟨.bl b, H, I.kept (t' := tk') fun _ _ z => z, rfl, q⟩
end
end KX

set_option Elab.async false
set_option maxRecDepth 100000
set_option maxHeartbeats 2000000
/-! What the written part says of an own exception class that stores: with its answers to isinstance and except. -/
namespace KX
open PySem PySem.Spec PyProof.Rows L2 He StX
structure Er (K : PySem.W.Frag) (c : Str) (bm : List Value) (nid : String) (flds : List Str) (own : List (Str × Bool)) (blt : List (String × Bool)) (exs : List (Str × Bool)) : Prop where
  T : ExK K (ga K c) bm nid
  X : XfC K (ga K c)
  ty : PySem.W.typeIn K (.ref (ga K c)) = some (.type "type")
  no : ∀ f ∈ flds, PySem.W.findIn K (.ref (ga K c)) f = some none
  iC : PySem.W.findIn K (.ref (ga K c)) "__init__" = some (some (.ref (ma K (ga K c) "__init__")))
  fn : PySem.W.isFn K (.ref (ma K (ga K c) "__init__")) = true
  kO : ∀ x ∈ own, PySem.W.kitOne K (.ref (ga K c)) (.ref (ga K x.1)) = some x.2
  kB : ∀ x ∈ blt, PySem.W.kitOne K (.ref (ga K c)) (.type x.1) = some x.2
  ex : ∀ x ∈ exs, PySem.W.exmOne K (.ref (ga K c)) (.ref (ga K x.1)) = some x.2
  sp : PySem.W.specialIn K (.builtin "object.__class__") "__get__" = some (some (.builtin "getset_descriptor.__get__"))
  tk : PySem.W.takesIn K (.builtin "object.__class__") = some true
def erB (K : PySem.W.Frag) (c : Str) (bm : List Value) (nid : String) (flds : List Str) (own : List (Str × Bool)) (blt : List (String × Bool)) (exs : List (Str × Bool)) : Bool :=
  let C := ga K c
  exkB K C bm nid && (xfB K C && (decide (PySem.W.typeIn K (.ref C) = some (.type "type")) && ((flds.all fun f => eqO (PySem.W.findIn K (.ref C) f) (some none)) && (eqO (PySem.W.findIn K (.ref C) "__init__") (some (some (.ref (ma K C "__init__")))) && (PySem.W.isFn K (.ref (ma K C "__init__"))
  && ((own.all fun x => decide (PySem.W.kitOne K (.ref C) (.ref (ga K x.1)) = some x.2)) && ((blt.all fun x => decide (PySem.W.kitOne K (.ref C) (.type x.1) = some x.2)) && ((exs.all fun x => decide (PySem.W.exmOne K (.ref C) (.ref (ga K x.1)) = some x.2))
  && (eqO (PySem.W.specialIn K (.builtin "object.__class__") "__get__") (some (some (.builtin "getset_descriptor.__get__"))) && decide (PySem.W.takesIn K (.builtin "object.__class__") = some true))))))))))
theorem er_of {K : PySem.W.Frag} {c : Str} {bm : List Value} {nid : String} {flds : List Str} {own : List (Str × Bool)} {blt : List (String × Bool)} {exs : List (Str × Bool)} (h : erB K c bm nid flds own blt exs = true) : Er K c bm nid flds own blt exs := by
  unfold erB at h
  obtain ⟨h1, h⟩ := Bool.and_eq_true_iff.mp h
  obtain ⟨h2, h⟩ := Bool.and_eq_true_iff.mp h
  obtain ⟨h3, h⟩ := Bool.and_eq_true_iff.mp h
  obtain ⟨h4, h⟩ := Bool.and_eq_true_iff.mp h
  obtain ⟨h5, h⟩ := Bool.and_eq_true_iff.mp h
  obtain ⟨h6, h⟩ := Bool.and_eq_true_iff.mp h
  obtain ⟨h7, h⟩ := Bool.and_eq_true_iff.mp h
  obtain ⟨h8, h⟩ := Bool.and_eq_true_iff.mp h
  obtain ⟨h9, h⟩ := Bool.and_eq_true_iff.mp h
  obtain ⟨h10, h11⟩ := Bool.and_eq_true_iff.mp h
  exact ⟨exkB_ok h1, xfB_ok h2, of_decide_eq_true h3, fun f hf => eqO_ok (List.all_eq_true.mp h4 f hf), eqO_ok h5, h6, fun x hx => of_decide_eq_true (List.all_eq_true.mp h7 x hx), fun x hx => of_decide_eq_true (List.all_eq_true.mp h8 x hx),
    fun x hx => of_decide_eq_true (List.all_eq_true.mp h9 x hx), eqO_ok h10, of_decide_eq_true h11⟩
end KX

set_option Elab.async false
set_option maxRecDepth 100000
set_option maxHeartbeats 0
namespace K86
open PySem PySem.Spec PyProof.Rows L2 He KX
def top (i : Nat) : Stmt := PySem.Challenge.pw_rowsinplace_k86_boards_refused.main.body.getD i (.Pass ⟨0, 0, 0, 0⟩)
def frees : List Str := ["isinstance", "int", "bool", "str", "len", "all", "tuple", "list", "enumerate", "sum", "abs", "range", "max", "min", "sorted", "dict", "repr", "ValueError", "LookupError"]
def vT : List Value := [.type "ValueError", .type "Exception", .type "BaseException", .type "object"]
def lT : List Value := [.type "LookupError", .type "Exception", .type "BaseException", .type "object"]
def gls : List Str := (["is_integer", "is_name", "PlaceError", "MissingError", "NoRow", "NoPlace", "BadName", "BadPlace", "Board", "_law_bag", "_law_draw", "_law_of", "_law_name", "_law_names", "_law_rows", "_law_same"] : List Str) ++ (["_law_odd", "_law_is_name", "_law_class", "_law_written", "_law_got", "_law_asked", "_law_refusal", "law"] : List Str)
abbrev kits (a b c d e f : Bool) : List (Str × Bool) := [("PlaceError", a), ("MissingError", b), ("BadName", c), ("BadPlace", d), ("NoRow", e), ("NoPlace", f)]
abbrev kitb (a b : Bool) : List (String × Bool) := [("ValueError", a), ("LookupError", b)]
abbrev ErBN (K : PySem.W.Frag) : Prop := Er K "BadName" vT "ValueError.__new__" ["name"] (kits true false true false false false) (kitb true false) [("BadName", true), ("BadPlace", false)]
abbrev ErBP (K : PySem.W.Frag) : Prop := Er K "BadPlace" vT "ValueError.__new__" ["place"] (kits true false false true false false) (kitb true false) [("BadName", false), ("BadPlace", true)]
abbrev ErNR (K : PySem.W.Frag) : Prop := Er K "NoRow" lT "LookupError.__new__" ["row"] (kits false true false false true false) (kitb false true) [("NoRow", true)]
abbrev ErNP (K : PySem.W.Frag) : Prop := Er K "NoPlace" lT "LookupError.__new__" ["lst", "place"] (kits false true false false false true) (kitb false true) [("NoPlace", true)]
def errB (K : PySem.W.Frag) : Bool := erB K "BadName" vT "ValueError.__new__" ["name"] (kits true false true false false false) (kitb true false) [("BadName", true), ("BadPlace", false)]
  && (erB K "BadPlace" vT "ValueError.__new__" ["place"] (kits true false false true false false) (kitb true false) [("BadName", false), ("BadPlace", true)]
  && (erB K "NoRow" lT "LookupError.__new__" ["row"] (kits false true false false true false) (kitb false true) [("NoRow", true)]
  && erB K "NoPlace" lT "LookupError.__new__" ["lst", "place"] (kits false true false false false true) (kitb false true) [("NoPlace", true)]))
def meths : List Str := ["__setitem__", "__getitem__", "__contains__", "__len__", "at", "drop", "rows_of", "places_of", "list_names", "_pairs"]
def brdB (K : PySem.W.Frag) : Bool :=
  let C := ga K "Board"
  (Fa.mkr "Board").ok K && ((Fa.cls "Board").ok K && ((Fa.noat "Board" "_spots").ok K && ((meths.all fun m => (Fa.meth "Board" m).ok K) && PySem.W.noSeq K C)))
def chk (K : PySem.W.Frag) : Bool := errB K && (brdB K && ((frees.all fun x => (Fa.free x).ok K) && (gls.all fun x => (Fa.glo x).ok K)))
def methD (i j : Nat) (c m : Str) : DefD := ⟨(c, some m), m, c ++ "." ++ m, defArgs (inClass (top i) j), defBody (inClass (top i) j), defScope (inClass (top i) j), [], []⟩
def initD (i : Nat) (c : Str) : DefD := ⟨(c, some "__init__"), "__init__", c ++ ".__init__", defArgs (inClass (top i) 0), defBody (inClass (top i) 0), defScope (inClass (top i) 0), [], []⟩
def fnD (i : Nat) (x : Str) : DefD := ⟨(x, none), x, x, defArgs (top i), defBody (top i), defScope (top i), [], []⟩
def fn : List DefD := [fnD 2 "is_integer", fnD 3 "is_name", initD 7 "NoRow", initD 8 "NoPlace", initD 9 "BadName", initD 10 "BadPlace", initD 13 "Board", fnD 15 "_law_bag", fnD 16 "_law_draw", fnD 17 "_law_of", fnD 18 "_law_name", fnD 19 "_law_names", fnD 20 "_law_rows", fnD 21 "_law_same", fnD 22 "_law_odd", fnD 23 "_law_is_name", fnD 24 "_law_class", fnD 25 "_law_written", fnD 26 "_law_got", fnD 27 "_law_asked", fnD 28 "_law_refusal", fnD 29 "law",
  methD 13 2 "Board" "__setitem__", methD 13 3 "Board" "__getitem__", methD 13 4 "Board" "__contains__", methD 13 5 "Board" "__len__", methD 13 7 "Board" "at", methD 13 8 "Board" "drop", methD 13 9 "Board" "rows_of", methD 13 10 "Board" "places_of", methD 13 11 "Board" "list_names", methD 13 18 "Board" "_pairs"]
abbrev R : PySem.W.OpenRow := PySem.W.OpenLaw.row PySem.Challenge.rw_rowsinplace_k86_boards_refused
abbrev hk : PySem.W.Hook := hookX 4 chk fn
def ob (s : PySem.W.SharedT) : Bool × List FnW := lookX 4 chk fn (HandSHeadRun.getT s)
theorem ob_eq (s : PySem.W.SharedT) : ob s = hk.obs s.abs := lookX_eq (HandSHeadRun.getT_eq s)
def loose : List Str := (["_wall", "is_integer", "is_name", "PlaceError", "MissingError", "NoRow", "NoPlace", "BadName", "BadPlace", "Twice", "Board", "_law_bag", "_law_draw", "_law_of", "_law_name", "_law_names", "_law_rows", "_law_same", "_law_odd", "_law_is_name", "_law_class", "_law_written", "_law_got", "_law_asked", "_law_refusal"] : List Str)
theorem run (w : World) : HandSHeadRun.RunEq R (PySem.W.view R.prog [29]) hk ob 20000 loose w := by
  intro os
  kernel_rfl
end K86

set_option Elab.async false
set_option maxRecDepth 100000
set_option maxHeartbeats 2000000
namespace K86
open PySem PySem.Spec PyProof.Rows L2 KX
abbrev sBag : Stmt := top 15
abbrev sDraw : Stmt := top 16
abbrev sOf : Stmt := top 17



abbrev sLaw : Stmt := top 29
abbrev FnP (K : PySem.W.Frag) (x : Str) (st : Stmt) (f : Addr) (fd : FuncData) : Prop := FunD K x x (defArgs st) (defBody st) (defScope st) [] [] f fd
section
variable {P : Program} {w : World} {K : PySem.W.Frag} {mg : Str → Option Value} {base : Heap}
theorem scBag : FnScope ["script", "at", "cell", "digits"] ["script", "at"] (defScope sBag) := ⟨rfl, rfl, rfl, by decide +kernel, rfl, by decide +kernel, by decide +kernel⟩
theorem ok_bag {f : Addr} {fd : FuncData} (F : FnP K "_law_bag" sBag f fd) (gLen : mg "len" = none) (gAbs : mg "abs" = none) (gInt : mg "int" = none) : FnOk P w K mg base CX0 1 f fd ["script", "at"] (spBag K) := by
  refine F.ok scBag (fun vs H Q E h => ?_) (fun cdv A outer s H vs Q E hr h => ?_)
  · obtain ⟨a, ns, i, rfl, _⟩ := h
    rfl
  · obtain ⟨a, ns, i, rfl, hS, hl, hi, k⟩ := h
    refine ⟨_, PSs.nox (pss_cons (ps_set (i := 2) scBag.nd rfl (Or.inl rfl) (pe_ifExp (pt_cmpR op_lt (pv 1) (pe_callB call_len_seq (by rfl) gLen PySem.boot_len (pa_cons (pv 0) pa_nil)) (nomark _)) (pe_ix ix_list (pv 0) (pv 1) (fun _ _ => rfl)) pe_int))
      (pss_cons (ps_set (i := 3) scBag.nd rfl (Or.inl rfl) (pe_ifExp (pt_cmpR op_ge (pe_callB call_abs (by rfl) gAbs (by decide +kernel) (pa_cons (pv 2) pa_nil)) (pe_op op_pow pe_int pe_int) (nomark _)) (pe_callB call_abs (by rfl) gAbs (by decide +kernel) (pa_cons (pv 2) pa_nil)) pe_int))
      (pss_one (ps_ret (pe_lst (pa_cons (pv 3) (pa_cons (pe_op op_add (pe_op op_add (pe_op op_modN (pe_callTy call_int1 (by rfl) gInt (by decide +kernel) (pa_cons (pv 2) pa_nil)) pe_int) (pe_op op_mul pe_int (pv 1))) pe_int) (pa_cons pe_int pa_nil)))))))), ?_⟩
    have fin : ∀ (d z : Int), 0 ≤ d → ∀ (p : Addr), H p = none → Q (.ref p) (upd H p (.lst [.int d, .int (z.fmod 1152921504606846883 + 7001 * (i : Int) + 17), .int 0])) := by
      intro d z hd p hp
      obtain ⟨h1, h2⟩ := fmod_in (x := z) (y := 1152921504606846883) (by decide)
      exact k p _ hp (Kept.new hp) (fun x n => upd_ne n) ⟨d, _, 0, upd_same, hd, by omega, by omega, by decide, by decide⟩
    refine ⟨_, rfl, _, rfl, _, _, rfl, .inl hS, _, _, rfl, rfl, _, rfl, ?_⟩
    refine ite2 (fun c => ?_) (fun c => ?_)
    · have ci : i < ns.length := by
        have c' : (i : Int) < ((ns.map V.int).length : Int) := of_decide_eq_true c
        rw [List.length_map] at c'
        omega
      have hx : (ns.map V.int)[i]? = some (.int ns[i]) := by
        rw [List.getElem?_map, List.getElem?_eq_getElem ci]
        rfl
      refine ⟨_, rfl, _, rfl, _, _, _, _, rfl, rfl, hS, atI_nat hx, ?_⟩
      refine ⟨_, rfl, _, rfl, _, _, rfl, rfl, ⟨by decide, by decide, by decide⟩, _, _, rfl, rfl, _, rfl, ?_⟩
      refine ite2 (fun c2 => ?_) (fun c2 => ?_)
      · refine ⟨_, rfl, _, rfl, _, rfl, _, rfl, .inl ⟨_, rfl, _, _, rfl, rfl, (by show (1152921504606846883 : Int) ≠ 0; decide), _, rfl, _, _, rfl, rfl, .inl ⟨by decide, by decide⟩, _, _, rfl, rfl, _, _, rfl, rfl, ?_⟩⟩
        exact ⟨(by show 3 ≤ sizeLine; decide), fun p hp => fin _ _ (by split <;> omega) p hp⟩
      · refine ⟨_, rfl, _, rfl, .inl ⟨_, rfl, _, _, rfl, rfl, (by show (1152921504606846883 : Int) ≠ 0; decide), _, rfl, _, _, rfl, rfl, .inl ⟨by decide, by decide⟩, _, _, rfl, rfl, _, _, rfl, rfl, ?_⟩⟩
        exact ⟨(by show 3 ≤ sizeLine; decide), fun p hp => fin _ _ (by decide) p hp⟩
    · refine ⟨_, rfl, _, rfl, _, _, rfl, rfl, ⟨by decide, by decide, by decide⟩, _, _, rfl, rfl, _, rfl, ?_⟩
      refine ite2 (fun c2 => ?_) (fun c2 => ?_)
      · refine ⟨_, rfl, _, rfl, _, rfl, _, rfl, .inl ⟨_, rfl, _, _, rfl, rfl, (by show (1152921504606846883 : Int) ≠ 0; decide), _, rfl, _, _, rfl, rfl, .inl ⟨by decide, by decide⟩, _, _, rfl, rfl, _, _, rfl, rfl, ?_⟩⟩
        exact ⟨(by show 3 ≤ sizeLine; decide), fun p hp => fin _ _ (by split <;> omega) p hp⟩
      · refine ⟨_, rfl, _, rfl, .inl ⟨_, rfl, _, _, rfl, rfl, (by show (1152921504606846883 : Int) ≠ 0; decide), _, rfl, _, _, rfl, rfl, .inl ⟨by decide, by decide⟩, _, _, rfl, rfl, _, _, rfl, rfl, ?_⟩⟩
        exact ⟨(by show 3 ≤ sizeLine; decide), fun p hp => fin _ _ (by decide) p hp⟩
/-- if bag[0] > 0: a digit; else the next mixed number -/
theorem scDraw : FnScope ["bag", "many", "digit", "mixed"] ["bag", "many"] (defScope sDraw) := ⟨rfl, rfl, rfl, by decide +kernel, rfl, by decide +kernel, by decide +kernel⟩
theorem ok_draw {f : Addr} {fd : FuncData} (F : FnP K "_law_draw" sDraw f fd) (gInt : mg "int" = none) : FnOk P w K mg base CX0 1 f fd ["bag", "many"] spDraw := by
  refine F.ok scDraw (fun vs H Q E h => ?_) (fun cdv A outer s H vs Q E hr h => ?_)
  · obtain ⟨b, n, many, rfl, _⟩ := h
    rfl
  · obtain ⟨b, n, many, rfl, ⟨d, m, c, hb, hd, hm0, hm, hc0, hc⟩, hn, hp, hw, k⟩ := h
    refine ⟨_, PSs.nox (pss_cons (ps_if (pt_cmpR op_gt (pe_ix ix_list (pv 0) pe_int (fun _ _ => rfl)) pe_int (nomark _))
        (pss_cons (ps_set (i := 2) scDraw.nd rfl (Or.inl rfl) (pe_op op_modN (pe_callTy call_int1 (by rfl) gInt (by decide +kernel) (pa_cons (pe_ix ix_list (pv 0) pe_int (fun _ _ => rfl)) pa_nil)) (pv 1)))
        (pss_cons (ps_asg (pe_op op_fdivW (pe_ix ix_list (pv 0) pe_int (fun _ _ => rfl)) (pv 1)) (pg_sub (pv 0) pe_int set_list))
        (pss_one (ps_ret (pv 2)))))
        pss_nil)
      (pss_cons (ps_asg (pe_op op_add (pe_ix ix_list (pv 0) pe_int (fun _ _ => rfl)) pe_int) (pg_sub (pv 0) pe_int set_list))
      (pss_cons (ps_set (i := 3) scDraw.nd rfl (Or.inl rfl) (pe_op op_add (pe_op op_pow (pe_op op_add (pe_ix ix_list (pv 0) pe_int (fun _ _ => rfl)) (pe_op op_mul pe_int (pe_ix ix_list (pv 0) pe_int (fun _ _ => rfl)))) pe_int) (pe_op op_mul pe_int (pe_ix ix_list (pv 0) pe_int (fun _ _ => rfl)))))
      (pss_cons (ps_set (i := 3) scDraw.nd rfl (Or.inl rfl) (pe_op op_modN (pe_callTy call_int1 (by rfl) gInt (by decide +kernel) (pa_cons (pv 3) pa_nil)) pe_int))
      (pss_cons (ps_set (i := 3) scDraw.nd rfl (Or.inl rfl) (pe_op op_modN (pe_callTy call_int1 (by rfl) gInt (by decide +kernel) (pa_cons (pe_op op_pow (pe_op op_add (pv 3) (pe_op op_mul pe_int (pe_ix ix_list (pv 0) pe_int (fun _ _ => rfl)))) pe_int) pa_nil)) pe_int))
      (pss_one (ps_ret (pe_op op_modN (pe_callTy call_int1 (by rfl) gInt (by decide +kernel) (pa_cons (pe_op op_fdivN (pv 3) pe_int) pa_nil)) (pv 1))))))))), ?_⟩
    refine ⟨_, rfl, _, _, _, _, rfl, rfl, SqL.of hb, rfl, _, _, rfl, rfl, _, rfl, ?_⟩
    refine ite2 (fun c0 => ?_) (fun c0 => ?_)
    · obtain ⟨f1, f2⟩ := fmod_in (x := d) hp
      refine ⟨_, rfl, _, _, _, _, rfl, rfl, SqL.of hb, rfl, .inl ⟨_, rfl, _, rfl, _, _, rfl, rfl, (by show many ≠ 0; omega), ?_⟩⟩
      refine ⟨_, rfl, _, _, _, _, rfl, rfl, SqL.of hb, rfl, _, rfl, _, _, rfl, rfl, wide_div hp hw (by decide) (by decide), _, rfl, b, _, 0, _, rfl, rfl, hb, rfl, _, rfl, ?_⟩
      refine k _ _ f1 f2 (fun x nx => upd_ne nx) ⟨d / many, m, c, upd_same, Int.ediv_nonneg hd (by omega), hm0, hm, hc0, by omega⟩
    · refine ⟨_, rfl, _, _, _, _, rfl, rfl, SqL.of hb, rfl, _, _, rfl, rfl, _, rfl, b, _, 2, _, rfl, rfl, hb, rfl, ?_⟩
      have hb2 : upd H b (.lst [.int d, .int m, .int (c + 1)]) b = some (.lst [.int d, .int m, .int (c + 1)]) := upd_same
      refine ⟨_, rfl, _, _, _, _, rfl, rfl, SqL.of hb2, rfl, _, rfl, _, _, _, _, rfl, rfl, SqL.of hb2, rfl, _, _, rfl, rfl, .inl ⟨by decide, by decide⟩, _, _, rfl, rfl, _, _, rfl, rfl, draw_pow hm0 hm hc0 (by omega), ?_⟩
      refine ⟨_, rfl, _, _, _, _, rfl, rfl, SqL.of hb2, rfl, _, _, rfl, rfl, .inl ⟨by decide, by decide⟩, _, _, rfl, rfl, ?_⟩
      refine ⟨_, rfl, .inl ⟨_, rfl, _, _, rfl, rfl, (by show (1152921504606846869 : Int) ≠ 0; decide), ?_⟩⟩
      refine ⟨_, rfl, _, rfl, _, _, _, _, rfl, rfl, SqL.of hb2, rfl, _, _, rfl, rfl, .inl ⟨by decide, by decide⟩, _, _, rfl, rfl, _, _, rfl, rfl, draw_pow3 (fmod_in (by decide)).1 (fmod_in (by decide)).2 hc0 (by omega), .inl ⟨_, rfl, _, _, rfl, rfl, (by show (2305843009213693951 : Int) ≠ 0; decide), ?_⟩⟩
      refine ⟨_, rfl, _, _, rfl, rfl, ⟨by decide, by decide⟩, .inl ⟨_, rfl, _, rfl, _, _, rfl, rfl, (by show many ≠ 0; omega), ?_⟩⟩
      exact k _ _ (fmod_in hp).1 (fmod_in hp).2 (fun x nx => upd_ne nx) ⟨d, m, c + 1, upd_same, hd, hm0, hm, by omega, by omega⟩
theorem scOf : FnScope ["bag", "some"] ["bag", "some"] (defScope sOf) := ⟨rfl, rfl, rfl, by decide +kernel, rfl, by decide +kernel, by decide +kernel⟩
theorem ok_of {f fD : Addr} {fd fdD : FuncData} (F : FnP K "_law_of" sOf f fd) (FD : FnP K "_law_draw" sDraw fD fdD) (gD : mg "_law_draw" = some (.ref fD)) (gLen : mg "len" = none) (gInt : mg "int" = none) : FnOk P w K mg base CX0 2 f fd ["bag", "some"] (spOf K) := by
  have GD : FnOk P w K mg base CX0 1 fD fdD ["bag", "many"] spDraw := ok_draw FD gInt
  have bD : Binds K fdD ["bag", "many"] [] := FD.bindsN fun _ _ _ _ _ _ us hl => match us, hl with | [_, _], _ => rfl
  refine F.ok scOf (fun vs H Q E h => ?_) (fun cdv A outer s H vs Q E hr h => ?_)
  · obtain ⟨b, l, n, xs, rfl, _⟩ := h
    rfl
  · obtain ⟨b, l, n, xs, rfl, hB, hn, nlb, hS, h0, h1, k⟩ := h
    refine ⟨_, PSs.nox (pss_one (ps_ret (pe_ix ix_list (pv 1) (pe_call GD hr rfl gD FD.kp bD .nil pass0 (pa_cons (pv 0) (pa_cons (pe_callB call_len_seq (by rfl) gLen PySem.boot_len (pa_cons (pv 1) pa_nil)) pa_nil))) (fun _ _ => rfl)))), ?_⟩
    refine ⟨_, rfl, _, rfl, _, rfl, _, _, rfl, .inl hS, b, n, _, rfl, hB, hn, by omega, ?_, fun r H' r0 r1 hk hB' => ?_⟩
    · have e : ((xs.length : Nat) : Int).natAbs = xs.length := by simp
      rw [e]
      exact Nat.lt_of_le_of_lt h1 (by decide)
    · obtain ⟨i, rfl⟩ : ∃ i : Nat, r = i := ⟨r.toNat, by omega⟩
      have hi : i < xs.length := by omega
      have hx : xs[i]? = some xs[i] := List.getElem?_eq_getElem hi
      exact ⟨_, _, _, _, rfl, rfl, hk.kept.seq nlb hS, atI_nat hx, k i _ H' hx hk hB'⟩
end
end K86

set_option Elab.async false
set_option maxRecDepth 100000
set_option maxHeartbeats 2000000
namespace K86
open PySem PySem.Spec PyProof.Rows L2 KX
abbrev sInt : Stmt := top 2
abbrev sName : Stmt := top 3
abbrev sOpp : Stmt := top 9999 /- opposite -/
abbrev sBound : Stmt := top 9999 /- is_bound -/
abbrev sRing : Stmt := top 9999 /- is_ring -/
section
variable {P : Program} {w : World} {K : PySem.W.Frag} {mg : Str → Option Value} {base : Heap}
theorem scInt : FnScope ["thing"] ["thing"] (defScope sInt) := ⟨rfl, rfl, rfl, by decide +kernel, rfl, by decide +kernel, by decide +kernel⟩
theorem ok_int {f : Addr} {fd : FuncData} (F : FnP K "is_integer" sInt f fd) (gI : mg "isinstance" = none) (gInt : mg "int" = none) (gB : mg "bool" = none) : FnOk P w K mg base CX0 1 f fd ["thing"] (spInt K) := by
  refine F.ok scInt (fun vs H Q E h => ?_) (fun cdv A outer s H vs Q E hr h => ?_)
  · obtain ⟨x, t, rfl, _⟩ := h
    rfl
  · obtain ⟨x, d, rfl, hk, k⟩ := h
    refine ⟨_, PSs.nox (pss_one (ps_ret (pe_and (pe_callB call_isi (by rfl) gI (by decide +kernel) (pa_cons (pv 0) (pa_cons (pe_bltn (v := .ty "int") (by rfl) gInt (by decide +kernel) rfl) pa_nil)))
      (pe_one (pe_not (pe_callB call_isi (by rfl) gI (by decide +kernel) (pa_cons (pv 0) (pa_cons (pe_bltn (v := .ty "bool") (by rfl) gB (by decide +kernel) rfl) pa_nil)))))))), ?_⟩
    refine ⟨_, rfl, _, _, _, _, _, rfl, .ty _, dp_ty hk, kit_int d, _, rfl, ite2' (fun c => ?_) (fun c => ?_)⟩
    · refine ⟨_, rfl, _, _, _, _, _, rfl, .ty _, dp_ty hk, kit_bool d, _, rfl, ?_⟩
      cases d <;> first | exact k | exact absurd c Bool.false_ne_true
    · have e : isIntD d = false := by cases d <;> first | rfl | exact absurd c.symm Bool.false_ne_true
      rw [← e]
      exact k
theorem scName : FnScope ["thing", "letter"] ["thing"] (defScope sName) := ⟨rfl, rfl, rfl, by decide +kernel, rfl, by decide +kernel, by decide +kernel⟩
theorem ok_name {f : Addr} {fd : FuncData} (F : FnP K "is_name" sName f fd) (gI : mg "isinstance" = none) (gS : mg "str" = none) (gL : mg "len" = none) (gA : mg "all" = none) : FnOk P w K mg base CX0 1 f fd ["thing"] (spName K) := by
  refine F.ok scName (fun vs H Q E h => ?_) (fun cdv A outer s H vs Q E hr h => ?_)
  · obtain ⟨x, t, rfl, _⟩ := h
    rfl
  · obtain ⟨x, d, rfl, hk, ho, k⟩ := h
    have nd := scName.nd
    refine ⟨_, PSs.nox (pss_cons (ps_if (PW.pt (pw_or (pt_not (pt_val (pe_callB call_isi (by rfl) gI (by decide +kernel) (pa_cons (pv 0) (pa_cons (pe_bltn (v := .ty "str") (by rfl) gS (by decide +kernel) rfl) pa_nil)))))
        (pw_or (pt_cmpR op_lt (pe_callB call_len_str (by rfl) gL PySem.boot_len (pa_cons (pv 0) pa_nil)) pe_int (nomark _)) (pw_or1 (pt_cmpR op_gt (pe_callB call_len_str (by rfl) gL PySem.boot_len (pa_cons (pv 0) pa_nil)) pe_int (nomark _)))))) (pss_one (ps_ret pe_bl)) pss_nil)
      (pss_one (ps_ret (pe_callB (cr_all rfl) (by rfl) gA (by decide +kernel) (pa_cons (pe_lc (own := [("letter", 1)]) (g := gName 1) (tt := tYes) rfl nd (pi_str (pv 0)) (blkOk_by (own := [("letter", 1)]) (N := ["thing", "letter"]) (sc := defScope sName) (by decide +kernel))
        (fun _ _ _ _ _ => pg_name (i := 1) nd rfl (Or.inl rfl)) (fun _ _ _ _ _ => pts_nil) (fun _ _ _ _ _ => pe_chain op_le_str op_le_str pe_str (pv 1) pe_str)) pa_nil))))), ?_⟩
    refine ⟨_, rfl, _, _, _, _, _, rfl, .ty _, dp_ty hk, kit_str d, _, rfl, ?_⟩
    by_cases hs : isStrD d = true
    · obtain ⟨z, rfl⟩ : ∃ z, d = .str z := by cases d <;> first | exact ⟨_, rfl⟩ | cases hs
      have hz := ho z rfl
      cases hk with
      | str =>
        have hzl : z.length ≤ sizeLine := by rw [sizeLine_eq]; omega
        refine ⟨_, rfl, _, rfl, hzl, _, _, rfl, rfl, _, rfl, ite2' (fun c1 => ?_) (fun c1 => ?_)⟩
        · have e := nm_short (z := z) (by have := of_decide_eq_true c1; omega)
          have q := k H (Same.refl H)
          rw [show nmD (.str z) = isNm z from rfl, e] at q
          exact q
        · have n1 : ¬ z.length < 1 := by have := of_decide_eq_false c1; omega
          refine ⟨_, rfl, _, rfl, hzl, _, _, rfl, rfl, _, rfl, ite2' (fun c2 => ?_) (fun c2 => ?_)⟩
          · have e := nm_long (z := z) (by have := of_decide_eq_true c2; omega)
            have q := k H (Same.refl H)
            rw [show nmD (.str z) = isNm z from rfl, e] at q
            exact q
          · have n2 : ¬ z.length > 8 := by have := of_decide_eq_false c2; omega
            refine ⟨_, rfl, z, rfl, fun D nD => ?_⟩
            refine lc_it (walk_str (z := z)) (fun i G => G D = some (.lst (((z.cps.toList.take i).map isLet).map V.bl)) ∧ Same H G) ⟨upd_same, same_put nD⟩ (fun _ _ _ _ => trivial) ?_ ?_
            · rintro i x G' G hi ⟨hD, s1⟩ ⟨rfl, c, hc, rfl⟩
              refine ⟨rfl, ?_⟩
              dsimp only [tYes]
              rw [if_pos rfl]
              have hcl : z.cps.toList[i]? = some c := by rw [Array.getElem?_toList]; exact hc
              have fin : ∃ acc, G D = some (.lst acc) ∧ acc.length < sizeLine ∧ ((upd G D (.lst (acc ++ [V.bl (isLet c)]))) D = some (.lst (((z.cps.toList.take (i + 1)).map isLet).map V.bl)) ∧ Same H (upd G D (.lst (acc ++ [V.bl (isLet c)])))) := by
                refine ⟨_, hD, ?_, ?_, fun y o e => ?_⟩
                · rw [List.length_map, List.length_map, List.length_take, sizeLine_eq]
                  have e1 : z.cps.toList.length ≤ 1000 := by rw [Array.length_toList]; exact hz
                  exact Nat.lt_of_le_of_lt (Nat.min_le_right _ _) (by omega)
                · rw [upd_same, take_at hcl, List.map_append, List.map_append]
                  rfl
                · rw [upd_ne (ne_of_none e nD)]
                  exact s1 _ _ e
              refine ⟨_, rfl, _, _, rfl, rfl, _, rfl, ?_⟩
              rw [lo_let]
              refine ite2' (fun c3 => ?_) (fun c3 => ?_)
              · refine ⟨_, _, rfl, rfl, ?_⟩
                rw [hi_let]
                have e : decide (c ≤ 122) = isLet c := by
                  unfold isLet
                  rw [c3]
                  rfl
                rw [e]
                exact fin
              · have e : isLet c = false := by
                  unfold isLet
                  rw [c3]
                  rfl
                rw [e] at fin
                exact fin
            · rintro G ⟨hD, s1⟩
              have hsz : z.cps.toList.take z.cps.size = z.cps.toList := by rw [← Array.length_toList, List.take_length]
              rw [hsz] at hD
              refine ⟨D, z.cps.toList.map isLet, rfl, SqL.of hD, ?_⟩
              have q := k G s1
              rw [show nmD (.str z) = isNm z from rfl, nm_mid n1 n2] at q
              have e : (z.cps.toList.map isLet).all id = z.cps.toList.all isLet := by rw [List.all_map]; rfl
              rw [e]
              exact q
    · have e : isStrD d = false := Bool.eq_false_iff.mpr hs
      rw [e]
      have q := k H (Same.refl H)
      rw [nm_off e] at q
      exact q
end
end K86

set_option Elab.async false
set_option maxRecDepth 100000
set_option maxHeartbeats 2000000
/-! Drawn names: what is promised of them, and their texts. -/
namespace KX
open PySem PySem.Spec PyProof.Rows L2
abbrev tlc (z : Str) : List Nat := z.cps.toList
theorem tlc_len (z : Str) : (tlc z).length = z.length := Array.length_toList
theorem tlc_app (x y : Str) : tlc (x ++ y) = tlc x ++ tlc y := Array.toList_append
theorem nm_inv {z : Str} (h : isNm z = true) : 1 ≤ z.length ∧ z.length ≤ 8 ∧ ∀ c ∈ tlc z, isLet c = true := by
  unfold isNm at h
  obtain ⟨h, h3⟩ := Bool.and_eq_true_iff.mp h
  obtain ⟨h1, h2⟩ := Bool.and_eq_true_iff.mp h
  exact ⟨of_decide_eq_true h1, of_decide_eq_true h2, List.all_eq_true.mp h3⟩
theorem nm_of {z : Str} (h1 : 1 ≤ z.length) (h2 : z.length ≤ 8) (h3 : ∀ c ∈ tlc z, isLet c = true) : isNm z = true := by
  unfold isNm
  rw [decide_eq_true h1, decide_eq_true h2, List.all_eq_true.mpr h3]
  rfl
theorem join0 : ∀ zs : List Nat, tlc (Str.join ⟨#[]⟩ (zs.map fun c => (⟨#[c]⟩ : Str))) = zs
  | [] => rfl
  | [c] => rfl
  | c :: d :: r => by
    have ih := join0 (d :: r)
    show tlc ((⟨#[c]⟩ : Str) ++ ⟨#[]⟩ ++ Str.join ⟨#[]⟩ ((d :: r).map fun c => (⟨#[c]⟩ : Str))) = _
    rw [tlc_app, tlc_app, ih]
    rfl
theorem letters_at : ∀ {j : Nat}, j < 26 → (("abcdefghijklmnopqrstuvwxyz" : Str)).cps.toList[j]? = some (97 + j) := by
  intro j h
  rw [letters_eq]
  have z : ∀ k : Fin 26, ([97, 98, 99, 100, 101, 102, 103, 104, 105, 106, 107, 108, 109, 110, 111, 112, 113, 114, 115, 116, 117, 118, 119, 120, 121, 122] : List Nat)[k.val]? = some (97 + k.val) := by decide
  exact z ⟨j, h⟩
theorem let_at {j : Nat} (h : j < 26) : isLet (97 + j) = true := by
  unfold isLet
  rw [decide_eq_true (by omega), decide_eq_true (by omega)]
  rfl
theorem inV_str (z : Str) (zs : List Str) : inV (.str z) (zs.map V.str) = decide (z ∈ zs) := by
  unfold inV
  rw [List.any_map]
  by_cases h : z ∈ zs
  · rw [decide_eq_true h]
    exact List.any_eq_true.mpr ⟨z, h, by show (z == z) = true; exact beq_self_eq_true z⟩
  · rw [decide_eq_false h]
    refine List.any_eq_false.mpr fun y hy => ?_
    show ¬ (y == z) = true
    rw [beq_iff_eq]
    rintro rfl
    exact h hy
theorem flat_strs (zs : List Str) : (zs.map V.str).all flatV = true := by
  rw [List.all_map]
  exact List.all_eq_true.mpr fun _ _ => rfl
theorem cutS_to {z : Str} {i : Nat} (h : i ≤ z.length) : tlc (cutS z none (some (i : Int))) = (tlc z).take i := by
  unfold cutS tlc
  rw [HT.sIx_none, HT.sIx_nat, List.drop_zero, Nat.min_eq_left h, Nat.sub_zero]
theorem cutS_from {z : Str} {i : Nat} (h : i ≤ z.length) : tlc (cutS z (some (i : Int)) none) = (tlc z).drop i := by
  unfold cutS tlc
  rw [HT.sIx_none, HT.sIx_nat, Nat.min_eq_left h]
  refine List.take_of_length_le ?_
  rw [List.length_drop, Array.length_toList]
  exact Nat.le_refl _
theorem nm_splice {one : Str} {at_ c : Nat} (h : isNm one = true) (ha : at_ < one.length) (hc : isLet c = true) : isNm (cutS one none (some (at_ : Int)) ++ ⟨#[c]⟩ ++ cutS one (some ((at_ : Int) + 1)) none) = true := by
  obtain ⟨h1, h2, h3⟩ := nm_inv h
  have e : tlc (cutS one none (some (at_ : Int)) ++ ⟨#[c]⟩ ++ cutS one (some ((at_ : Int) + 1)) none) = (tlc one).take at_ ++ [c] ++ (tlc one).drop (at_ + 1) := by
    rw [tlc_app, tlc_app, cutS_to (by omega)]
    congr 1
    exact cutS_from (i := at_ + 1) (by omega)
  have hl : (cutS one none (some (at_ : Int)) ++ ⟨#[c]⟩ ++ cutS one (some ((at_ : Int) + 1)) none).length = one.length := by
    rw [← tlc_len, e, List.length_append, List.length_append, List.length_take, List.length_drop, tlc_len]
    show min at_ one.length + 1 + (one.length - (at_ + 1)) = one.length
    omega
  refine nm_of (by omega) (by omega) fun d hd => ?_
  rw [e] at hd
  rcases List.mem_append.mp hd with hd | hd
  · rcases List.mem_append.mp hd with hd | hd
    · exact h3 d (List.mem_of_mem_take hd)
    · rw [List.mem_singleton.mp hd]
      exact hc
  · exact h3 d (List.mem_of_mem_drop hd)
theorem cutS_len (z : Str) (lo hi : Option Int) : (cutS z lo hi).length ≤ z.length := by
  rw [← tlc_len, ← tlc_len]
  unfold cutS tlc
  show (List.take _ (List.drop _ z.cps.toList)).length ≤ _
  rw [List.length_take, List.length_drop]
  omega
/-- _law_name -/
def spLName : Sp := fun vs H Q _ => ∃ (b : Addr) (n : Int), vs = [.ref b] ∧ Bag H b n ∧ n < 900000 ∧ ∀ z G, isNm z = true → Kept b H G → Bag G b (n + 9) → Q (.str z) G
/-- a new list of unlike names -/
def Names (b F : Addr) (H G : Hp) (zs : List Str) (m : Int) : Prop :=
  H F = none ∧ F ≠ b ∧ Kept b H G ∧ Bag G b m ∧ G F = some (.lst (zs.map V.str)) ∧ zs.Nodup ∧ ∀ z ∈ zs, isNm z = true
/-- _law_names -/
def spLNames : Sp := fun vs H Q _ => ∃ (b : Addr) (n : Int) (many : Nat), vs = [.ref b, .int (many : Int)] ∧ Bag H b n ∧ n < 800000 ∧ 1 ≤ many ∧ many ≤ 100 ∧ ∀ F zs G, Names b F H G zs (n + 20 * many) → 1 ≤ zs.length → zs.length ≤ many → Q (.ref F) G
/-- _law_numbers -/
def spLNums : Sp := fun vs H Q _ => ∃ (b : Addr) (n : Int) (many : Nat), vs = [.ref b, .int (many : Int)] ∧ Bag H b n ∧ n < 800000 ∧ 1 ≤ many ∧ many ≤ 100 ∧ ∀ F zs G, Names b F H G zs (n + 20 * many) → 1 ≤ zs.length → zs.length ≤ many + 1 → Q (.ref F) G
theorem seq_by {A B : TS} {D : Ends} {σ : L2.St} {H : Hp} (R : L2.St → Hp → Prop) (h2 : ∀ σ H, R σ H → B D σ H) (h1 : (∀ σ H, R σ H → B D σ H) → A { D with nx := fun σ H => B D σ H } σ H) : tSeq A B D σ H := h1 h2
theorem Bag.but {H G : Hp} {b : Addr} {m : Int} (k : But b H G) {x : Addr} (n : x ≠ b) : G x = H x := k x n
/-- within _law_names: the names found so far at F -/
structure LN (b F : Addr) (H G : Hp) (zs : List Str) (m : Int) : Prop where
  bag : Bag G b m
  fnd : G F = some (.lst (zs.map V.str))
  kept : Kept b H G
  ne : F ≠ b
  nd : zs.Nodup
  nm : ∀ z ∈ zs, isNm z = true
theorem LN.to {b F : Addr} {H G G' : Hp} {zs : List Str} {m m' : Int} (h : LN b F H G zs m) (k : Kept b G G') (hB : Bag G' b m') : LN b F H G' zs m' :=
  ⟨hB, k F _ h.ne h.fnd, h.kept.trans k, h.ne, h.nd, h.nm⟩
theorem LN.le {b F : Addr} {H G : Hp} {zs : List Str} {m m' : Int} (h : LN b F H G zs m) (q : m ≤ m') : LN b F H G zs m' := ⟨h.bag.mono q, h.fnd, h.kept, h.ne, h.nd, h.nm⟩
theorem LN.add {b F : Addr} {H G : Hp} {zs : List Str} {m : Int} {z : Str} (h : LN b F H G zs m) (hF : H F = none) (hz : isNm z = true) (n : z ∉ zs) : LN b F H (upd G F (.lst (zs.map V.str ++ [.str z]))) (zs ++ [z]) m := by
  refine ⟨h.bag.put h.ne, ?_, fun x o nx e => (upd_ne (ne_of_none e hF)).trans (h.kept x o nx e), h.ne, ?_, fun y hy => ?_⟩
  · rw [upd_same, List.map_append]
    rfl
  · refine List.nodup_append.mpr ⟨h.nd, by simp, fun x hx y hy => ?_⟩
    rw [List.mem_singleton.mp hy]
    rintro rfl
    exact n hx
  · rcases List.mem_append.mp hy with hy | hy
    · exact h.nm y hy
    · rw [List.mem_singleton.mp hy]
      exact hz
theorem atI_zero {α : Type} {xs : List α} (h : 0 < xs.length) : ∃ x, atI xs 0 = some x ∧ x ∈ xs := by
  match xs, h with
  | x :: r, _ => exact ⟨x, by unfold atI ixN; rw [if_pos (by decide), if_pos (by rw [List.length_cons]; omega)]; rfl, List.mem_cons_self⟩
theorem nm_line {z : Str} (h : isNm z = true) : z.length ≤ sizeLine := by
  have := (nm_inv h).2.1
  rw [sizeLine_eq]
  omega
theorem flt_take {α : Type} {xs : List α} {i : Nat} {x : α} {p : α → Bool} (h : xs[i]? = some x) : (xs.take (i + 1)).filter p = (xs.take i).filter p ++ (if p x = true then [x] else []) := by
  rw [take_at h, List.filter_append]
  congr 1
  by_cases e : p x = true
  · rw [if_pos e]
    exact List.filter_cons_of_pos e
  · rw [if_neg e]
    exact List.filter_cons_of_neg e
theorem ne_dec (u v : Str) : (!decide (V.str u = V.str v)) = decide (u ≠ v) := by
  rw [str_dec]
  by_cases h : u = v
  · rw [decide_eq_true h, decide_eq_false (fun q => q h)]
    rfl
  · rw [decide_eq_false h, decide_eq_true h]
    rfl
theorem atI_end {α : Type} {xs : List α} (h : 0 < xs.length) : ∃ x, atI xs (-1) = some x ∧ x ∈ xs := by
  have e : ixN xs.length (-1) = some (xs.length - 1) := by
    unfold ixN
    rw [if_neg (by decide), if_pos (by omega)]
    congr 1
    omega
  have hl : xs.length - 1 < xs.length := by omega
  refine ⟨xs[xs.length - 1], ?_, List.getElem_mem hl⟩
  unfold atI
  rw [e]
  exact List.getElem?_eq_getElem hl
theorem atI_map {α β : Type} {f : α → β} {xs : List α} {i : Int} {x : α} (h : atI xs i = some x) : atI (xs.map f) i = some (f x) := by
  rw [atI_len, h]
  rfl
theorem two_unlike {α : Type} : ∀ {xs : List α}, xs.Nodup → 2 ≤ xs.length → ∀ z, ∃ y ∈ xs, y ≠ z
  | x :: y :: r, h, _, z => by
    by_cases e : x = z
    · refine ⟨y, by simp, fun q => ?_⟩
      have := (List.nodup_cons.mp h).1
      rw [e, ← q] at this
      exact this (by simp)
    · exact ⟨x, by simp, e⟩
  | [_], _, h, _ => by simp at h
  | [], _, h, _ => by simp at h
theorem sum_le {m : Nat} : ∀ {ns : List Int}, (∀ x ∈ ns, x.natAbs ≤ m) → ns.sum.natAbs ≤ ns.length * m
  | [], _ => by simp
  | x :: r, h => by
    have h1 := h x List.mem_cons_self
    have h2 := sum_le (ns := r) fun y hy => h y (List.mem_cons_of_mem _ hy)
    rw [List.sum_cons, List.length_cons, Nat.succ_mul]
    omega
/-- a list that grows, made within -/
structure RD (b F : Addr) (H G : Hp) (rs : List Str) (m : Int) : Prop where
  bag : Bag G b m
  fnd : G F = some (.lst (rs.map V.str))
  kept : Kept b H G
  ne : F ≠ b
theorem RD.to {b F : Addr} {H G G' : Hp} {rs : List Str} {m m' : Int} (h : RD b F H G rs m) (k : Kept b G G') (hB : Bag G' b m') : RD b F H G' rs m' := ⟨hB, k F _ h.ne h.fnd, h.kept.trans k, h.ne⟩
theorem RD.le {b F : Addr} {H G : Hp} {rs : List Str} {m m' : Int} (h : RD b F H G rs m) (q : m ≤ m') : RD b F H G rs m' := ⟨h.bag.mono q, h.fnd, h.kept, h.ne⟩
theorem RD.set {b F : Addr} {H G : Hp} {rs qs : List Str} {m : Int} (h : RD b F H G rs m) (hF : H F = none) : RD b F H (upd G F (.lst (qs.map V.str))) qs m :=
  ⟨h.bag.put h.ne, upd_same, fun x o nx e => (upd_ne (ne_of_none e hF)).trans (h.kept x o nx e), h.ne⟩
end KX

set_option Elab.async false
set_option maxRecDepth 100000
set_option maxHeartbeats 1000000
namespace K86
open PySem PySem.Spec PyProof.Rows L2 KX
abbrev sLNm : Stmt := top 18
abbrev sLNms : Stmt := top 19
abbrev sLNum : Stmt := top 9999 /- _law_numbers -/
section
variable {P : Program} {w : World} {K : PySem.W.Frag} {mg : Str → Option Value} {base : Heap}
theorem scLNm : FnScope ["bag", "letters", "turn"] ["bag"] (defScope sLNm) := ⟨rfl, rfl, rfl, by decide +kernel, rfl, by decide +kernel, by decide +kernel⟩
theorem ok_lnm {f fD : Addr} {fd fdD : FuncData} (F : FnP K "_law_name" sLNm f fd) (GD : FnOk P w K mg base CX0 1 fD fdD ["bag", "many"] spDraw) (bD : Binds K fdD ["bag", "many"] []) (kD : PySem.W.keepIn K (.ref fD) = true) (gD : mg "_law_draw" = some (.ref fD))
    (n_range : mg "range" = none) : FnOk P w K mg base CX0 2 f fd ["bag"] spLName := by
  refine F.ok scLNm (fun vs H Q E h => ?_) (fun cdv A outer s H vs Q E hr h => ?_)
  · obtain ⟨b, n, rfl, _⟩ := h
    rfl
  · obtain ⟨b, n, rfl, hB, hn, k⟩ := h
    have nd := scLNm.nd
    refine ⟨_, PSs.nox (pss_cons (ps_set (i := 1) nd rfl (Or.inr rfl) pe_str)
(pss_one (ps_ret (pe_join pe_str (pe_lc (own := [("turn", 2)]) (g := (gName 2)) (tt := tYes) rfl nd (pi_range1 (by rfl) n_range (pa_cons (pe_op op_add pe_int (pe_call GD hr rfl gD kD bD .nil pass0 (pa_cons (pv 0) (pa_cons pe_int pa_nil)))) pa_nil)) (blkOk_by (own := [("turn", 2)]) (N := ["bag", "letters", "turn"]) (sc := defScope sLNm) (by decide +kernel)) (fun _ _ _ _ _ => (pg_name (i := 2) nd rfl (Or.inl rfl))) (fun _ _ _ _ _ => pts_nil) (fun _ _ _ _ _ => (pe_ix ix_str (pv 1) (pe_call GD hr rfl gD kD bD .nil pass0 (pa_cons (pv 0) (pa_cons pe_int pa_nil))) (fun _ _ => rfl)))))))), ?_⟩
    refine ⟨⟨_, rfl⟩, _, rfl, b, n, 8, rfl, hB, by omega, by decide, by decide, fun r G1 r0 r1 k1 hB1 => ⟨_, _, rfl, rfl, _, rfl, by omega, by omega, fun D nD => ?_⟩⟩
    obtain ⟨nn, hnn⟩ : ∃ nn : Nat, (1 + r).toNat = nn ∧ 1 ≤ nn ∧ nn ≤ 8 := ⟨_, rfl, by omega, by omega⟩
    rw [hnn.1]
    have hDb := hB1.ne nD
    have hDH : ∀ y o, H y = some o → y ≠ D := fun y o e => by
      rintro rfl
      have q := (k1 y hDb).trans e
      rw [nD] at q
      cases q
    refine lc_it (walk_rng (n := nn)) (fun i G => ∃ zs : List Nat, G D = some (.lst ((zs.map fun c => (⟨#[c]⟩ : Str)).map V.str)) ∧ zs.length = i ∧ (∀ c ∈ zs, isLet c = true) ∧ Bag G b (n + 1 + i) ∧ Kept b H G)
      ⟨[], upd_same, rfl, fun _ z => (nomatch z), (hB1.put hDb).mono (by omega), fun y o e q => (upd_ne (hDH y o q)).trans ((k1 y e).trans q)⟩ (fun _ _ _ _ => trivial) ?_ ?_
    · rintro i x G' G hi ⟨zs, hD, hl, hz, hBG, kG⟩ ⟨rfl, rfl⟩
      refine ⟨rfl, ?_⟩
      dsimp only [tYes]
      rw [if_pos rfl]
      refine ⟨_, rfl, _, rfl, b, _, 26, rfl, hBG, by omega, by decide, by decide, fun q G2 q0 q1 k2 hB2 => ?_⟩
      obtain ⟨j, rfl⟩ : ∃ j : Nat, q = j := ⟨q.toNat, by omega⟩
      have hj : j < 26 := by omega
      refine ⟨_, _, _, rfl, rfl, (by decide +kernel), atI_nat (letters_at hj), _, (k2 D hDb).trans hD, ?_, zs ++ [97 + j], ?_, ?_, ?_, ?_, fun y o e z => ?_⟩
      · rw [List.length_map, List.length_map, sizeLine_eq]
        omega
      · rw [upd_same, List.map_append, List.map_append]
        rfl
      · rw [List.length_append, hl]
        rfl
      · intro c hc
        rcases List.mem_append.mp hc with hc | hc
        · exact hz c hc
        · rw [List.mem_singleton.mp hc]
          exact let_at hj
      · exact (hB2.put hDb).mono (by omega)
      · rw [upd_ne (hDH y o z)]
        exact (k2 y e).trans (kG y o e z)
    · rintro G ⟨zs, hD, hl, hz, hBG, kG⟩
      refine ⟨_, D, zs.map fun c => (⟨#[c]⟩ : Str), rfl, rfl, .inl (SqL.of hD), ?_, ?_⟩
      · have e1 : ((zs.map fun c => (⟨#[c]⟩ : Str)).map (·.length)) = zs.map fun _ => 1 := by rw [List.map_map]; rfl
        have e2 : (("" : String) : Str).length = 0 := by decide +kernel
        rw [e1, e2, List.map_const', List.sum_replicate_nat]
        omega
      · have e0 : (("" : String) : Str) = ⟨#[]⟩ := by decide +kernel
        rw [TL.join_eq, e0]
        have e := join0 zs
        have hL : (Str.join ⟨#[]⟩ (zs.map fun c => (⟨#[c]⟩ : Str))).length = nn := by rw [← tlc_len, e, hl]
        exact k _ G (nm_of (by omega) (by omega) (fun c hc => hz c (by rw [← e]; exact hc))) kG (hBG.mono (by omega))
theorem scLNms : FnScope ["bag", "many", "found", "turn", "name", "one", "at"] ["bag", "many"] (defScope sLNms) := ⟨rfl, rfl, rfl, by decide +kernel, rfl, by decide +kernel, by decide +kernel⟩
theorem ok_lnms {f fD fO fN : Addr} {fd fdD fdO fdN : FuncData} (F : FnP K "_law_names" sLNms f fd) (GD : FnOk P w K mg base CX0 1 fD fdD ["bag", "many"] spDraw) (bD : Binds K fdD ["bag", "many"] []) (kD : PySem.W.keepIn K (.ref fD) = true) (gD : mg "_law_draw" = some (.ref fD))
    (GO : FnOk P w K mg base CX0 2 fO fdO ["bag", "some"] (spOf K)) (bO : Binds K fdO ["bag", "some"] []) (kO : PySem.W.keepIn K (.ref fO) = true) (gO : mg "_law_of" = some (.ref fO))
    (GN : FnOk P w K mg base CX0 2 fN fdN ["bag"] spLName) (bN : Binds K fdN ["bag"] []) (kN : PySem.W.keepIn K (.ref fN) = true) (gN : mg "_law_name" = some (.ref fN))
    (n_range : mg "range" = none) (n_len : mg "len" = none) : FnOk P w K mg base CX0 3 f fd ["bag", "many"] spLNames := by
  refine F.ok scLNms (fun vs H Q E h => ?_) (fun cdv A outer s H vs Q E hr2 h => ?_)
  · obtain ⟨b, n, m, rfl, _⟩ := h
    rfl
  · obtain ⟨b, n, many, rfl, hB, hn, h1, h100, k⟩ := h
    have nd := scLNms.nd
    have hr1 := hr2.mono (j := 1) (by decide)
    refine ⟨_, PSs.nox (pss_cons (ps_set (i := 2) nd rfl (Or.inl rfl) (pe_lst (pa_cons (pe_call GN hr2 rfl gN kN bN .nil pass0 (pa_cons (pv 0) pa_nil)) pa_nil)))
(pss_cons (ps_for PassesOwn.never rfl (pi_range1 (by rfl) n_range (pa_cons (pe_op op_sub (pv 1) pe_int) pa_nil)) (pg_name (i := 3) nd rfl (Or.inl rfl))
(pss_cons (ps_set (i := 4) nd rfl (Or.inl rfl) (pe_call GN hr2 rfl gN kN bN .nil pass0 (pa_cons (pv 0) pa_nil)))
(pss_cons (ps_if (pt_cmpR op_eq (pe_call GD hr1 rfl gD kD bD .nil pass0 (pa_cons (pv 0) (pa_cons pe_int pa_nil))) pe_int (nomark _))
(pss_cons (ps_set (i := 5) nd rfl (Or.inl rfl) (pe_call GO hr2 rfl gO kO bO .nil pass0 (pa_cons (pv 0) (pa_cons (pv 2) pa_nil))))
(pss_cons (ps_set (i := 6) nd rfl (Or.inl rfl) (pe_call GD hr1 rfl gD kD bD .nil pass0 (pa_cons (pv 0) (pa_cons (pe_callB call_len_str (by rfl) n_len PySem.boot_len (pa_cons (pv 5) pa_nil)) pa_nil))))
(pss_one (ps_set (i := 4) nd rfl (Or.inl rfl) (pe_op op_add_str (pe_op op_add_str (pe_slice sl_str (pv 5) po_none (po_some (pv 6))) (pe_ix ix_str (pv 4) pe_int (fun _ _ => rfl))) (pe_slice sl_str (pv 5) (po_some (pe_op op_add (pv 6) pe_int)) po_none))))))
pss_nil)
(pss_one (ps_if (pt_cmpR op_notIn_seq (pv 4) (pv 2) rfl)
(pss_one (ps_expr (pe_bm PySem.F.plainAttrs_list PySem.F.slot_list_append PySem.F.type_list_append mt_append (pv 2) (pa_cons (pv 4) pa_nil))))
pss_nil)))))
(pss_one (ps_ret (pv 2))))), ?_⟩
    refine ⟨_, rfl, b, n, rfl, hB, by omega, fun z0 G1 hz0 k1 hB1 => ⟨(by show 1 ≤ sizeLine; decide), fun F0 nF => ?_⟩⟩
    have hFb := hB1.ne nF
    have hFH : H F0 = none := by
      cases e : H F0 with
      | none => rfl
      | some o => exact absurd (k1 F0 o hFb e) (by rw [nF]; exact nofun)
    have lp0 : LN b F0 H (upd G1 F0 (.lst [.str z0])) [z0] (n + 9) := ⟨hB1.put hFb, upd_same, fun x o nx e => (upd_ne (ne_of_none e hFH)).trans (k1 x o nx e), hFb, by simp, fun z hz => by rw [List.mem_singleton.mp hz]; exact hz0⟩
    generalize upd G1 F0 (.lst [.str z0]) = G2 at lp0
    refine ⟨_, rfl, _, _, rfl, rfl, _, rfl, by omega, by omega, ?_⟩
    have e1 : ((many : Int) - 1).toNat = many - 1 := by omega
    rw [e1]
    refine for_it (walk_rng (n := many - 1)) (fun i σ G => ∃ zs y3 y4 y5 y6, σ = [some (.ref b), some (.int (many : Int)), some (.ref F0), y3, y4, y5, y6] ∧ LN b F0 H G zs (n + 9 + 12 * i) ∧ 1 ≤ zs.length ∧ zs.length ≤ i + 1)
      ⟨[z0], _, _, _, _, rfl, lp0.le (by omega), by simp, by simp⟩ (fun _ _ _ _ _ => trivial) ?_ ?_
    · rintro i x σ G' G hi ⟨zs, y3, y4, y5, y6, rfl, lp, hl1, hl2⟩ ⟨rfl, rfl⟩
      refine ⟨_, rfl, b, _, rfl, lp.bag, by omega, fun z G3 hz k3 hB3 => ?_⟩
      have lp3 := lp.to k3 hB3
      dsimp only [gName, List.set]
      refine seq_by (fun σ G => ∃ z y5 y6, σ = [some (.ref b), some (.int (many : Int)), some (.ref F0), some (.int (i : Int)), some (.str z), y5, y6] ∧ isNm z = true ∧ LN b F0 H G zs (n + 9 + 12 * (i + 1 : Nat))) ?_ (fun nxt => ?_)
      · rintro σ G ⟨z, y5, y6, rfl, hz, lp⟩
        refine ⟨_, rfl, _, rfl, F0, _, rfl, .inl (SqL.of lp.fnd), rfl, flat_strs zs, _, rfl, ite2' (fun c => ?_) (fun c => ?_)⟩
        · have c' : (!inV (.str z) (zs.map V.str)) = true := c
          rw [inV_str] at c'
          have hnot : z ∉ zs := fun q => by
            rw [decide_eq_true q] at c'
            cases c'
          refine ⟨_, rfl, .inl ⟨rfl, _, SqL.of lp.fnd⟩, _, rfl, F0, _, _, rfl, rfl, lp.fnd, (by rw [List.length_map, sizeLine_eq]; omega), ?_⟩
          exact ⟨zs ++ [z], _, _, _, _, rfl, lp.add hFH hz hnot, by rw [List.length_append]; omega, by rw [List.length_append]; show zs.length + 1 ≤ _; omega⟩
        · exact ⟨zs, _, _, _, _, rfl, lp, hl1, by omega⟩
      · refine ⟨_, rfl, b, _, 2, rfl, lp3.bag, by omega, by decide, by decide, fun r G4 r0 r1 k4 hB4 => ⟨rfl, _, rfl, ite2' (fun c => ?_) (fun c => ?_)⟩⟩
        · have lp4 := lp3.to k4.kept hB4
          refine ⟨_, rfl, _, rfl, b, F0, _, _, rfl, lp4.bag, by omega, hFb, SqL.of lp4.fnd, by rw [List.length_map]; omega, by rw [List.length_map]; omega, fun j v G5 hv k5 hB5 => ?_⟩
          obtain ⟨one, ho, rfl⟩ := Option.map_eq_some_iff.mp ((List.getElem?_map ..).symm.trans hv)
          have hno := lp4.nm one (List.mem_of_getElem? ho)
          have hlo := nm_line hno
          obtain ⟨o1, o8, _⟩ := nm_inv hno
          have lp5 := lp4.to k5.kept hB5
          refine ⟨_, rfl, _, rfl, _, rfl, hlo, b, _, _, rfl, lp5.bag, by omega, by omega, by omega, fun a G6 a0 a1 k6 hB6 => ?_⟩
          have lp6 := lp5.to k6.kept hB6
          obtain ⟨at_, rfl⟩ : ∃ j : Nat, a = j := ⟨a.toNat, by omega⟩
          have hat : at_ < one.length := by omega
          obtain ⟨c0, hc0, hm⟩ := atI_zero (xs := tlc z) (by rw [tlc_len]; have := (nm_inv hz).1; omega)
          have hlet := (nm_inv hz).2.2 c0 hm
          have l1 := cutS_len one none (some (at_ : Int))
          have l2 := cutS_len one (some ((at_ : Int) + 1)) none
          have l3 : (⟨#[c0]⟩ : Str).length = 1 := rfl
          refine ⟨_, rfl, _, rfl, _, rfl, _, rfl, hlo, _, rfl, _, _, c0, rfl, rfl, nm_line hz, hc0, _, _, rfl, rfl, (by rw [sizeLine_eq]; omega), _, rfl, _, rfl, _, _, rfl, rfl, _, rfl, _, rfl, hlo, _, _, rfl, rfl, (by rw [Str.length_append, sizeLine_eq]; omega), ?_⟩
          exact nxt _ _ ⟨_, _, _, rfl, nm_splice hno hat hlet, lp6.le (by omega)⟩
        · exact nxt _ _ ⟨z, _, _, rfl, hz, (lp3.to k4.kept hB4).le (by omega)⟩
    · rintro σ G ⟨zs, y3, y4, y5, y6, rfl, lp, hl1, hl2⟩
      exact ⟨_, rfl, k F0 zs G ⟨hFH, hFb, lp.kept, lp.bag.mono (by omega), lp.fnd, lp.nd, lp.nm⟩ hl1 (by omega)⟩
end
end K86

set_option Elab.async false
set_option maxRecDepth 100000
set_option maxHeartbeats 2000000
/-! sorted(xs) and min(xs) of a list of alike data (numbers, texts, tuples of these). -/
namespace KX
open PySem PySem.Spec PySem.W PyProof.Rows L2
theorem dp_all {K : PySem.W.Frag} {H : Hp} {d : V → PyData} : ∀ {xs : List V}, (∀ x ∈ xs, Dp K H x (d x)) → DpAll K H xs (xs.map d)
  | [], _ => .nil
  | x :: xs, h => .cons (h x List.mem_cons_self) (dp_all fun y hy => h y (List.mem_cons_of_mem _ hy))
theorem each_rel : ∀ {xs : List V} {us : List Value}, Vals xs us → EachIs (fun u x => RelV x u) us xs
  | _, _, .nil => .nil
  | _, _, .cons h t => .cons h (each_rel t)
theorem rel_each : ∀ {xs : List V} {us : List Value}, EachIs (fun u x => RelV x u) us xs → Vals xs us
  | _, _, .nil => .nil
  | _, _, .cons h t => .cons h (rel_each t)
/-- what sorted makes of xs, by their data -/
abbrev srtD (d : V → PyData) (xs : List V) : List V := xs.mergeSort (dataLe false d)
def rSortDp (K : PySem.W.Frag) : List V → Hp → VK → Prop := fun vs H Q => ∃ (a : Addr) (xs : List V) (d : V → PyData), vs = [V.ref a] ∧ SqL K H a xs ∧ (∀ x ∈ xs, Dp K H x (d x)) ∧ AllAlike (xs.map d) ∧ Sortable (xs.map d) ∧ (∀ x ∈ xs, (d x).depth ≤ 60) ∧
  ∀ p, H p = none → Q (.ref p) (upd H p (.lst (srtD d xs)))
def rMinDp (K : PySem.W.Frag) : List V → Hp → VK → Prop := fun vs H Q => ∃ (a : Addr) (x : V) (xs : List V) (d : V → PyData), vs = [V.ref a] ∧ SqL K H a (x :: xs) ∧ (∀ y ∈ x :: xs, Dp K H y (d y)) ∧ AlikeAll ((x :: xs).map d) ∧ PyData.depthAll ((x :: xs).map d) ≤ 60 ∧
  ∀ y ∈ x :: xs, d y = minD (d x) (xs.map d) → Q y H
section
variable {X : Cx}
theorem cr_sortedDp (hu : X.A.units + 64 < cLine) : CallR X (.builtin "sorted") (rSortDp X.K) := by
  intro pins s σ H vs us Q I r h
  obtain ⟨a, xs, d, rfl, hs, hd, hal, hk, hdp, q⟩ := h
  obtain ⟨its, rv, hl, hlen⟩ := I.list hs
  rw [Vals.ref1 r]
  obtain ⟨as, ra⟩ := Dp.readsAll I (xs.map d) xs its (dp_all hd) rv
  refine sorted_data (bs := xs) (enc := d) (R := fun u x => RelV x u) hl.isList (each_rel rv) (readsAll_each d ra) hal hk ?_ (fun b hb => by have := hdp b hb; omega) fun out h1 h2 => ?_
  · first | exact hlen | (have := rv.length; omega)
  obtain ⟨ep, he'⟩ := PyProof.Rows.sortedAll_at s.heap its out.toArray
  have hL : (srtD d xs).length ≤ sizeLine := by
    rw [List.length_mergeSort]
    first | exact hlen | (have := rv.length; omega)
  exact ⟨.ref _, upd H (s.heap.objs.size + 1) (.lst (srtD d xs)), I.laid (t' := s.toks) (fun _ _ => PyProof.Rows.sortedAll_old) (Nat.le_succ _) ⟨hL, out.toArray.toList, ep, rel_each (by simpa using h2), by simpa using he'⟩, rfl, q _ (I.hok.fresh (Nat.le_succ _))⟩
theorem cr_minDp (hc : X.calm = true) (hu : X.A.units + 64 < cLine) : CallR X (.builtin "min") (rMinDp X.K) := by
  intro pins s σ H vs us Q I r h
  obtain ⟨a, x, xs, d, rfl, hs, hd, hal, hdp, q⟩ := h
  obtain ⟨its, rv, hl, hlen⟩ := I.list hs
  rw [Vals.ref1 r]
  obtain ⟨as, ra⟩ := Dp.readsAll I ((x :: xs).map d) (x :: xs) its (dp_all hd) rv
  refine min_list_data (I.ok.hd hc) hl.isList (x := d x) (xs := xs.map d) (by simpa using ra) hal (by show _ + 1 + PyData.depthAll ((x :: xs).map d) < _; omega) fun i v h' tk bs hv hr kp => ?_
  have hv' : its[i]? = some v := by simpa using hv
  have hix : i < (x :: xs).length := by
    have := (List.getElem?_eq_some_iff.mp hv').1
    rw [rv.length]
    exact this
  obtain ⟨u, hu2, ru⟩ := rv.get (List.getElem?_eq_getElem hix)
  obtain rfl : u = v := Option.some.inj (hu2.symm.trans hv')
  have hm : (x :: xs)[i] ∈ x :: xs := List.getElem_mem hix
  obtain ⟨as2, r2⟩ := Dp.reads I _ _ u (hd _ hm) ru
  have e := (Reads.unique (PyProof.Rows.Reads.keeps kp r2) _ _ hr).1
  exact ⟨_, H, I.kept kp, ru, q _ hm e⟩
end
end KX

set_option Elab.async false
set_option maxRecDepth 100000
set_option maxHeartbeats 2000000
/-! Sets of texts: added to, and taken in some order. -/
namespace KX
open PySem PySem.Spec PyProof.Rows
def keyS (e : Int × Value) : Str := match e.2 with | .str x _ => x | _ => Str.empty
/-- a set of just the texts L -/
def SetX (P : Program) (w : World) (h : Heap) (a : Addr) (L : List Str) : Prop :=
  ∃ o es ep t, h.get? a = some o ∧ o.ExactSet ∧ o.data = .set es ep t ∧ ElemsOf (PySem.strKind P w) es.toList ∧ (es.toList.map keyS).Perm L ∧ es.size < scanBound ∧ t.fits es.size = true ∧ L2.Ris t.place.toList ∧ (w.params.followText "set-order" = true ∨ t.led = true)
theorem isStr_key {e : Int × Value} {k : Str} {P : Program} {w : World} (h : (PySem.strKind P w).is k e.2 = true) : keyS e = k := by
  obtain ⟨i, v⟩ := e
  have h' : Value.isStrOf k v = true := h
  cases v <;> simp [Value.isStrOf, Value.isStr] at h'
  exact h'
section
variable {P : Program} {w : World} {A : Around} {E : Value → Shared → Prop} {s : Shared} {a : Addr}
theorem elems_key {l : List (Int × Value)} (h : ElemsOf (PySem.strKind P w) l) (x : Str) : (∃ e ∈ l, (PySem.strKind P w).is x e.2 = true) ↔ x ∈ l.map keyS := by
  constructor
  · rintro ⟨e, he, hk⟩
    exact List.mem_map.mpr ⟨e, he, isStr_key hk⟩
  · intro hx
    obtain ⟨e, he, rfl⟩ := List.mem_map.mp hx
    obtain ⟨⟨k, hk, _⟩, _⟩ := h e he
    rw [isStr_key hk]
    exact ⟨e, he, hk⟩
theorem setX_tail {g : Bool → Sem Unit} (hg : ∀ (b : Bool) (s₁ : Shared) (Q' : Unit → Shared → Prop), Q' () s₁ → wpAny (model P w) A (g b) Q' E s₁) {o : Obj} {es : Array (Int × Value)} {ep : Nat} {t : SetTable}
    (ho : s.heap.get? a = some o) (hx : o.ExactSet) (hd : o.data = .set es ep t) {es1 : Array (Int × Value)} {t2 : SetTable} {L' : List Str} (hel : ElemsOf (PySem.strKind P w) es1.toList) (hk : (es1.toList.map keyS).Perm L') (hlt : es1.size < scanBound)
    (hf : t2.fits es1.size = true) (hr : L2.Ris t2.place.toList) (hl : w.params.followText "set-order" = true ∨ t2.led = true) {wasDummy : Bool} {R : Option Bool → Shared → Prop}
    (k : ∀ h', Heap.SameBut a s.heap h' → SetX P w h' a L' → R (some true) { s with heap := h' }) :
    wpAny (model P w) A (do
      storeSet a es1 t2
      if (!wasDummy && SetTable.tooFull t2) = true then do
        g (relayAll t2 es1 (SetTable.grown es1.size)).2.2
        storeSet a (relayAll t2 es1 (SetTable.grown es1.size)).1 (relayAll t2 es1 (SetTable.grown es1.size)).2.1
        pure (some true)
      else pure (some true)) R E s := by
  have h1 := L2.store_at (h := s.heap) (es' := es1) (t' := t2) ho hd
  have sb : Heap.SameBut a s.heap (s.heap.update a (Obj.putSet es1 t2)) := Heap.SameBut.update _ _ _
  refine wpAny_bind (wpAny_storeSet_of ho hd ?_ (fits_of_scanBound hlt))
  by_cases c : (!wasDummy && SetTable.tooFull t2) = true
  · rw [if_pos c]
    refine wpAny_bind (hg _ _ _ ?_)
    have hp := relayAll_perm t2 es1 (SetTable.grown es1.size)
    have hz : (relayAll t2 es1 (SetTable.grown es1.size)).1.size < scanBound := by
      have := hp.length_eq
      simp only [Array.length_toList] at this
      omega
    have h2 := L2.store_at (h := s.heap.update a (Obj.putSet es1 t2)) (es' := (relayAll t2 es1 (SetTable.grown es1.size)).1) (t' := (relayAll t2 es1 (SetTable.grown es1.size)).2.1) h1 rfl
    refine wpAny_bind (wpAny_storeSet_of h1 rfl (wpAny_pure (k _ (sb.trans (Heap.SameBut.update _ _ _)) ?_)) (fits_of_scanBound hz))
    exact ⟨_, _, _, _, h2, hx, rfl, hel.perm hp, (hp.map _).trans hk, hz, relayAll_fits _ _ _, L2.relayAll_ris _ _ _, hl.imp id fun e => (L2.relayAll_led _ _ _).trans e⟩
  · rw [if_neg c]
    exact wpAny_pure (k _ sb ⟨_, _, _, _, h1, hx, rfl, hel, hk, hlt, hf, hr, hl⟩)
theorem setX_add {L : List Str} {x : Str} {tk : Tok} {Q : Bool → Shared → Prop} (h : SetX P w s.heap a L) (hn : L.length + 1 < scanBound)
    (k : ∀ b h', Heap.SameBut a s.heap h' → SetX P w h' a (if x ∈ L then L else L ++ [x]) → Q b { s with heap := h' }) : wpAny (model P w) A (setAddHashed a (.str x tk) (hashStr w x)) Q E s := by
  obtain ⟨o, es, ep, t, ho, hx, hd, hel, hk, hlt, hf, hr, hl⟩ := h
  have his : (PySem.strKind P w).is x (.str x tk) = true := by
    show Value.isStrOf x (.str x tk) = true
    simp [Value.isStrOf, Value.isStr]
  have hsz : es.size = L.length := by rw [← hk.length_eq, List.length_map, Array.length_toList]
  unfold setAddHashed
  refine wpAny_holding ?_
  rw [show (100000 : Nat) = 99999 + 1 from rfl, setAddHashedIn.eq_def]
  refine wpAny_bind (wpAny_setState_of ho hd hf ?_)
  dsimp only
  rw [if_pos (byScan_of (knd := PySem.strKind P w) rfl hlt hel)]
  refine wpAny_bind ?_
  unfold setAddByScan
  refine wpAny_bind (wpAny_rule ?_)
  refine wpAny_bind (wpAny_setScan_of (knd := PySem.strKind P w) (k := x) his ho hd hf hel ?_)
  cases hfi : List.findIdx? (fun e => (PySem.strKind P w).is x e.2) es.toList with
  | some j =>
    have hm : x ∈ L := by
      obtain ⟨hj, hp, _⟩ := List.findIdx?_eq_some_iff_getElem.mp hfi
      exact hk.mem_iff.mp ((elems_key hel x).mp ⟨_, List.getElem_mem hj, hp⟩)
    refine wpAny_pure (wpAny_pure ?_)
    have := k false s.heap (Heap.SameBut.refl _ _) (by rw [if_pos hm]; exact ⟨o, es, ep, t, ho, hx, hd, hel, hk, hlt, hf, hr, hl⟩)
    exact this
  | none =>
    have hm : x ∉ L := fun hm => by
      obtain ⟨e, he, hke⟩ := (elems_key hel x).mpr (hk.mem_iff.mpr hm)
      have := List.findIdx?_eq_none_iff.mp hfi e he
      rw [hke] at this
      cases this
    rw [if_neg hm] at k
    dsimp only
    have hp := layNew_perm t es (hashStr w x) (.str x tk)
    have hel1 : ElemsOf (PySem.strKind P w) (layNew t es (hashStr w x) (.str x tk)).1.toList := (hel.push his rfl).perm (hp.trans (by rw [Array.toList_push]; exact .refl _))
    have hk1 : ((layNew t es (hashStr w x) (.str x tk)).1.toList.map keyS).Perm (L ++ [x]) := (hp.map _).trans (by rw [Array.toList_push, List.map_append]; exact hk.append_right _)
    have hz1 : (layNew t es (hashStr w x) (.str x tk)).1.size < scanBound := by
      have := hp.length_eq
      simp only [Array.length_toList, Array.size_push] at this
      omega
    have hf1 := layNew_fits t es (hashStr w x) (.str x tk)
    have hr1 := L2.layNew_ris t es (hashStr w x) (.str x tk) hr
    have hl1 : w.params.followText "set-order" = true ∨ (layNew t es (hashStr w x) (.str x tk)).2.1.led = true := hl.imp id fun e => (L2.layNew_led _ _ _ _).trans e
    generalize layNew t es (hashStr w x) (.str x tk) = R at hel1 hk1 hz1 hf1 hr1 hl1
    obtain ⟨es1, t1, wd, gave⟩ := R
    dsimp only at hel1 hk1 hz1 hf1 hr1 hl1 ⊢
    have fin : ∀ h', Heap.SameBut a s.heap h' → SetX P w h' a (L ++ [x]) → wpAny (model P w) A (pure true) Q E { s with heap := h' } :=
      fun h' sb hs => wpAny_pure (k true h' sb hs)
    refine wpAny_bind ?_
    cases gave
    · refine wpAny_pure ?_
      by_cases c : t1.plain = true
      · rw [if_pos c, hashByValue.eq_5]
        refine wpAny_bind (wpAny_pure ?_)
        exact setX_tail (fun b _ _ h => by cases b <;> first | exact wpAny_pure h | exact wpAny_rule h) ho hx hd hel1 hk1 hz1 (SetTable.fits_plain_off hf1) hr1 hl1 fin
      · rw [if_neg c]
        refine wpAny_bind (wpAny_pure ?_)
        exact setX_tail (fun b _ _ h => by cases b <;> first | exact wpAny_pure h | exact wpAny_rule h) ho hx hd hel1 hk1 hz1 hf1 hr1 hl1 fin
    · refine wpAny_rule ?_
      by_cases c : t1.plain = true
      · rw [if_pos c, hashByValue.eq_5]
        refine wpAny_bind (wpAny_pure ?_)
        exact setX_tail (fun b _ _ h => by cases b <;> first | exact wpAny_pure h | exact wpAny_rule h) ho hx hd hel1 hk1 hz1 (SetTable.fits_plain_off hf1) hr1 hl1 fin
      · rw [if_neg c]
        refine wpAny_bind (wpAny_pure ?_)
        exact setX_tail (fun b _ _ h => by cases b <;> first | exact wpAny_pure h | exact wpAny_rule h) ho hx hd hel1 hk1 hz1 hf1 hr1 hl1 fin
theorem SetX.typeIs {L : List Str} (h : SetX P w s.heap a L) : Shared.TypeIs s (.ref a) "set" := by
  obtain ⟨o, es, ep, t, ho, hx, _⟩ := h
  exact ⟨o, ho, hx.1⟩
theorem call_setX_add {L : List Str} {x : Str} {tk : Tok} {Q : Value → Shared → Prop} (h : SetX P w s.heap a L) (hn : L.length + 1 < scanBound)
    (k : ∀ h', Heap.SameBut a s.heap h' → SetX P w h' a (if x ∈ L then L else L ++ [x]) → Q .none { s with heap := h', toks := s.toks + 1 }) : wpAny (model P w) A (call (.builtin "set.add") [.ref a, .str x tk]) Q E s := by
  refine wpAny_call_entry F.slot_set_add h.typeIs F.entry_set_add ?_ (F.args_set_add_2 _ _)
  unfold Builtin.«set.add»
  refine wpAny_bind (m := Builtin.Frozenset.oneOther "add" _) (wpAny_bind (wpAny_pure (wpAny_pure ?_)))
  dsimp only
  refine wpAny_bind ?_
  unfold setAdd
  refine wpAny_holding (wpAny_bind (wpAny_pyHash_str (setX_add h hn fun b h' sb hs => ?_)))
  exact wpAny_pure ⟨_, rfl, k h' sb hs⟩
theorem sorted_setX {L : List Str} {Q : Value → Shared → Prop} (hA : A.handled = none) (hu : A.units + 64 < cLine) (h : SetX P w s.heap a L)
    (k : ∀ (s' : Shared) (p : Addr) (out : List Value) (c : Nat) (L' : List Str), (∀ b o, s.heap.get? b = some o → s'.heap.get? b = some o) → s'.gens = s.gens → s'.os = s.os → s.heap.objs.size ≤ p → s'.heap.get? p = some (seqObj "list" out.toArray c) →
      PySem.W.EachIs (fun v x => ∃ t, v = Value.str x t) out (L'.mergeSort (PySem.W.dataLe false PyData.str)) → L'.Perm L → Q (.ref p) s') : wpAny (model P w) A (call (.builtin "sorted") [.ref a]) Q E s := by
  obtain ⟨o, es, ep, t, ho, hx, hd, hel, hk, hlt, hf, hr, hl⟩ := h
  refine PyProof.Rows.call_function_entry_kw (kw := []) kind_sorted plain_sorted entry_sorted (args_sorted1 _) ?_
  unfold Builtin.«sorted»
  refine wpAny_bind (m := checkCount "sorted" 1 1 _) (wpAny_pure ?_)
  refine wpAny_bind (L2.collect_set hA ⟨o, ho, hx.1, hd⟩ hf hlt hr hl fun s1 out old hsz hg hos hp => ?_)
  have hz : out.length ≤ sizeLine := by
    have h1 := hp.length_eq
    rw [List.length_map, show es.toList.length = es.size from Array.length_toList] at h1
    exact Nat.le_trans (Nat.le_of_eq h1) (fits_of_scanBound hlt)
  refine wpAny_bind (wpAny_newList ?_ hz)
  have hstr : ∀ v ∈ out, ∃ x t, v = Value.str x t := by
    intro v hv
    obtain ⟨e, he, rfl⟩ := List.mem_map.mp (hp.mem_iff.mp hv)
    obtain ⟨⟨x, hk, _⟩, _⟩ := hel e he
    have h' : Value.isStrOf x e.2 = true := hk
    obtain ⟨i, v⟩ := e
    cases v <;> simp [Value.isStrOf, Value.isStr] at h'
    exact ⟨_, _, rfl⟩
  have hperm : (out.map fun v => keyS (0, v)).Perm L := (hp.map _).trans (by rw [List.map_map]; exact hk)
  have hL : (s1.heap.push (seqObj "list" out.toArray 0)).get? s1.heap.objs.size = some (seqObj "list" out.toArray 0) := Heap.get?_push_size _ rfl
  have each : ∀ l : List Value, (∀ v ∈ l, ∃ x t, v = Value.str x t) → PySem.W.EachIs (fun v x => ∃ t, v = Value.str x t) l (l.map fun v => keyS (0, v)) ∧
      PySem.W.EachIs (fun v x => ∃ as, Reads (s1.heap.push (seqObj "list" out.toArray 0)) v (PyData.str x) as ∧ s1.heap.objs.size ∉ as) l (l.map fun v => keyS (0, v)) := by
    intro l hl
    induction l with
    | nil => exact ⟨.nil, .nil⟩
    | cons v r ih =>
      obtain ⟨x, t, rfl⟩ := hl v List.mem_cons_self
      have := ih fun u hu => hl u (List.mem_cons_of_mem _ hu)
      exact ⟨.cons ⟨t, rfl⟩ this.1, .cons ⟨[], .str x t, by simp⟩ this.2⟩
  have hlen : (out.map fun v => keyS (0, v)).length ≤ sizeLine := by rw [List.length_map]; exact hz
  refine wpAny_bind (wpAny_holding (PySem.W.list_sort_data (bs := out.map fun v => keyS (0, v)) (enc := PyData.str) hL (each out hstr).1 (each out hstr).2 ?_ ?_ hlen ?_ fun out2 hl2 he2 => ?_))
  · intro d hd d' hd'
    obtain ⟨x, _, rfl⟩ := List.mem_map.mp hd
    obtain ⟨y, _, rfl⟩ := List.mem_map.mp hd'
    rfl
  · refine .inr fun d hd => ?_
    obtain ⟨x, _, rfl⟩ := List.mem_map.mp hd
    exact ⟨(fun e => by cases e), fun _ e => by cases e⟩
  · intro b _
    have e1 : (PyData.str b).depth = 0 := rfl
    have e2 : A.in1.units = A.units + 1 := rfl
    omega
  · obtain ⟨c, hc⟩ := sortedHeap_at (out := out2.toArray) hL
    refine wpAny_pure ⟨_, rfl, ?_⟩
    refine k _ _ out2 c (out.map fun v => keyS (0, v)) (fun b o e => ?_) hg hos hsz hc he2 hperm
    have e1 := old b o e
    have e2 : (s1.heap.push (seqObj "list" out.toArray 0)).get? b = some o := Heap.get?_push_of_some _ e1
    exact (sortedHeap_old (Nat.ne_of_lt (Heap.lt_size e1)) (Heap.lt_size e2)).trans e2
end
end KX

set_option Elab.async false
set_option maxRecDepth 100000
set_option maxHeartbeats 2000000
/-! sorted({t[0] for t in d.values()}): the first parts (texts) of the tuples that stand in a dict. -/
namespace KX
open PySem PySem.Spec PyProof.Rows
def uniqS (xs : List Str) : List Str := xs.foldl (fun L x => if x ∈ L then L else L ++ [x]) []
theorem uniqS_snoc (xs : List Str) (x : Str) : uniqS (xs ++ [x]) = if x ∈ uniqS xs then uniqS xs else uniqS xs ++ [x] := by
  unfold uniqS
  rw [List.foldl_append]
  rfl
theorem uniqS_len : ∀ (xs : List Str), (uniqS xs).length ≤ xs.length := by
  have : ∀ (xs L : List Str), (xs.foldl (fun L x => if x ∈ L then L else L ++ [x]) L).length ≤ L.length + xs.length := by
    intro xs
    induction xs with
    | nil => intro L; simp
    | cons x r ih =>
      intro L
      refine Nat.le_trans (ih _) ?_
      dsimp only [List.length_cons]
      split
      · omega
      · rw [List.length_append, List.length_singleton]; omega
  intro xs
  have := this xs []
  simpa [uniqS] using this
theorem uniqS_mem (x : Str) (xs : List Str) : x ∈ uniqS xs ↔ x ∈ xs := by
  have : ∀ (xs L : List Str), x ∈ xs.foldl (fun L x => if x ∈ L then L else L ++ [x]) L ↔ x ∈ L ∨ x ∈ xs := by
    intro xs
    induction xs with
    | nil => intro L; simp
    | cons y r ih =>
      intro L
      rw [List.foldl_cons, ih]
      split
      · rename_i h
        constructor
        · rintro (h1 | h1)
          · exact .inl h1
          · exact .inr (List.mem_cons_of_mem _ h1)
        · rintro (h1 | h1)
          · exact .inl h1
          · rcases List.mem_cons.mp h1 with rfl | h1
            · exact .inl h
            · exact .inr h1
      · rw [List.mem_append, List.mem_singleton, List.mem_cons]
        constructor
        · rintro ((h1 | h1) | h1)
          · exact .inl h1
          · exact .inr (.inl h1)
          · exact .inr (.inr h1)
        · rintro (h1 | h1 | h1)
          · exact .inl (.inl h1)
          · exact .inl (.inr h1)
          · exact .inr h1
  have := this xs []
  simpa [uniqS] using this
theorem uniqS_nodup (xs : List Str) : (uniqS xs).Nodup := by
  have : ∀ (xs L : List Str), L.Nodup → (xs.foldl (fun L x => if x ∈ L then L else L ++ [x]) L).Nodup := by
    intro xs
    induction xs with
    | nil => intro L h; exact h
    | cons y r ih =>
      intro L h
      rw [List.foldl_cons]
      refine ih _ ?_
      split
      · exact h
      · rename_i hn
        exact List.nodup_append.mpr ⟨h, by simp, by intro a ha b hb; rw [List.mem_singleton] at hb; rintro rfl; exact hn (hb ▸ ha)⟩
  exact this xs [] List.nodup_nil
theorem SetX.at {P : Program} {w : World} {h h' : Heap} {a : Addr} {L : List Str} (z : SetX P w h a L) (k : ∀ o, h.get? a = some o → h'.get? a = some o) : SetX P w h' a L := by
  obtain ⟨o, es, ep, t, ho, r⟩ := z
  exact ⟨o, es, ep, t, k o ho, r⟩
theorem setX_fresh {P : Program} {h : Heap} {a : Addr} (w : World) (e : h.get? a = some { cls := .type "set", data := .set #[] 0 (SetTable.fresh 0 0 !w.params.followText "set-order") }) : SetX P w h a [] := by
  refine ⟨_, _, _, _, e, ⟨rfl, rfl, rfl⟩, rfl, (fun e he => absurd he (by simp)), .refl _, by decide, rfl, List.Pairwise.nil, ?_⟩
  cases hf : w.params.followText "set-order"
  · exact .inr rfl
  · exact .inl rfl
section
variable {P : Program} {w : World} {A : Around} {E : Value → Shared → Prop} {s : Shared}
theorem setFst_pass {env : Env} {scope : Scope} {cl : List (Str × Addr)} {v d : Addr} {y : Str} {pt pe pc ps : Pos} {kk : Nat} {kvs : List (L2.Key × Value)} {ep : Nat} {xs : List Str} {Q : Value → Shared → Prop} (hh : A.handled = none) (hkind : scope.kind = .function) (hy : scope.names.lookup y = some .local) (hdb : (y == Str.ofString "__debug__") = false)
    (hv : s.heap.IsValuesView v d) (hd : Heap.DictAt (L2.mixKind P w) s.heap d kvs ep) (hx : ∀ (i : Nat) k u, kvs[i]? = some (k, u) → ∃ (t : Addr) (its : Array Value) (x : Str) (tk : Tok), u = Value.ref t ∧ IsTup s.heap t its ∧ its[0]? = some (Value.str x tk) ∧ xs[i]? = some x) (hlen : xs.length = kvs.length) (hlt : kvs.length + 1 < scanBound)
    (k : ∀ D h' tk, s.heap.objs.size ≤ D → SetX P w h' D (uniqS xs) → (∀ b o, s.heap.get? b = some o → h'.get? b = some o) → Q (.ref D) { s with heap := h', toks := tk }) :
    wpAny (model P w) A (pyIter (.ref v)) (ScGoes P w A E env scope cl (.Name y pt) [] (.Subscript (.Name y pe) (.Constant (.int 0) kk pc) ps) none Q) E s := by
  have hdl : d < s.heap.objs.size := by obtain ⟨o, _, ho, _⟩ := hd; exact Heap.lt_size ho
  refine wpAny_pyIter_values hv hd ?_
  refine ⟨_, _, _, _, _, _, rfl, Goes.dictValues (knd := L2.mixKind P w) hh s.heap.objs.size d (Nat.ne_of_lt hdl) kvs ep, ⟨⟨_, Heap.get?_push_size _ rfl, rfl, rfl⟩, ?_⟩, fun D C s₃ hB hDset => ?_⟩
  · obtain ⟨o, es, ho, r⟩ := hd
    exact ⟨o, es, Heap.get?_push_of_some _ ho, r⟩
  · obtain ⟨⟨h₃, tk₃, rfl⟩, old, nD, nC, hDC, hnm⟩ := hB
    have nC' : s.heap.objs.size + 1 ≤ C := by
      have := nC
      rwa [size_push'] at this
    have nD' : s.heap.objs.size + 1 ≤ D := by
      have := nD
      rwa [size_push'] at this
    have kinds : (compEnvC scope cl C env).kindOf y = some .local := lookup_relabel_local hy
    have hp : ((compEnvC scope cl C env).scope.kind == .class || ((compEnvC scope cl C env).scope.kind == .module && (compEnvC scope cl C env).locals != (compEnvC scope cl C env).globals)) = false := by
      show (scope.kind == .class || (scope.kind == .module && _)) = false
      rw [hkind]; rfl
    have offC : ∀ b : Addr, b < s.heap.objs.size → b ≠ C := fun b hb e => by
      subst e
      exact absurd (Nat.lt_of_lt_of_le (Nat.lt_succ_of_lt hb) nC') (Nat.lt_irrefl _)
    have offD : ∀ b : Addr, b < s.heap.objs.size → b ≠ D := fun b hb e => by
      subst e
      exact absurd (Nat.lt_of_lt_of_le (Nat.lt_succ_of_lt hb) nD') (Nat.lt_irrefl _)
    have CI : C ≠ s.heap.objs.size := fun e => by
      rw [e] at nC'
      exact Nat.not_succ_le_self _ nC'
    have DI : D ≠ s.heap.objs.size := fun e => by
      rw [e] at nD'
      exact Nat.not_succ_le_self _ nD'
    refine ⟨fun i s₁ => ∃ h' tk m, s₁ = { s with heap := h', toks := tk } ∧ h'.Ns C m ∧ SetX P w h' D (uniqS (xs.take i)) ∧ ∀ b o, s.heap.get? b = some o → h'.get? b = some o,
      ⟨h₃, tk₃, _, rfl, hnm, setX_fresh w hDset, fun b o e => old b o (Heap.get?_push_of_some _ e)⟩, ?_, ?_, ?_⟩
    · rintro i s₁ h' tk ⟨h₄, tk₄, m, rfl, n₄, x₄, k₄⟩ hk' _
      refine ⟨h', tk, m, rfl, n₄.at' fun o e => hk' _ o (by simpa using CI) e, x₄.at fun o e => hk' _ o (by simpa using DI) e, fun b o e => hk' b o ?_ (k₄ b o e)⟩
      rw [List.mem_singleton]
      exact Nat.ne_of_lt (Heap.lt_size e)
    · rintro i u s₁ hi ⟨kk', hu⟩ st ⟨h₄, tk₄, m, rfl, n₄, x₄, k₄⟩
      obtain ⟨t, its, x, tkx, rfl, hT, hx0, hxi⟩ := hx i kk' u hu
      refine wpAny_assign_Name (wpAny_storeName_local kinds n₄ (fun h₆ n₆ s₆ => ?_) hp)
      refine wpAny_tests_nil ?_
      dsimp only
      rw [if_pos rfl]
      have k6 : ∀ b o, s.heap.get? b = some o → h₆.get? b = some o := fun b o e => (s₆.2 b (offC b (Heap.lt_size e))).trans (k₄ b o e)
      refine Subscript_ (wpAny_Name (wpAny_loadName_local hkind kinds n₆ (if_pos rfl) ?_) hdb)
      refine wpAny_Constant_int ?_
      obtain ⟨oT, hoT, r⟩ := hT
      refine item_tuple ⟨oT, k6 _ _ hoT, r⟩ (by decide) (by decide) (j := 0) ?_ hx0 ?_
      · have hz : 0 < its.size := (Array.getElem?_eq_some_iff.mp hx0).1
        have h2 : (0 : Int) < (its.size : Int) := by omega
        simp [seqIndex?, hz]
      · refine call_setX_add (L := uniqS (xs.take i)) (x₄.at fun o e => (s₆.2 D hDC).trans e) ?_ fun h₇ sb₇ x₇ => ?_
        · have h1 := uniqS_len (xs.take i)
          rw [List.length_take] at h1
          omega
        · refine ⟨⟨h₇, _, _, rfl, n₆.at' fun o e => (sb₇.2 C (Ne.symm hDC)).trans e, ?_, fun b o e => (sb₇.2 b (offD b (Heap.lt_size e))).trans (k6 b o e)⟩, ?_⟩
          · rw [List.take_succ, hxi]
            exact (uniqS_snoc _ _) ▸ x₇
          · obtain ⟨⟨oI, hoI, rI⟩, oD, es, hoD, rD⟩ := st
            have mv : ∀ b o, b ≠ C → b ≠ D → h₄.get? b = some o → h₇.get? b = some o := fun b o e1 e2 e => (sb₇.2 b e2).trans ((s₆.2 b e1).trans e)
            exact ⟨⟨oI, mv _ _ CI.symm DI.symm hoI, rI⟩, oD, es, mv _ _ (offC d hdl) (offD d hdl) hoD, rD⟩
    · rintro s₁ ⟨h₄, tk₄, m, rfl, n₄, x₄, k₄⟩
      refine ⟨m, n₄, fun h' sb => ?_⟩
      refine k D h' tk₄ (Nat.le_of_succ_le nD') ?_ fun b o e => (sb.2 b (offC b (Heap.lt_size e))).trans (k₄ b o e)
      rw [show kvs.length = xs.length from hlen.symm, List.take_length] at x₄
      exact x₄.at fun o e => (sb.2 D hDC).trans e
end
open L2
/-- the view d.values() at v -/
def ViewO (v d : Addr) : HO := .ext fun h => h.IsValuesView v d
/-- a set of just the texts L at a -/
def SetXO (P : Program) (w : World) (a : Addr) (L : List Str) : HO := .ext fun h => SetX P w h a L
def rVals : V → List V → Hp → VK → Prop := fun x xs H Q => ∃ d kvs, x = V.ref d ∧ xs = [] ∧ H d = some (.dK kvs) ∧ ∀ v, H v = none → Q (.ref v) (upd H v (ViewO v d))
def tSetFst (P : Program) (w : World) (K : PySem.W.Frag) (td : TE) : TE := fun σ H Q => td σ H fun x H1 => tyV K "dict" x H1 ∧ rVals x [] H1 fun x2 H2 => ∃ (v d : Addr) (kvs : List (Key × V)) (xs : List Str), x2 = V.ref v ∧ H2 v = some (ViewO v d) ∧ H2 d = some (.dK kvs) ∧
  (∀ (i : Nat) k v, kvs[i]? = some (k, v) → ∃ (t : Addr) (x : Str) (rest : List V), v = V.ref t ∧ H2 t = some (.tup (V.str x :: rest)) ∧ xs[i]? = some x) ∧ xs.length = kvs.length ∧ kvs.length + 1 < scanBound ∧
  ∀ D, H2 D = none → Q (.ref D) (upd H2 D (SetXO P w D (uniqS xs)))
def rSortX (P : Program) (w : World) : List V → Hp → VK → Prop := fun vs H Q => ∃ (a : Addr) (L : List Str), vs = [V.ref a] ∧ H a = some (SetXO P w a L) ∧ ∀ (p : Addr) (L' : List Str), L'.Perm L → H p = none → Q (.ref p) (upd H p (.lst ((L'.mergeSort (PySem.W.dataLe false PyData.str)).map V.str)))
section
variable {X : Cx}
theorem mt_values : MtR X "dict.values" rVals := by
  intro pins s σ H x xs v us Q I rx rs h
  obtain ⟨d, kvs, rfl, rfl, hd, q⟩ := h
  obtain rfl : v = Value.ref d := rx
  cases rs
  obtain ⟨_, hsys, vs, _, hD⟩ := (I.hok d _ hd : ObjOk _ _ _ _ _ (.dK kvs))
  obtain ⟨o, es, ep, ho, hx, hdt, _⟩ := id hD
  refine call_meetsIn F.slot_dict_values hD.typeIs F.entry_dict_values (F.args_dict_values_1 _) (meets_dict_values_raw d hsys) ⟨⟨es, ep, o, ho, hx, hdt⟩, ?_⟩
  have e : (s.heap.push { cls := .type "dict_values", data := .fields #[.ref d] }).get? s.heap.objs.size = some { cls := .type "dict_values", data := .fields #[.ref d] } := Heap.get?_push_size _ rfl
  refine ⟨.ref _, upd H s.heap.objs.size (ViewO s.heap.objs.size d), I.laid (t' := s.toks) (fun b u z => Heap.get?_push_of_some _ z) (Nat.le_refl _) ⟨⟨_, e, rfl, rfl⟩, ⟨_, e⟩, fun h1 h2 z k => ?_⟩, rfl, q _ (I.hok.fresh (Nat.le_refl _))⟩
  obtain ⟨o, h3, h4⟩ := z
  exact ⟨o, k o h3, h4⟩
theorem cr_sortedX (hc : X.calm = true) (hu : X.A.units + 64 < cLine) : CallR X (.builtin "sorted") (rSortX X.prog X.w) := by
  intro pins s σ H vs us Q I r h
  obtain ⟨a, L, rfl, ha, q⟩ := h
  rw [Vals.ref1 r]
  obtain ⟨hS, _⟩ := (I.hok a _ ha : ObjOk _ _ _ _ _ (SetXO X.prog X.w a L))
  refine sorted_setX (I.ok.hd hc) hu hS fun s' p out c L' old hg hos hp hL he hperm => ?_
  obtain ⟨S0, rfl⟩ : ∃ z, z = s' := ⟨_, rfl⟩
  have vals : ∀ (out : List Value) (ys : List Str), PySem.W.EachIs (fun v x => ∃ t, v = Value.str x t) out ys → Vals (ys.map V.str) out := by
    intro out ys z
    induction z with
    | nil => exact .nil
    | cons h t ih =>
      obtain ⟨tk, rfl⟩ := h
      exact .cons ⟨tk, rfl⟩ ih
  have J : Inv X pins σ (upd H p (.lst ((L'.mergeSort (PySem.W.dataLe false PyData.str)).map V.str))) { heap := S0.heap, gens := s.gens, drawn := S0.drawn, toks := S0.toks, os := s.os } := by
    have hl : ((L'.mergeSort (PySem.W.dataLe false PyData.str)).map V.str).length ≤ sizeLine := by
      obtain ⟨o, es, ep, t, _, _, _, _, h1, h2, _⟩ := hS
      rw [List.length_map, List.length_mergeSort, hperm.length_eq, ← h1.length_eq, List.length_map, Array.length_toList]
      exact fits_of_scanBound h2
    have J := I.laid (h' := S0.heap) (a := p) (o := .lst ((L'.mergeSort (PySem.W.dataLe false PyData.str)).map V.str)) (t' := S0.toks) old hp ⟨hl, out, c, vals _ _ he, hL⟩
    exact ⟨J.ok, J.os, J.bare, J.base, J.loc, J.cell, J.free, J.freeC, J.pin, J.hok, J.len⟩
  have e : S0 = { heap := S0.heap, gens := s.gens, drawn := S0.drawn, toks := S0.toks, os := s.os } := by
    rw [← hg, ← hos]
  rw [e]
  exact ⟨.ref p, _, J, rfl, q p L' hperm (I.hok.fresh hp)⟩
theorem kv_at : ∀ {kvs : List (Key × V)} {vs : List (Key × Value)}, KV kvs vs → ∀ {i : Nat} {k : Key} {u : Value}, vs[i]? = some (k, u) → ∃ v, kvs[i]? = some (k, v) ∧ RelV v u
  | _, _, .nil, _, _, _, e => by simp at e
  | (k1, v1) :: _, _, .cons h t, 0, k, u, e => by
    obtain ⟨rfl, rfl⟩ := Prod.mk.inj (Option.some.inj e)
    obtain ⟨h1, h2⟩ := h
    cases h1
    exact ⟨v1, rfl, h2⟩
  | _ :: _, _, .cons h t, i + 1, k, u, e => kv_at t (i := i) e
theorem kv_len : ∀ {kvs : List (Key × V)} {vs : List (Key × Value)}, KV kvs vs → kvs.length = vs.length
  | _, _, .nil => rfl
  | _, _, .cons _ t => congrArg (· + 1) (kv_len t)
theorem pe_setFst (hc : X.calm = true) {e : Expr} {td : TE} {y : Str} {pt pe pc ps ap cp pos : Pos} {scope : Scope} {kk : Nat} (hk : scope.kind = .function) (hl : ∀ z ∈ scope.names, z.2 = .local ∧ scope.names.lookup z.1 = some .local) (hy : scope.names.lookup y = some .local) (hdb : (y == Str.ofString "__debug__") = false) (he : PE X e td)
    (hbase : attributeBase e (Str.ofString "values") X.env (eval e X.env) = eval e X.env := by first | rfl | (intros; rfl)) (hline : (ap.endLine == cp.line) = true := by rfl) (fold : ∀ x, foldedSetIterable (.Call (.Attribute e (Str.ofString "values") ap) [] [] cp) X.env x = pure x := by intro _; rfl) :
    PE X (.SetComp (.Subscript (.Name y pe) (.Constant (.int 0) kk pc) ps) [⟨.Name y pt, .Call (.Attribute e (Str.ofString "values") ap) [] [] cp, [], 0⟩] scope pos) (tSetFst X.prog X.w X.K td) := by
  refine ⟨fun pins s σ H Q I h => ?_⟩
  refine SetComp_goes (cl := cloFrom X.env.cells scope.names []) (closure_ok fun z hz e => ?_) (fun z hz => ?_) hk (fun z hz _ => (hl z hz).2) ?_ fold
  · rw [(hl z hz).1] at e
    cases e
  · rw [(hl z hz).1]
    decide
  refine wpAny_mono ((pe_bm0 F.plainAttrs_dict F.slot_dict_values F.type_dict_values mt_values he hbase hline).run pins s σ H _ I h) (fun u s1 z => ?_) (fun _ _ z => z)
  obtain ⟨x2, H2, I2, ru, v, d, kvs, xs, rfl, hv, hd, hx, hlen, hlt, q⟩ := z
  obtain rfl : u = Value.ref v := ru
  obtain ⟨hview, _⟩ := (I2.hok v _ hv : ObjOk _ _ _ _ _ (ViewO v d))
  obtain ⟨_, hsys, vs, hkv, hD⟩ := (I2.hok d _ hd : ObjOk _ _ _ _ _ (.dK kvs))
  obtain ⟨ep, hDA⟩ := hD.dictAt
  have hlv := kv_len hkv
  refine setFst_pass (xs := xs) (I.ok.hd hc) hk hy hdb hview hDA (fun i k u hu => ?_) (hlen.trans hlv) (by omega) fun D h' tk hD' hS old => ?_
  · obtain ⟨w1, hw, rw1⟩ := kv_at hkv hu
    obtain ⟨t, x, rest, rfl, ht, hxi⟩ := hx i k w1 hw
    obtain rfl : u = Value.ref t := rw1
    obtain ⟨_, its, hvs, hT⟩ := (I2.hok t _ ht : ObjOk _ _ _ _ _ (.tup _))
    cases hvs with
    | cons h1 h2 =>
      obtain ⟨tk, rfl⟩ := h1
      exact ⟨t, _, x, tk, rfl, hT, rfl, hxi⟩
  · obtain ⟨o, es, ep2, t, ho, r⟩ := id hS
    exact ⟨.ref D, upd H2 D (SetXO X.prog X.w D (uniqS xs)), I2.laid (t' := tk) old hD' ⟨hS, ⟨o, ho⟩, fun h1 h2 z k => z.at k⟩, rfl, q D (I2.hok.fresh hD')⟩
end
end KX

set_option Elab.async false
set_option maxRecDepth 100000
set_option maxHeartbeats 2000000
/-! dict displays with ** in them: {**d, k: v}, {**d, **e}. -/
namespace KX
open PySem PySem.Spec PyProof.Rows
section
variable {P : Program} {w : World} {A : Around} {E : Value → Shared → Prop} {s : Shared} {K : Type} [DecidableEq K] {knd : PySem.KeyKind P w K}
theorem wp_dictPut {d : Addr} {kvs : List (K × Value)} {k : K} {key v : Value} {Q : Unit → Shared → Prop} (hk : knd.is k key = true) (h : Heap.DictOf knd s.heap d kvs) (hsz : kvs.length ≤ sizeLine)
    (q : ∀ h', Heap.DictOf knd h' d (stored kvs k v) → Heap.SameBut d s.heap h' → Q () { s with heap := h' }) : wpAny (model P w) A (dictPut d (knd.hash k) key v) Q E s := by
  obtain ⟨o, es, ep, ho, hx, hd, hks, hp, hn⟩ := h
  have hz : es.size ≤ sizeLine := by
    have := hp.length
    rw [Array.length_toList] at this
    omega
  have hob : o = { cls := o.cls, dict := o.dict, data := .dict es ep, slots := o.slots } := by
    obtain ⟨c, di, da, sl⟩ := o
    cases hd
    rfl
  have fi : Array.findIdx? (fun e => knd.is k e.key) es = List.findIdx? (fun kv => decide (kv.1 = k)) kvs := by
    rw [← hp.findIdx k]
    obtain ⟨l⟩ := es
    simp
  unfold dictPut
  refine wpAny_bind (wpAny_dictFind_of hk ho hd hks ?_)
  rw [fi]
  cases hf : List.findIdx? (fun kv => decide (kv.1 = k)) kvs with
  | some i =>
    have hany : (kvs.any fun kv => decide (kv.1 = k)) = true := by
      obtain ⟨hi, hpi, _⟩ := List.findIdx?_eq_some_iff_getElem.mp hf
      exact List.any_eq_true.mpr ⟨_, List.getElem_mem hi, hpi⟩
    refine wpAny_updateDict ho hd (q _ ?_ (Heap.SameBut.update _ _ _)) (Nat.le_of_eq Array.size_modify)
    refine ⟨_, es.modify i fun e => { hash := e.hash, key := e.key, val := v }, ep, Heap.get?_update_self _ ho (by rw [hob]; rfl), ?_, by rw [hob]; rfl, hks.modify i v, ?_, ?_⟩
    · rw [hob]; exact hx
    · have := hp.modify hn ((hp.findIdx k).trans hf) v
      unfold stored
      rw [if_pos hany]
      rw [Array.toList_modify]
      exact this
    · unfold stored
      rw [if_pos hany, List.map_map]
      rw [show (Prod.fst ∘ fun kv : K × Value => if kv.1 = k then (kv.1, v) else kv) = Prod.fst from funext fun kv => by dsimp only [Function.comp]; split <;> rfl]
      exact hn
  | none =>
    have hany : (kvs.any fun kv => decide (kv.1 = k)) = false := by
      rw [List.any_eq_false]
      intro kv hkv
      have := List.findIdx?_eq_none_iff.mp hf kv hkv
      rw [this]
      simp
    refine wpAny_updateDictKeys ho hd (q _ ?_ (Heap.SameBut.update _ _ _)) hz (Nat.le_of_eq (Array.size_push _))
    refine ⟨_, es.push { hash := knd.hash k, key := key, val := v }, ep + 1, Heap.get?_update_self _ ho (by rw [hob]; rfl), ?_, by rw [hob]; rfl, hks.push hk v, ?_, ?_⟩
    · rw [hob]; exact hx
    · unfold stored
      rw [if_neg (by rw [hany]; simp), Array.toList_push]
      exact hp.append hk _ v
    · unfold stored
      rw [if_neg (by rw [hany]; simp), List.map_append]
      refine List.nodup_append.mpr ⟨hn, by simp, ?_⟩
      intro a ha b hb
      rw [List.map_cons, List.map_nil, List.mem_singleton] at hb
      rintro rfl
      obtain ⟨kv, hkv, e⟩ := List.mem_map.mp ha
      have := List.any_eq_false.mp hany kv hkv
      rw [e, hb] at this
      simp at this
theorem pairs_at : ∀ {es : List DictEntry} {kvs : List (K × Value)}, Pairs knd es kvs → ∀ {i : Nat} {e : DictEntry}, es[i]? = some e → ∃ kv, kvs[i]? = some kv ∧ knd.is kv.1 e.key = true ∧ e.val = kv.2
  | _, _, .nil, _, _, h => by simp at h
  | _, _, .cons h1 h2 t, 0, e, h => by
    cases h
    exact ⟨_, rfl, h1, h2⟩
  | _, _, .cons h1 h2 t, i + 1, e, h => pairs_at t (i := i) h
theorem mm_loop {f : Nat → PUnit → Sem (ForInStep PUnit)} {d a : Addr} {kvs more : List (K × Value)} {Q : PUnit → Shared → Prop} {o2 : Obj} {es2 : Array DictEntry} {ep2 : Nat} (hne : d ≠ a) (h : Heap.DictOf knd s.heap d kvs) (hsz : kvs.length + more.length ≤ sizeLine)
    (ho2 : s.heap.get? a = some o2) (hd2 : o2.data = .dict es2 ep2) (hks2 : PySem.KeysOf knd es2) (hp2 : Pairs knd es2.toList more)
    (hf : ∀ (i : Nat) (s1 : Shared) (e : DictEntry) (Q' : ForInStep PUnit → Shared → Prop), es2[i]? = some e → s1.heap.get? a = some o2 → wpAny (model P w) A (dictPut d e.hash e.key e.val) (fun _ s2 => s2.heap.get? a = some o2 ∧ Q' (.yield ⟨⟩) s2) E s1 → wpAny (model P w) A (f i ⟨⟩) Q' E s1)
    (q : ∀ h', Heap.DictOf knd h' d (merged kvs more) → Heap.SameBut d s.heap h' → Q ⟨⟩ { s with heap := h' }) : wpAny (model P w) A (forIn (List.range es2.size) (⟨⟩ : PUnit) f) Q E s := by
  have hlen : es2.size = more.length := by
    have := hp2.length
    rwa [Array.length_toList] at this
  refine wpAny_forIn_list f (fun l b s1 => ∃ i h', i ≤ es2.size ∧ l = (List.range es2.size).drop i ∧ s1 = { s with heap := h' } ∧ Heap.DictOf knd h' d (merged kvs (more.take i)) ∧ Heap.SameBut d s.heap h') Q ?_ ?_ _ _ ⟨0, s.heap, Nat.zero_le _, rfl, rfl, h, Heap.SameBut.refl _ _⟩
  · rintro x rest b s1 ⟨i, h', hi, hl, rfl, hD, hS⟩
    have hlt : i < es2.size := by
      rcases Nat.lt_or_ge i es2.size with h | h
      · exact h
      · rw [List.drop_eq_nil_of_le (by rw [List.length_range]; exact h)] at hl
        cases hl
    rw [List.drop_eq_getElem_cons (by rw [List.length_range]; exact hlt)] at hl
    obtain ⟨hx, hr⟩ := List.cons.inj hl
    rw [List.getElem_range] at hx
    subst hx
    have he : es2[x]? = some es2[x] := Array.getElem?_eq_getElem hlt
    generalize es2[x] = e at he
    have he' : es2.toList[x]? = some e := by rw [Array.getElem?_toList]; exact he
    obtain ⟨kv, hkv, hk1, hk2⟩ := pairs_at hp2 he'
    have hash : e.hash = knd.hash kv.1 := by
      obtain ⟨k', hk', hh⟩ := hks2 e (Array.mem_of_getElem? he)
      rw [hh, knd.inj _ _ _ hk' hk1]
    have ha1 : h'.get? a = some o2 := (hS.2 a (Ne.symm hne)).trans ho2
    refine hf x _ e _ he ha1 ?_
    rw [hash, hk2]
    have hml : (merged kvs (more.take x)).length ≤ sizeLine := by
      have h1 := merged_length_le kvs (more.take x)
      rw [List.length_take] at h1
      omega
    refine wp_dictPut hk1 hD hml fun h2 hD2 hS2 => ⟨(hS2.2 a (Ne.symm hne)).trans ha1, x + 1, h2, hlt, hr, rfl, ?_, hS.trans hS2⟩
    rw [merged_take_succ kvs more x kv hkv]
    exact hD2
  · rintro b s1 ⟨i, h', hi, hl, rfl, hD, hS⟩
    have hge : es2.size ≤ i := by
      rcases Nat.lt_or_ge i es2.size with h | h
      · rw [List.drop_eq_getElem_cons (by rw [List.length_range]; exact h)] at hl
        cases hl
      · exact h
    rw [List.take_of_length_le (by omega)] at hD
    exact q h' hD hS
theorem wp_mergeMapping {d a : Addr} {kvs more : List (K × Value)} {Q : Unit → Shared → Prop} (hne : d ≠ a) (hsys : (a == sysModules) = false) (h : Heap.DictOf knd s.heap d kvs) (h2 : Heap.DictOf knd s.heap a more) (hsz : kvs.length + more.length ≤ sizeLine)
    (q : ∀ h', Heap.DictOf knd h' d (merged kvs more) → Heap.SameBut d s.heap h' → Q () { s with heap := h' }) : wpAny (model P w) A (mergeMapping d (.ref a) false) Q E s := by
  unfold mergeMapping
  obtain ⟨o, es, ep, ho, hx, hd, hks, hp, hn⟩ := id h
  obtain ⟨o2, es2, ep2, ho2, hx2, hd2, hks2, hp2, hn2⟩ := id h2
  have hz2 : es2.size = more.length := by
    have := hp2.length
    rwa [Array.length_toList] at this
  refine wpAny_bind (wpAny_isInstance h2.typeIs (b := true) (by kernel_rfl) ?_)
  rw [if_pos rfl]
  refine wpAny_bind (wpAny_specialOf h2.typeIs (r := some (.builtin "dict.__iter__")) (by rw [typeLookup_type, builtinLookup_eq_fast]; kernel_rfl) ?_)
  refine wpAny_bind (wpAny_pure ?_)
  rw [show (some (Value.builtin "dict.__iter__") == some (Value.builtin "dict.__iter__")) = true from by decide +kernel]
  dsimp only
  rw [if_neg (by rw [hsys]; simp)]
  refine wpAny_bind (wpAny_dictEntries ho hd ?_)
  have body : ∀ (i : Nat) (s1 : Shared) (e : DictEntry), es2[i]? = some e → True := fun _ _ _ _ => trivial
  by_cases c : es.isEmpty = true
  · rw [if_pos c]
    refine wpAny_bind (wpAny_dictEntries ho2 hd2 ?_)
    refine wpAny_bind (wpAny_mono (Q := fun _ s1 => s1 = s) (wpAny_forIn_array' _ (fun l _ s1 => s1 = s ∧ ∀ e ∈ l, carriedByValue e.key = true) _ ?_ (fun _ _ z => z.1) _ _ ⟨rfl, fun e he => ?_⟩) (fun _ s1 z => ?_) (fun _ _ z => z))
    · rintro e rest b s1 ⟨rfl, hl⟩
      have hk := hl e List.mem_cons_self
      have hr : ∀ e ∈ rest, carriedByValue e.key = true := fun e he => hl e (List.mem_cons_of_mem _ he)
      cases hkey : e.key with
      | ref r => rw [hkey] at hk; cases hk
      | _ => exact wpAny_pure ⟨rfl, hr⟩
    · obtain ⟨k, hk, _⟩ := hks2 e (Array.mem_toList_iff.mp he)
      exact knd.byValue k _ hk
    subst z
    refine wpAny_bind (wpAny_dictEntries ho2 hd2 ?_)
    refine wpAny_bind (wpAny_dictEpoch ho2 hd2 ?_)
    refine wpAny_bind (mm_loop hne h hsz ho2 hd2 hks2 hp2 (fun i s1 e Q' he ha hq => ?_) fun h' h1 h2 => wpAny_pure (q h' h1 h2))
    refine wpAny_bind (wpAny_dictEntries ha hd2 ?_)
    rw [he]
    dsimp only
    refine wpAny_bind (wpAny_holding ?_)
    rw [if_neg (by simp)]
    refine wpAny_mono hq (fun _ s2 z => ?_) (fun _ _ z => z)
    refine wpAny_bind (wpAny_dictEpoch z.1 hd2 ?_)
    rw [if_neg (by simp)]
    exact wpAny_pure z.2
  · rw [if_neg c]
    refine wpAny_bind (wpAny_dictEntries ho2 hd2 ?_)
    refine wpAny_bind (wpAny_dictEpoch ho2 hd2 ?_)
    refine wpAny_bind (mm_loop hne h hsz ho2 hd2 hks2 hp2 (fun i s1 e Q' he ha hq => ?_) fun h' h1 h2 => wpAny_pure (q h' h1 h2))
    refine wpAny_bind (wpAny_dictEntries ha hd2 ?_)
    rw [he]
    dsimp only
    refine wpAny_bind (wpAny_holding ?_)
    rw [if_neg (by simp)]
    refine wpAny_mono hq (fun _ s2 z => ?_) (fun _ _ z => z)
    refine wpAny_bind (wpAny_dictEpoch z.1 hd2 ?_)
    rw [if_neg (by simp)]
    exact wpAny_pure z.2
end
open L2
section
variable {X : Cx}
theorem v_merge {pins : List (Addr × Obj)} {σ : List (Option V)} {H : Hp} {s : Shared} {d a : Addr} {kvs more : List (Key × V)} {A : Around} {E : Value → Shared → Prop} {Q : Unit → Shared → Prop} (I : Inv X pins σ H s) (hd : H d = some (.dK kvs)) (ha : H a = some (.dK more)) (hne : d ≠ a) (hsz : kvs.length + more.length ≤ sizeLine)
    (q : ∀ s', Inv X pins σ (upd H d (.dK (mergeK kvs more))) s' → Q () s') : wpAny (model X.prog X.w) A (mergeMapping d (.ref a) false) Q E s := by
  obtain ⟨_, hs1, vs, kv1, D1⟩ := dk_of I.hok hd
  obtain ⟨_, hs2, ws, kv2, D2⟩ := dk_of I.hok ha
  refine wp_mergeMapping (knd := mixKind X.prog X.w) hne hs2 D1 D2 (by rw [← kv1.length, ← kv2.length]; exact hsz) fun h' D' sb => q _ ?_
  refine I.write (x := d) (e := d) (o := .dK (mergeK kvs more)) (t' := s.toks) (by rw [hd]; exact trivial) (.inl rfl) (fun b u hb e => (sb.2 b hb).trans e) ?_ (dk_new (Nat.le_trans (length_mergeK _ _) hsz) hs1 (kv2.merge kv1) D')
  obtain ⟨o, _, _, ho, _⟩ := D'
  exact ⟨o, ho⟩
def tDispMM (t1 t2 : TE) : TE := fun σ H Q => ∀ p, H p = none → t1 σ (upd H p (.dK [])) fun x H1 => ∃ (a : Addr) (kvs : List (Key × V)), x = V.ref a ∧ p ≠ a ∧ H1 p = some (.dK []) ∧ H1 a = some (.dK kvs) ∧
  t2 σ (upd H1 p (.dK (mergeK [] kvs))) fun y H2 => ∃ (b : Addr) (more : List (Key × V)), y = V.ref b ∧ p ≠ b ∧ H2 p = some (.dK (mergeK [] kvs)) ∧ H2 b = some (.dK more) ∧ (mergeK [] kvs).length + more.length ≤ sizeLine ∧ Q (.ref p) (upd H2 p (.dK (mergeK (mergeK [] kvs) more)))
theorem pe_dispMM {e1 e2 : Expr} {t1 t2 : TE} {pos : Pos} (h1 : PE X e1 t1) (h2 : PE X e2 t2) : PE X (.Dict [none, none] [e1, e2] pos) (tDispMM t1 t2) := by
  refine ⟨fun pins s σ H Q I h => ?_⟩
  rw [arm_eval_Dict]
  refine wpAny_bind (wpAny_standAt ?_)
  show wpAny _ _ (dictDisplay [(none, do let x ← eval e1 X.env; standAt pos; pure x), (none, do let x ← eval e2 X.env; standAt pos; pure x)]) _ _ _
  unfold dictDisplay
  simp only [List.forIn_cons, List.forIn_nil]
  refine wpAny_bind (wpAny_bind (wpAny_bind ?_))
  refine wp_if_pos (by rfl) (wpAny_pure ?_)
  dsimp only
  refine wpAny_bind (wpAny_alloc ?_)
  have big := I.big
  have I0 : Inv X pins σ (upd H s.heap.objs.size (.dK [])) { s with heap := s.heap.push { cls := .type "dict", data := .dict #[] } } := I.laid (t' := s.toks) (fun b u z => Heap.get?_push_of_some _ z) (Nat.le_refl _) (dk_empty _ big)
  have nP := I.hok.fresh (Nat.le_refl s.heap.objs.size)
  have h := h _ nP
  refine wpAny_bind (wpAny_holding (wpAny_bind (wpAny_mono (h1.run pins _ σ _ _ I0 h) (fun u s1 z => ?_) (fun _ _ z => z))))
  obtain ⟨x, H1, I1, rx, a, kvs, rfl, hne, hp, ha, h⟩ := z
  obtain rfl : u = Value.ref a := rx
  refine wpAny_bind (wpAny_standAt (wpAny_pure ?_))
  have hl : kvs.length ≤ sizeLine := (dk_of I1.hok ha).1
  refine wpAny_bind (wpAny_onRaise (wpAny_tryCatch (wpAny_onRaise (wpAny_holding (v_merge I1 hp ha hne (by simpa using hl) fun s2 I2 => ?_)))))
  refine wpAny_pure ?_
  dsimp only
  refine wpAny_bind (wpAny_bind ?_)
  refine wp_if_pos (by rfl) (wpAny_pure ?_)
  dsimp only
  refine wpAny_bind (wpAny_pure ?_)
  refine wpAny_bind (wpAny_holding (wpAny_bind (wpAny_mono (h2.run pins _ σ _ _ I2 h) (fun u s3 z => ?_) (fun _ _ z => z))))
  obtain ⟨x, H3, I3, rx, b, more, rfl, hne2, hp2, hb, hsz, h⟩ := z
  obtain rfl : u = Value.ref b := rx
  refine wpAny_bind (wpAny_standAt (wpAny_pure ?_))
  refine wpAny_bind (wpAny_onRaise (wpAny_tryCatch (wpAny_onRaise (wpAny_holding (v_merge I3 hp2 hb hne2 hsz fun s4 I4 => ?_)))))
  refine wpAny_pure ?_
  dsimp only
  refine wpAny_pure ?_
  refine wpAny_bind (wp_if_pos (by rfl) (wpAny_pure ?_))
  dsimp only
  exact wpAny_pure ⟨.ref _, _, I4, rfl, h⟩
def tDispMK (t1 tk tv : TE) : TE := fun σ H Q => ∀ p, H p = none → t1 σ (upd H p (.dK [])) fun x H1 => ∃ (a : Addr) (kvs : List (Key × V)), x = V.ref a ∧ p ≠ a ∧ H1 p = some (.dK []) ∧ H1 a = some (.dK kvs) ∧
  ∀ q, upd H1 p (.dK (mergeK [] kvs)) q = none → tk σ (upd (upd H1 p (.dK (mergeK [] kvs))) q (.dK [])) fun y H2 => tv σ H2 fun z H3 => ∃ k, y = kV k ∧ p ≠ q ∧ H3 p = some (.dK (mergeK [] kvs)) ∧ H3 q = some (.dK []) ∧ (mergeK [] kvs).length + 1 ≤ sizeLine ∧
    Q (.ref p) (upd (upd H3 q (.dK [(k, z)])) p (.dK (mergeK (mergeK [] kvs) [(k, z)])))
theorem pe_dispMK {e1 kx vx : Expr} {t1 tk tv : TE} {pos : Pos} (h1 : PE X e1 t1) (hk : PE X kx tk) (hv : PE X vx tv) : PE X (.Dict [none, some kx] [e1, vx] pos) (tDispMK t1 tk tv) := by
  refine ⟨fun pins s σ H Q I h => ?_⟩
  rw [arm_eval_Dict]
  refine wpAny_bind (wpAny_standAt ?_)
  show wpAny _ _ (dictDisplay [(none, do let x ← eval e1 X.env; standAt pos; pure x), (some (eval kx X.env), do let x ← eval vx X.env; standAt pos; pure x)]) _ _ _
  unfold dictDisplay
  simp only [List.forIn_cons, List.forIn_nil]
  refine wpAny_bind (wpAny_bind (wpAny_bind ?_))
  refine wp_if_pos (by rfl) (wpAny_pure ?_)
  dsimp only
  refine wpAny_bind (wpAny_alloc ?_)
  have big := I.big
  have I0 : Inv X pins σ (upd H s.heap.objs.size (.dK [])) { s with heap := s.heap.push { cls := .type "dict", data := .dict #[] } } := I.laid (t' := s.toks) (fun b u z => Heap.get?_push_of_some _ z) (Nat.le_refl _) (dk_empty _ big)
  have nP := I.hok.fresh (Nat.le_refl s.heap.objs.size)
  have h := h _ nP
  refine wpAny_bind (wpAny_holding (wpAny_bind (wpAny_mono (h1.run pins _ σ _ _ I0 h) (fun u s1 z => ?_) (fun _ _ z => z))))
  obtain ⟨x, H1, I1, rx, a, kvs, rfl, hne, hp, ha, h⟩ := z
  obtain rfl : u = Value.ref a := rx
  refine wpAny_bind (wpAny_standAt (wpAny_pure ?_))
  have hl : kvs.length ≤ sizeLine := (dk_of I1.hok ha).1
  refine wpAny_bind (wpAny_onRaise (wpAny_tryCatch (wpAny_onRaise (wpAny_holding (v_merge I1 hp ha hne (by simpa using hl) fun s2 I2 => ?_)))))
  refine wpAny_pure ?_
  dsimp only
  refine wpAny_bind (wpAny_pure ?_)
  dsimp only
  refine wpAny_pure ?_
  refine wpAny_bind ?_
  dsimp only
  refine wpAny_bind (wpAny_holding (wpAny_subDict_any (by show 1 ≤ 15; decide) ?_))
  have I3 : Inv X pins σ (upd (upd H1 s.heap.objs.size (.dK (mergeK [] kvs))) s2.heap.objs.size (.dK [])) { s2 with heap := s2.heap.push { cls := .type "dict", data := .dict #[] } } := I2.laid (t' := s2.toks) (fun b u z => Heap.get?_push_of_some _ z) (Nat.le_refl _) (dk_empty _ I2.big)
  have h := h _ (I2.hok.fresh (Nat.le_refl s2.heap.objs.size))
  rw [List.nil_append]
  simp only [evalPairs, storeAll, List.forIn_cons, List.forIn_nil]
  refine wpAny_bind (wpAny_mono (hk.run pins _ σ _ _ I3 h) (fun uk s4 z => ?_) (fun _ _ z => z))
  obtain ⟨y, H4, I4, ry, h⟩ := z
  refine wpAny_bind (wpAny_holding (wpAny_bind (wpAny_mono (hv.run pins _ σ _ _ I4 h) (fun uv s5 z => ?_) (fun _ _ z => z))))
  obtain ⟨zz, H5, I5, rz, k, rfl, hpq, hp5, hq5, hsz, h⟩ := z
  refine wpAny_bind (wpAny_standAt (wpAny_pure ?_))
  refine wpAny_bind (wpAny_holding (wpAny_pure (wpAny_pure ?_)))
  simp only [List.forIn_cons, List.forIn_nil]
  refine wpAny_bind (wpAny_bind (d_dictSet I5 hq5 (by show 0 < sizeLine; decide) ry rz fun s6 I6 => wpAny_pure ?_))
  dsimp only
  refine wpAny_pure ?_
  have hp6 : upd H5 s2.heap.objs.size (.dK (putK [] k zz)) s.heap.objs.size = some (.dK (mergeK [] kvs)) := by rw [upd_ne hpq]; exact hp5
  refine wpAny_bind (wpAny_onRaise (wpAny_holding (v_merge I6 hp6 upd_same hpq (by show (mergeK [] kvs).length + 1 ≤ sizeLine; exact hsz) fun s7 I7 => ?_)))
  refine wpAny_pure ?_
  dsimp only
  exact wpAny_pure ⟨.ref _, _, I7, rfl, h⟩
end
end KX

set_option Elab.async false
set_option maxRecDepth 100000
set_option maxHeartbeats 2000000
/-! f"{n:>6}", "c" * n, o[i] = v and o[i] by own methods. -/
namespace KX
open PySem PySem.Spec PySem.Calls PyProof.Rows L2
/-- a number's text, at least n signs wide, to the right -/
def padL (n : Nat) (t : Str) : Str := ⟨(List.replicate (n - t.cps.size) 32 ++ t.cps.toList).toArray⟩
theorem digits_map (n : Nat) : (Nat.toDigits 10 n).map (fun c => Char.toNat (if (100 == 88) = true then Char.toUpper c else c)) = (Nat.toDigits 10 n).map Char.toNat := List.map_congr_left fun c _ => by rw [if_neg (by decide)]
theorem ofString_cps (s : String) : (Str.ofString s).cps.toList = s.toList.map Char.toNat := signs_ofString s
theorem toString_cps (a : Int) : (Str.ofString (toString a)).cps.toList = (if a < 0 then [45] else []) ++ (Nat.toDigits 10 a.natAbs).map Char.toNat := by
  rw [ofString_cps]
  cases a with
  | ofNat n =>
    rw [if_neg (by simp)]
    show (Nat.repr n).toList.map _ = _
    simp [Nat.repr]
  | negSucc n =>
    rw [if_pos (Int.negSucc_lt_zero n)]
    show ("-" ++ Nat.repr (n + 1)).toList.map _ = _
    simp [Nat.repr, String.toList_append]
theorem spec6 (a : Int) : intSpecTextOf (Str.ofString ">6") a = padL 6 (Str.ofString (toString a)) := by
  have hp : Builtin.Float.parseFormatSpec (Str.ofString ">6").cps.toList "int" 62 = .ok ⟨32, 62, none, false, false, some 6, none, none, none⟩ := by rfl
  have hd : (Nat.toDigits 10 a.natAbs).map Char.toNat ≠ [] := fun e => Nat.toDigits_ne_nil (List.map_eq_nil_iff.mp e)
  have hsz : (Str.ofString (toString a)).cps.size = (if a < 0 then 1 else 0) + ((Nat.toDigits 10 a.natAbs).map Char.toNat).length := by
    rw [← Array.length_toList, toString_cps, List.length_append]
    split <;> simp
  unfold padL
  rw [hsz, toString_cps, intSpecTextOf.eq_1, hp]
  dsimp only
  rw [intSpecText.eq_1, digits_map]
  generalize (Nat.toDigits 10 a.natAbs).map Char.toNat = ds at hd
  unfold intField'
  simp
  rw [if_neg hd]
  by_cases c : a < 0
  · rw [if_pos c, if_pos c]
    congr 1
    simp
    omega
  · rw [if_neg c, if_neg c]
    congr 1
    simp
theorem int_fmt6 {P : Program} {w : World} {A : Around} {E : Value → Shared → Prop} {s : Shared} {a : Int} {t t2 : Tok} {Q : Value → Shared → Prop} (hs : a.natAbs.log2 < 1920)
    (q : ∀ u, Q (.str (padL 6 (Str.ofString (toString a))) u) { s with toks := s.toks + 1 }) : wpAny (model P w) A (Builtin.«int.__format__» ⟨[.int a t, .str (Str.ofString ">6") t2], []⟩) (fun fin s' => ∃ v, fin = Fin.done (Flow.ret v) ∧ Q v s') E s := by
  have hp : Builtin.Float.parseFormatSpec (Str.ofString ">6").cps.toList "int" 62 = .ok ⟨32, 62, none, false, false, some 6, none, none, none⟩ := by rfl
  have e : padL 6 (Str.ofString (toString a)) = intSpecText ⟨32, 62, none, false, false, some 6, none, none, none⟩ a := by rw [← spec6, intSpecTextOf.eq_1, hp]
  rw [e] at q
  have hlen : (intSpecText ⟨32, 62, none, false, false, some 6, none, none, none⟩ a).length ≤ sizeLine := by
    rw [intSpecText_length a rfl rfl]
    have h1 : (Nat.toDigits 10 a.natAbs).length ≤ 1921 := by
      refine (Nat.length_toDigits_le_iff (by decide) (by decide)).mpr ?_
      have h2 : a.natAbs < 2 ^ 1920 := by
        by_cases c : a.natAbs = 0
        · rw [c]; exact Nat.two_pow_pos _
        · exact (Nat.log2_lt c).mp hs
      refine Nat.lt_of_lt_of_le h2 (Nat.le_trans (Nat.pow_le_pow_left (by decide : 2 ≤ 10) _) (Nat.pow_le_pow_right (by decide) (by decide)))
    show max 6 _ ≤ 16777216
    split <;> omega
  rw [intSpecText.eq_1] at q hlen
  unfold Builtin.«int.__format__»
  refine wpAny_bind (m := selfAndOne _ _) (wpAny_pure ?_)
  refine wpAny_bind (m := Builtin.Int.intOfSelf _) (wpAny_pure ?_)
  refine wpAny_bind (m := if ((Value.str (Str.ofString ">6") t2) == Value.none) = true then (pure "None" : Sem String) else typeNameOf (Value.str (Str.ofString ">6") t2)) ?_
  refine wp_if_neg (by simp) ?_
  have ty : Shared.TypeIs s (Value.str (Str.ofString ">6") t2) "str" := (rfl : typeOf (Value.str (Str.ofString ">6") t2) = pure (.type "str"))
  refine wpAny_typeNameOf ty (by decide) (fun n => ?_)
  dsimp only
  refine wpAny_bind (m := asStr? _) (wpAny_pure ?_)
  dsimp only
  refine wp_if_neg (by decide +kernel) ?_
  refine wp_if_neg (by decide +kernel) ?_
  refine wpAny_bind (wpAny_typeNameOfCut_int ?_)
  rw [hp]
  dsimp only
  refine wp_if_pos (by decide +kernel) ?_
  refine wpAny_bind (m := Builtin.overDigitLimit? a) ?_
  have ho : Builtin.overDigitLimit? a = pure none := by unfold Builtin.overDigitLimit?; rw [if_pos hs]
  rw [ho]
  refine wpAny_pure ?_
  dsimp only
  refine wpAny_bind (wpAny_mkStr (wpAny_pure ⟨_, rfl, ?_⟩) ?_)
  · exact q _
  · exact hlen
theorem formatField_6 {P : Program} {w : World} {A : Around} {E : Value → Shared → Prop} {s : Shared} {a : Int} {t : Tok} {Q : Value → Shared → Prop} (hs : a.natAbs.log2 < 1920)
    (q : ∀ u tk, Q (.str (padL 6 (Str.ofString (toString a))) u) { s with toks := tk }) : wpAny (model P w) A (formatField (.int a t) (Str.ofString ">6")) Q E s := by
  unfold formatField
  refine wpAny_holding ?_
  unfold pyFormat
  refine wpAny_bind (wpAny_mkStr ?_ (by decide +kernel))
  with_reducible refine wpAny_bind ?_
  with_reducible refine wpAny_callSpecial?_slot (typeIs_int _ _ _) slot_int_format ?_
  with_reducible refine wpAny_call_entry slot_int_format (typeIs_int _ _ _) entry_int_format ?_ (args_int_format _ _)
  with_reducible refine int_fmt6 hs (fun u => ?_)
  dsimp only
  generalize padL 6 (Str.ofString (toString a)) = txt at q
  have sub : isSubtype (.type "str") (.type "str") = pure true := by kernel_rfl
  have ty : ∀ (s : Shared) (u : Tok), Shared.TypeIs s (Value.str txt u) "str" := fun _ _ => rfl
  refine wpAny_bind (wpAny_isInstance (ty _ _) sub ?_)
  refine wp_if_pos rfl ?_
  exact wpAny_pure (q _ _)
def rMulS : V → V → Hp → VK → Prop := fun x y H Q => ∃ (c : Nat) (k : Int), x = V.str ⟨#[c]⟩ ∧ y = V.int k ∧ -16777216 < k ∧ k ≤ 16777216 ∧ Q (.str ⟨(List.replicate k.toNat c).toArray⟩) H
section
variable {X : Cx}
def tFmtP (n : Nat) (te : TE) : TE := fun σ H Q => te σ H fun x H1 => ∃ i : Int, x = V.int i ∧ i.natAbs.log2 < 1920 ∧ Q (.str (padL n (Str.ofString (toString i)))) H1
theorem pe_fmt6 {e : Expr} {te : TE} {p1 p2 pos : Pos} {k : Nat} (he : PE X e te) : PE X (.FormattedValue e (-1) (some (.JoinedStr [.Constant (.str ">6") k p1] p2)) pos) (tFmtP 6 te) := by
  refine ⟨fun pins s σ H Q I h => ?_⟩
  refine wpAny_FormattedValue_spec (wpAny_mono (he.run pins s σ H _ I h) (fun u s1 z => ?_) (fun _ _ z => z))
  obtain ⟨x, H1, I1, rx, i, rfl, hi, q⟩ := z
  obtain ⟨t, rfl⟩ := rx
  have c1 : PE X (.JoinedStr [.Constant (.str ">6") k p1] p2) (fun σ H Q => Q (.str (Str.ofString ">6")) H) := pe_joined1 pe_str
  have c2 := c1.run pins s1 σ H1 (fun x H2 => x = .str (Str.ofString ">6") ∧ H2 = H1) I1 ⟨rfl, rfl⟩
  refine wpAny_mono c2 (fun r s2 z => ?_) (fun _ _ z => z)
  obtain ⟨x2, H2, I2, rx2, e2, rfl⟩ := z
  subst e2
  obtain ⟨t2, rfl⟩ := rx2
  refine ⟨Str.ofString ">6", t2, rfl, ?_⟩
  exact formatField_6 hi fun u tk => ⟨.str _, _, I2.kept (t' := tk) fun _ _ z => z, ⟨_, rfl⟩, q⟩
theorem op_mulS : OpR X (binaryOp .Mult) rMulS := by
  intro pins s σ H x y v u Q I rx ry h
  obtain ⟨c, k, rfl, rfl, h1, h2, q⟩ := h
  obtain ⟨t, rfl⟩ := rx
  obtain ⟨t2, rfl⟩ := ry
  have l1 : Str.length (⟨#[c]⟩ : Str) = 1 := rfl
  have hlim : (decide (k < -2 ^ 63) || decide (k ≥ 2 ^ 63)) = false := by
    rw [decide_eq_false (by omega), decide_eq_false (by omega)]
    rfl
  refine P.mul_str hlim ?_ ?_ ?_
  · intro _ _
    rw [l1]
    have : (0 : Int) < k := by omega
    have h3 : (1 : Int) ≤ (2 ^ 63 - 1) / k := by
      refine (Int.le_ediv_iff_mul_le this).mpr ?_
      omega
    omega
  · intro _ _
    rw [l1, Nat.one_mul]
    unfold Builtin.Str.tooLong
    exact decide_eq_false (by show ¬ k.toNat > 16777216; omega)
  · have e : ∀ n : Nat, (List.foldl (fun x1 x2 => x1 ++ x2) #[] (List.replicate n #[c]) : Array Nat) = (List.replicate n c).toArray := by
      intro n
      have : ∀ (n : Nat) (acc : Array Nat), (List.foldl (fun x1 x2 => x1 ++ x2) acc (List.replicate n #[c]) : Array Nat) = acc ++ (List.replicate n c).toArray := by
        intro n
        induction n with
        | zero => intro acc; simp
        | succ n ih =>
          intro acc
          rw [List.replicate_succ, List.foldl_cons, ih, List.replicate_succ]
          apply Array.ext'
          simp
      rw [this]
      simp
    by_cases c1 : k < 1
    · rw [if_pos c1]
      rw [show k.toNat = 0 by omega] at q
      exact ⟨Nat.zero_le _, .str _, H, I.tok _, ⟨_, rfl⟩, q⟩
    · rw [if_neg c1]
      by_cases c2 : (k == 1 || Str.length (⟨#[c]⟩ : Str) == 0) = true
      · rw [if_pos c2]
        rw [l1] at c2
        have : k = 1 := by simpa using c2
        subst this
        exact ⟨.str _, H, I, ⟨_, rfl⟩, q⟩
      · rw [if_neg c2, e]
        have hl : (⟨(List.replicate k.toNat c).toArray⟩ : Str).length ≤ sizeLine := by
          show (List.replicate k.toNat c).toArray.size ≤ 16777216
          simp
          omega
        exact ⟨hl, .str _, H, I.tok _, ⟨_, rfl⟩, q⟩
variable {CX : CXT} {k : Nat} {f C : Addr} {fd : FuncData} {ps : List Str} {sp : Sp} {E : XK}
/-- o[i] = v -/
theorem set_ownI (m : Meth X.K C "__setitem__" f) (hns : PySem.W.noSeq X.K C = true) (F : FnOk X.prog X.w X.K X.mg X.base CX k f fd ps sp) (hr : Room k X.A) (hb : Binds X.K fd ps []) (hx : Passes CX X E) :
    PSet X (fun o i v H Q => ∃ a, o = .ref a ∧ InsT H a C ∧ sp [.ref a, i, v] H (fun _ H' => Q H') E) := by
  intro pins s σ H o i v ov iv u Q I ro ri rv h
  obtain ⟨a, rfl, hi, q⟩ := h
  cases (show ov = Value.ref a from ro)
  obtain ⟨ox, od, J⟩ := insT_at I hi
  obtain ⟨m', fr⟩ := I.fr
  refine PySem.W.ksp_setItem fr I.mod.kin J hns m.at_ m.fn (wpAny_mono (run_in0 F hr hb hx I (us := [.ref a, iv, u]) (vs := [.ref a, i, v]) (.cons rfl (.cons ri (.cons rv .nil))) q) (fun u s' z => ?_) fun _ _ z => z)
  obtain ⟨v', H', I', rv, q'⟩ := z
  exact ⟨H', I', q'⟩
end
end KX

set_option Elab.async false
set_option maxRecDepth 100000
set_option maxHeartbeats 2000000
/-! Boards as lists of rows (row, list, place), in the order in which they came. -/
namespace K86
open PySem PySem.Spec PyProof.Rows L2 He KX
theorem pr_imp {α β : Type} {R S : α → β → Prop} (f : ∀ a b, R a b → S a b) : ∀ {xs : List α} {ys : List β}, Paired R xs ys → Paired S xs ys
  | _, _, .nil => .nil
  | _, _, .cons h t => .cons (f _ _ h) (pr_imp f t)
theorem pr_app {α β : Type} {R : α → β → Prop} : ∀ {xs us : List α} {ys vs : List β}, Paired R xs ys → Paired R us vs → Paired R (xs ++ us) (ys ++ vs)
  | _, _, _, _, .nil, h => h
  | _, _, _, _, .cons h t, g => .cons h (pr_app t g)
abbrev Rw := Str × Str × Int
def putR (rows : List Rw) (r l : Str) (p : Int) : List Rw := if (rows.any fun x => decide (x.1 = r)) = true then rows.map (fun x => if x.1 = r then (x.1, l, p) else x) else rows ++ [(r, l, p)]
def dropR (rows : List Rw) (r : Str) : List Rw := rows.filter fun x => decide (x.1 ≠ r)
structure Ent (H : Hp) (kv : Key × V) (x : Rw) : Prop where
  k : kv.1 = .inr x.1
  v : ∃ t, kv.2 = V.ref t ∧ H t = some (.tup [V.str x.2.1, V.int x.2.2])
abbrev Ents (H : Hp) (kvs : List (Key × V)) (rows : List Rw) : Prop := Paired (Ent H) kvs rows
theorem Ent.same {H G : Hp} {kv : Key × V} {x : Rw} (h : Ent H kv x) (s : Same H G) : Ent G kv x := ⟨h.k, h.v.imp fun t h => ⟨h.1, s _ _ h.2⟩⟩
theorem Ent.kept {a : Addr} {H G : Hp} {kv : Key × V} {x : Rw} (h : Ent H kv x) (s : Kept a H G) (hn : ∀ zs, H a ≠ some (.tup zs)) : Ent G kv x :=
  ⟨h.k, h.v.imp fun t h => ⟨h.1, s _ _ (fun e => hn _ (e ▸ h.2)) h.2⟩⟩
theorem Ents.len {H : Hp} {kvs : List (Key × V)} {rows : List Rw} (h : Ents H kvs rows) : kvs.length = rows.length := Paired.length h
theorem Ents.keys {H : Hp} : ∀ {kvs : List (Key × V)} {rows : List Rw}, Ents H kvs rows → kvs.map (·.1) = rows.map fun x => (Sum.inr x.1 : Key)
  | _, _, .nil => rfl
  | _, _, .cons h t => by rw [List.map_cons, List.map_cons, h.k, Ents.keys t]
theorem Ents.any {H : Hp} (r : Str) : ∀ {kvs : List (Key × V)} {rows : List Rw}, Ents H kvs rows → (kvs.any fun kv => decide (kv.1 = (Sum.inr r : Key))) = rows.any fun x => decide (x.1 = r)
  | _, _, .nil => rfl
  | _, _, .cons h t => by
    rw [List.any_cons, List.any_cons, h.k, Ents.any r t]
    congr 1
    exact decide_eq_decide.mpr ⟨fun e => Sum.inr.inj e, fun e => congrArg _ e⟩
theorem Ents.repl {H : Hp} {r l : Str} {p : Int} {t : Addr} (ht : H t = some (.tup [V.str l, V.int p])) : ∀ {kvs : List (Key × V)} {rows : List Rw}, Ents H kvs rows →
    Ents H (kvs.map fun kv => if kv.1 = (Sum.inr r : Key) then (kv.1, V.ref t) else kv) (rows.map fun x => if x.1 = r then (x.1, l, p) else x)
  | _, _, .nil => .nil
  | kv :: _, x :: _, .cons h t' => by
    refine .cons ?_ (Ents.repl ht t')
    dsimp only
    by_cases e : x.1 = r
    · rw [if_pos e, if_pos (h.k.trans (congrArg _ e))]
      exact ⟨h.k, t, rfl, ht⟩
    · rw [if_neg e, if_neg fun z => e (Sum.inr.inj (h.k.symm.trans z))]
      exact h
theorem Ents.put {H : Hp} {kvs : List (Key × V)} {rows : List Rw} (h : Ents H kvs rows) {r l : Str} {p : Int} {t : Addr} (ht : H t = some (.tup [V.str l, V.int p])) : Ents H (putK kvs (.inr r) (V.ref t)) (putR rows r l p) := by
  unfold putK putR
  rw [h.any r]
  split
  · exact h.repl ht
  · exact pr_app h (.cons ⟨rfl, t, rfl, ht⟩ .nil)
theorem putR_len (rows : List Rw) (r l : Str) (p : Int) : (putR rows r l p).length ≤ rows.length + 1 := by
  unfold putR
  split
  · rw [List.length_map]; omega
  · rw [List.length_append]; exact Nat.le_refl _
theorem putR_names (rows : List Rw) (r l : Str) (p : Int) (h : (rows.map (·.1)).Nodup) : ((putR rows r l p).map (·.1)).Nodup := by
  unfold putR
  split
  · rw [List.map_map]
    rw [show ((fun x : Rw => x.1) ∘ fun x => if x.1 = r then (x.1, l, p) else x) = fun x => x.1 from funext fun x => by dsimp only [Function.comp]; split <;> rfl]
    exact h
  · rename_i hn
    rw [List.map_append]
    refine List.nodup_append.mpr ⟨h, by simp, ?_⟩
    intro a ha b hb
    rw [List.map_cons, List.map_nil, List.mem_singleton] at hb
    rintro rfl
    obtain ⟨x, hx, e⟩ := List.mem_map.mp ha
    exact hn (List.any_eq_true.mpr ⟨x, hx, decide_eq_true (e.trans hb)⟩)
theorem mergeK_nil {kvs : List (Key × V)} (h : (kvs.map (·.1)).Nodup) : mergeK [] kvs = kvs := by
  have : ∀ (kvs acc : List (Key × V)), ((acc ++ kvs).map (·.1)).Nodup → mergeK acc kvs = acc ++ kvs := by
    intro kvs
    induction kvs with
    | nil => intro acc _; simp [mergeK]
    | cons kv r ih =>
      intro acc hn
      unfold mergeK
      rw [List.foldl_cons]
      have hnot : (acc.any fun x => decide (x.1 = kv.1)) = false := by
        rw [List.any_eq_false]
        intro x hx
        rw [List.map_append, List.nodup_append] at hn
        have := hn.2.2 x.1 (List.mem_map_of_mem hx) kv.1 (by simp)
        simpa using this
      have e : putK acc kv.1 kv.2 = acc ++ [kv] := by
        unfold putK
        rw [hnot]
        rfl
      rw [e]
      have := ih (acc ++ [kv]) (by rw [List.append_assoc]; exact hn)
      unfold mergeK at this
      rw [this, List.append_assoc]
      rfl
  have := this kvs [] (by simpa using h)
  simpa using this
theorem keys_nodup {H : Hp} {kvs : List (Key × V)} {rows : List Rw} (h : Ents H kvs rows) (hn : (rows.map (·.1)).Nodup) : (kvs.map (·.1)).Nodup := by
  rw [h.keys]
  have : (rows.map fun x => (Sum.inr x.1 : Key)) = (rows.map (·.1)).map Sum.inr := by rw [List.map_map]; rfl
  rw [this]
  exact List.Pairwise.map _ (fun a b h e => h (Sum.inr.inj e)) hn
/-- a board -/
def BdAt (K : PySem.W.Frag) (H : Hp) (a : Addr) (rows : List Rw) : Prop :=
  ∃ dx d kvs, H a = some (.ins (ga K "Board") dx [("_spots", V.ref d)]) ∧ H d = some (.dK kvs) ∧ Ents H kvs rows ∧ (rows.map (·.1)).Nodup
/-- a dict of rows -/
def MdAt (H : Hp) (d : Addr) (rows : List Rw) : Prop := ∃ kvs, H d = some (.dK kvs) ∧ Ents H kvs rows ∧ (rows.map (·.1)).Nodup
theorem BdAt.same {K : PySem.W.Frag} {H G : Hp} {a : Addr} {rows : List Rw} (h : BdAt K H a rows) (s : Same H G) : BdAt K G a rows := by
  obtain ⟨dx, d, kvs, h1, h2, h3, h4⟩ := h
  exact ⟨dx, d, kvs, s _ _ h1, s _ _ h2, pr_imp (fun _ _ z => z.same s) h3, h4⟩
theorem BdAt.kept {K : PySem.W.Frag} {H G : Hp} {a b : Addr} {rows : List Rw} (h : BdAt K H a rows) (s : Kept b H G) (hab : a ≠ b) (hn : ∀ zs, H b ≠ some (.tup zs)) (hd : ∀ kvs, H b ≠ some (.dK kvs)) : BdAt K G a rows := by
  obtain ⟨dx, d, kvs, h1, h2, h3, h4⟩ := h
  exact ⟨dx, d, kvs, s _ _ hab h1, s _ _ (fun e => hd _ (e ▸ h2)) h2, pr_imp (fun _ _ z => z.kept s hn) h3, h4⟩
theorem MdAt.kept {H G : Hp} {d b : Addr} {rows : List Rw} (h : MdAt H d rows) (s : Kept b H G) (hab : d ≠ b) (hn : ∀ zs, H b ≠ some (.tup zs)) : MdAt G d rows := by
  obtain ⟨kvs, h2, h3, h4⟩ := h
  exact ⟨kvs, s _ _ hab h2, pr_imp (fun _ _ z => z.kept s hn) h3, h4⟩
end K86

set_option Elab.async false
set_option maxRecDepth 100000
set_option maxHeartbeats 2000000
namespace K86
open PySem PySem.Spec PyProof.Rows L2 He KX
abbrev sBI : Stmt := inClass (top 13) 0
abbrev sBSet : Stmt := inClass (top 13) 2
abbrev sBHas : Stmt := inClass (top 13) 4
abbrev sBDrop : Stmt := inClass (top 13) 8
abbrev sBNames : Stmt := inClass (top 13) 11
abbrev sBShow : Stmt := inClass (top 13) 16
abbrev sBPairs : Stmt := inClass (top 13) 18
abbrev MtP (K : PySem.W.Frag) (x q : Str) (st : Stmt) (f : Addr) (fd : FuncData) : Prop := FunD K x q (defArgs st) (defBody st) (defScope st) [] [] f fd
structure Brd (K : PySem.W.Frag) : Prop where
  made : Mk K (ga K "Board") (ma K (ga K "Board") "__init__")
  cls : Cls K (ga K "Board")
  noat : NoAttr K (ga K "Board") "_spots"
  mth : ∀ m ∈ meths, Meth K (ga K "Board") m (ma K (ga K "Board") m)
  nos : PySem.W.noSeq K (ga K "Board") = true
theorem yes {b : Bool} {A B : Prop} (h : b = true) (a : A) : if b = true then A else B := by rw [if_pos h]; exact a
theorem no {b : Bool} {A B : Prop} (h : b = false) (a : B) : if b = true then A else B := by rw [if_neg (by rw [h]; decide)]; exact a
/-- a statement that is never reached -/
theorem ps_never {X : Cx} {st : Stmt} : PS X st (fun _ _ _ => False) := ⟨fun _ _ _ _ _ _ h => h.elim⟩
def spBI (K : PySem.W.Frag) : Sp := fun vs H Q _ => ∃ (a dx : Addr), vs = [.ref a] ∧ H a = some (.ins (ga K "Board") dx []) ∧ ∀ d, H d = none → Q .non (upd (upd H d (.dK [])) a (.ins (ga K "Board") dx [("_spots", V.ref d)]))
/-- the board's dict is a new one -/
def BdNew (K : PySem.W.Frag) (H H' : Hp) (a : Addr) : Prop := ∀ dx d, H' a = some (.ins (ga K "Board") dx [("_spots", V.ref d)]) → H d = none
theorem free_same {H G : Hp} (s : Same H G) {p : Addr} (h : G p = none) : H p = none := by
  cases e : H p with
  | none => rfl
  | some o => rw [s _ _ e] at h; cases h
def spSet (K : PySem.W.Frag) : Sp := fun vs H Q _ => ∃ (a t : Addr) (rows : List Rw) (r l : Str) (p : Int), vs = [.ref a, .ref t, .str r] ∧ BdAt K H a rows ∧ SqT K H t [.str l, .int p] ∧ isNm r = true ∧ isNm l = true ∧ rows.length ≤ 1000 ∧ ∀ H', Kept a H H' → BdAt K H' a (putR rows r l p) → BdNew K H H' a → Q .non H'
section
variable {P : Program} {w : World} {K : PySem.W.Frag} {mg : Str → Option Value} {base : Heap}
theorem scBI : FnScope ["self"] ["self"] (defScope sBI) := ⟨rfl, rfl, rfl, by decide +kernel, rfl, by decide +kernel, by decide +kernel⟩
theorem ok_bi {f : Addr} {fd : FuncData} (F : FunD K "__init__" "Board.__init__" (defArgs sBI) (defBody sBI) (defScope sBI) [] [] f fd) (S : Brd K) : FnOk P w K mg base CX0 1 f fd ["self"] (spBI K) := by
  refine F.ok scBI (fun vs H Q E h => ?_) (fun cdv A outer s H vs Q E hr h => ?_)
  · obtain ⟨a, dx, rfl, _⟩ := h
    rfl
  · obtain ⟨a, dx, rfl, ha, k⟩ := h
    refine ⟨_, PSs.nox (pss_one (ps_fld (pv 0) (pe_dnewK) rfl)), ?_⟩
    intro d nd
    refine ⟨_, rfl, a, _, dx, [], rfl, same_put nd _ _ ha, S.cls, S.noat, by decide, k d nd⟩
theorem scBSet : FnScope ["self", "at", "worth", "lst", "place"] ["self", "at", "worth"] (defScope sBSet) := ⟨rfl, rfl, rfl, by decide +kernel, rfl, by decide +kernel, by decide +kernel⟩
theorem ok_bset {f fN fI : Addr} {fd fdN fdI : FuncData} (F : MtP K "__setitem__" "Board.__setitem__" sBSet f fd) (S : Brd K)
    (GN : FnOk P w K mg base CX0 1 fN fdN ["thing"] (spName K)) (bN : Binds K fdN ["thing"] []) (kN : PySem.W.keepIn K (.ref fN) = true) (gN : mg "is_name" = some (.ref fN))
    (GI : FnOk P w K mg base CX0 1 fI fdI ["thing"] (spInt K)) (bI : Binds K fdI ["thing"] []) (kI : PySem.W.keepIn K (.ref fI) = true) (gI : mg "is_integer" = some (.ref fI)) : FnOk P w K mg base CX0 2 f fd ["self", "at", "worth"] (spSet K) := by
  refine F.ok scBSet (fun vs H Q E h => ?_) (fun cdv A outer s H vs Q E hr h => ?_)
  · obtain ⟨a, t, rows, r, l, p, rfl, _⟩ := h
    rfl
  · obtain ⟨a, t, rows, r, l, p, rfl, hB, hT, hr', hl', hlen, k⟩ := h
    have nd := scBSet.nd
    have hr1 := hr.mono (j := 1) (by decide)
    have hnr := nm_inv hr'
    have hnl := nm_inv hl'
    refine ⟨_, PSs.nox (pss_cons (ps_asg (pv 1) (pg_tup rfl (pgs_cons (pg_name (i := 3) nd rfl (Or.inl rfl)) (pgs_cons (pg_name (i := 4) nd rfl (Or.inl rfl)) pgs_nil))))
(pss_cons (ps_if (pt_not (pt_val (pe_call GN hr1 (by rfl) gN kN bN .nil pass0 (pa_cons (pv 3) pa_nil))))
(pss_one (ps_never))
pss_nil)
(pss_cons (ps_if (pt_not (pt_val (pe_call GI hr1 (by rfl) gI kI bI .nil pass0 (pa_cons (pv 4) pa_nil))))
(pss_one (ps_never))
pss_nil)
(pss_cons (ps_if (pt_not (pt_val (pe_call GN hr1 (by rfl) gN kN bN .nil pass0 (pa_cons (pv 2) pa_nil))))
(pss_one (ps_never))
pss_nil)
(pss_one (ps_fld (pv 0) (pe_dispMK (pe_fld (pv 0) rfl) (pv 2) (pe_tup (pa_cons (pv 3) (pa_cons (pv 4) pa_nil)))) rfl)))))), ?_⟩
    refine ⟨_, rfl, _, _, rfl, hT, rfl, _, _, rfl, _, _, rfl, rfl, ?_⟩
    dsimp only [gName, List.set]
    refine ⟨_, rfl, _, .str l, rfl, .str l, fun z e => ?_, fun H1 s1 => ⟨_, rfl, ?_⟩⟩
    · cases e
      omega
    rw [show nmD (.str l) = true from hl']
    refine no rfl ?_
    refine ⟨_, rfl, _, .int p, rfl, .int p, _, rfl, no rfl ?_⟩
    refine ⟨_, rfl, _, .str r, rfl, .str r, fun z e => ?_, fun H2 s2 => ⟨_, rfl, ?_⟩⟩
    · cases e
      omega
    rw [show nmD (.str r) = true from hr']
    refine no rfl ?_
    obtain ⟨dx, d, kvs, ha, hd, hE, hN⟩ := hB.same (s1.trans s2)
    have hml := mergeK_nil (keys_nodup hE hN)
    refine fun p1 np1 => ⟨_, rfl, a, _, dx, _, _, rfl, same_put np1 _ _ ha, S.cls, S.noat, rfl, d, kvs, rfl, fun e => ?_, upd_same, same_put np1 _ _ hd, fun q nq => ?_⟩
    · exact absurd (e ▸ np1) (by rw [hd]; simp)
    rw [hml] at nq ⊢
    have g1 : Same H2 (upd (upd H2 p1 (.dK [])) p1 (.dK kvs)) := fun x o e => by
      have hx : x ≠ p1 := ne_of_none e np1
      rw [upd_ne hx, upd_ne hx]
      exact e
    have gp : upd (upd H2 p1 (.dK [])) p1 (.dK kvs) p1 = some (.dK kvs) := upd_same
    generalize upd (upd H2 p1 (.dK [])) p1 (.dK kvs) = G1 at nq g1 gp ⊢
    have hpq : p1 ≠ q := ne_of_none gp nq
    have g2 := same_put (o := .dK []) nq
    have gq : upd G1 q (.dK []) q = some (.dK []) := upd_same
    refine ⟨_, rfl, _, rfl, _, rfl, (by show 2 ≤ sizeLine; decide), fun T nT => ?_⟩
    have g3 := same_put (o := .tup [V.str l, V.int p]) nT
    have gT : upd (upd G1 q (.dK [])) T (.tup [V.str l, V.int p]) T = some (.tup [V.str l, V.int p]) := upd_same
    have gp3 := g3 _ _ (g2 _ _ gp)
    have gq3 := g3 _ _ gq
    have g13 : Same H2 (upd (upd G1 q (.dK [])) T (.tup [V.str l, V.int p])) := (g1.trans g2).trans g3
    have nTp : p1 ≠ T := ne_of_none (g2 _ _ gp) nT
    have nTq : q ≠ T := ne_of_none gq nT
    generalize upd (upd G1 q (.dK [])) T (.tup [V.str l, V.int p]) = G3 at g13 gT gp3 gq3
    have nap : a ≠ p1 := fun e => by rw [e] at ha; rw [ha] at np1; cases np1
    have haq : a ≠ q := fun e => by rw [← e] at nq; rw [g1 _ _ ha] at nq; cases nq
    have haT : a ≠ T := fun e => by
      have := g2 _ _ (g1 _ _ ha)
      rw [e, nT] at this
      cases this
    have hlen2 : kvs.length + 1 ≤ sizeLine := by rw [hE.len, sizeLine_eq]; omega
    refine ⟨.inr r, rfl, hpq, gp3, gq3, hlen2, _, rfl, a, _, dx, [("_spots", V.ref d)], rfl, ?_, S.cls, S.noat, (by show 1 < 1000; decide), ?_⟩
    · rw [upd_ne nap, upd_ne haq]
      exact g13 _ _ ha
    have kF : Kept a H2 (upd (upd (upd G3 q (.dK [(.inr r, V.ref T)])) p1 (.dK (mergeK kvs [(.inr r, V.ref T)]))) a (.ins (ga K "Board") dx [("_spots", V.ref p1)])) := fun x o nx e => by
      have h1 : x ≠ p1 := ne_of_none e np1
      have h2 : x ≠ q := ne_of_none (g1 _ _ e) nq
      rw [upd_ne nx, upd_ne h1, upd_ne h2]
      exact g13 _ _ e
    refine k _ (fun x o nx e => kF x o nx ((s1.trans s2) x o e)) ?_ (fun dx' d' e => ?_)
    rotate_left
    · rw [upd_same] at e
      cases e
      exact free_same (s1.trans s2) np1
    refine ⟨dx, p1, putK kvs (.inr r) (V.ref T), upd_same, ?_, ?_, putR_names rows r l p hN⟩
    · rw [upd_ne nap.symm, upd_same]
      rfl
    · have hn : ∀ zs, H2 a ≠ some (.tup zs) := fun zs e => by
        rw [ha] at e
        cases e
      refine Ents.put (pr_imp (fun _ _ z => z.kept kF hn) hE) ?_
      rw [upd_ne haT.symm, upd_ne nTp.symm, upd_ne nTq.symm]
      exact gT
end
end K86

set_option Elab.async false
set_option maxRecDepth 100000
set_option maxHeartbeats 1000000
/-! List comprehensions whose items are told one by one. -/
namespace KX
open PySem PySem.Spec PyProof.Rows L2
theorem take_fm {α β : Type} {f : α → Option β} {xs : List α} {i : Nat} {x : α} (e : xs[i]? = some x) : (xs.take (i + 1)).filterMap f = (xs.take i).filterMap f ++ (f x).toList := by
  rw [List.take_succ, e, List.filterMap_append]
  show _ ++ List.filterMap f [x] = _
  rw [List.filterMap_cons]
  cases f x <;> rfl
section
variable {K : PySem.W.Frag} {a D : Addr} {σ : L2.St} {vs : List Nat} {g : TG} {tt : TT} {te : TE} {H1 : Hp} {Qd : Hp → Prop}
theorem lc_walk {J : It} {xs : List V} (w : Walk J xs.length (fun H => Same H1 H) (YAt xs)) (nD : H1 D = none) (hn : xs.length ≤ 100000) (f : V → Option V)
    (hs : ∀ (i : Nat) (x : V) (G : Hp) (Qy : V → Hp → Prop) (Qn : Hp → Prop), xs[i]? = some x → Same H1 G → (∀ y H4, f x = some y → Same G H4 → Qy y H4) → (∀ H4, f x = none → Same G H4 → Qn H4) →
      g x (wipe σ vs) G fun σ2 H2 => wipe σ2 vs = wipe σ vs ∧ tt σ2 H2 fun b H3 => if b = true then te σ2 H3 Qy else Qn H3)
    (hd : ∀ G, Same H1 G → G D = some (.lst (xs.filterMap f)) → Qd G) :
    ∃ W : Nat → Nat → Hp → Prop, (∃ m, W 0 m (upd H1 D (.lst []))) ∧ ∀ i m H, W i m H →
      (J.stop i H ∧ Qd H) ∨ (J.go i H ∧ ∃ Nx : Hp → Prop, (∀ H', Nx H' → ∃ m', m' < m ∧ W (i + 1) m' H') ∧ ∀ x H', J.yld i H x H' → g x (wipe σ vs) H' fun σ2 H2 => wipe σ2 vs = wipe σ vs ∧ tt σ2 H2 fun b H3 =>
        if b = true then te σ2 H3 fun y H4 => ∃ acc, H4 D = some (.lst acc) ∧ acc.length < sizeLine ∧ Nx (upd H4 D (.lst (acc ++ [y]))) else Nx H3) := by
  refine lc_it w (fun i G => G D = some (.lst ((xs.take i).filterMap f)) ∧ Same H1 G) ⟨upd_same, same_put nD⟩ (fun _ _ _ h => h.2) ?_ ?_
  · rintro i x G' G hi ⟨hD, sG⟩ ⟨rfl, hx⟩
    have hl : ((xs.take i).filterMap f).length ≤ i := Nat.le_trans (List.length_filterMap_le _ _) (by rw [List.length_take]; omega)
    refine hs i x G _ _ hx sG (fun y H4 e s => ⟨_, s _ _ hD, (by rw [sizeLine_eq]; omega), ?_, fun u o eu => ?_⟩) (fun H4 e s => ⟨?_, sG.trans s⟩)
    · rw [upd_same, take_fm hx, e]
      rfl
    · rw [upd_ne (ne_of_none eu nD)]
      exact s _ _ (sG _ _ eu)
    · rw [take_fm hx, e]
      show H4 D = some (.lst (_ ++ []))
      rw [List.append_nil]
      exact s _ _ hD
  · rintro G ⟨hD, sG⟩
    rw [List.take_length] at hD
    exact hd G sG hD
theorem lcL {xs : List V} (ha : SqL K H1 a xs) (nD : H1 D = none) (hn : xs.length ≤ 100000) (f : V → Option V)
    (hs : ∀ (i : Nat) (x : V) (G : Hp) (Qy : V → Hp → Prop) (Qn : Hp → Prop), xs[i]? = some x → Same H1 G → (∀ y H4, f x = some y → Same G H4 → Qy y H4) → (∀ H4, f x = none → Same G H4 → Qn H4) →
      g x (wipe σ vs) G fun σ2 H2 => wipe σ2 vs = wipe σ vs ∧ tt σ2 H2 fun b H3 => if b = true then te σ2 H3 Qy else Qn H3)
    (hd : ∀ G, Same H1 G → G D = some (.lst (xs.filterMap f)) → Qd G) :
    ∃ W : Nat → Nat → Hp → Prop, (∃ m, W 0 m (upd H1 D (.lst []))) ∧ ∀ i m H, W i m H →
      ((Itl K a).stop i H ∧ Qd H) ∨ ((Itl K a).go i H ∧ ∃ Nx : Hp → Prop, (∀ H', Nx H' → ∃ m', m' < m ∧ W (i + 1) m' H') ∧ ∀ x H', (Itl K a).yld i H x H' → g x (wipe σ vs) H' fun σ2 H2 => wipe σ2 vs = wipe σ vs ∧ tt σ2 H2 fun b H3 =>
        if b = true then te σ2 H3 fun y H4 => ∃ acc, H4 D = some (.lst acc) ∧ acc.length < sizeLine ∧ Nx (upd H4 D (.lst (acc ++ [y]))) else Nx H3) :=
  lc_walk ((walk_list (K := K) (a := a) (xs := xs)).mono (fun H s => sqL_same s ha) fun _ _ _ _ _ _ y => y) nD hn f hs hd
theorem lcT {xs : List V} (ha : SqT K H1 a xs) (nD : H1 D = none) (hn : xs.length ≤ 100000) (f : V → Option V)
    (hs : ∀ (i : Nat) (x : V) (G : Hp) (Qy : V → Hp → Prop) (Qn : Hp → Prop), xs[i]? = some x → Same H1 G → (∀ y H4, f x = some y → Same G H4 → Qy y H4) → (∀ H4, f x = none → Same G H4 → Qn H4) →
      g x (wipe σ vs) G fun σ2 H2 => wipe σ2 vs = wipe σ vs ∧ tt σ2 H2 fun b H3 => if b = true then te σ2 H3 Qy else Qn H3)
    (hd : ∀ G, Same H1 G → G D = some (.lst (xs.filterMap f)) → Qd G) :
    ∃ W : Nat → Nat → Hp → Prop, (∃ m, W 0 m (upd H1 D (.lst []))) ∧ ∀ i m H, W i m H →
      ((Itt K a).stop i H ∧ Qd H) ∨ ((Itt K a).go i H ∧ ∃ Nx : Hp → Prop, (∀ H', Nx H' → ∃ m', m' < m ∧ W (i + 1) m' H') ∧ ∀ x H', (Itt K a).yld i H x H' → g x (wipe σ vs) H' fun σ2 H2 => wipe σ2 vs = wipe σ vs ∧ tt σ2 H2 fun b H3 =>
        if b = true then te σ2 H3 fun y H4 => ∃ acc, H4 D = some (.lst acc) ∧ acc.length < sizeLine ∧ Nx (upd H4 D (.lst (acc ++ [y]))) else Nx H3) :=
  lc_walk ((walk_tup (K := K) (a := a) (xs := xs)).mono (fun H s => sqT_same s ha) fun _ _ _ _ _ _ y => y) nD hn f hs hd
/-- over a list of whole numbers -/
theorem lcI {ns : List Int} (ha : SqL K H1 a (ns.map V.int)) (nD : H1 D = none) (hn : ns.length ≤ 100000) (f : Int → Option V)
    (hs : ∀ (i : Nat) (x : Int) (G : Hp) (Qy : V → Hp → Prop) (Qn : Hp → Prop), ns[i]? = some x → Same H1 G → (∀ y H4, f x = some y → Same G H4 → Qy y H4) → (∀ H4, f x = none → Same G H4 → Qn H4) →
      g (.int x) (wipe σ vs) G fun σ2 H2 => wipe σ2 vs = wipe σ vs ∧ tt σ2 H2 fun b H3 => if b = true then te σ2 H3 Qy else Qn H3)
    (hd : ∀ G, Same H1 G → G D = some (.lst (ns.filterMap f)) → Qd G) :
    ∃ W : Nat → Nat → Hp → Prop, (∃ m, W 0 m (upd H1 D (.lst []))) ∧ ∀ i m H, W i m H →
      ((Itl K a).stop i H ∧ Qd H) ∨ ((Itl K a).go i H ∧ ∃ Nx : Hp → Prop, (∀ H', Nx H' → ∃ m', m' < m ∧ W (i + 1) m' H') ∧ ∀ x H', (Itl K a).yld i H x H' → g x (wipe σ vs) H' fun σ2 H2 => wipe σ2 vs = wipe σ vs ∧ tt σ2 H2 fun b H3 =>
        if b = true then te σ2 H3 fun y H4 => ∃ acc, H4 D = some (.lst acc) ∧ acc.length < sizeLine ∧ Nx (upd H4 D (.lst (acc ++ [y]))) else Nx H3) := by
  refine lcL ha nD (by rw [List.length_map]; exact hn) (fun v => match v with | .int i => f i | _ => none) (fun i x G Qy Qn hx sG ky kn => ?_) (fun G sG hD => hd G sG ?_)
  · rw [List.getElem?_map] at hx
    obtain ⟨n, hn2, rfl⟩ := Option.map_eq_some_iff.mp hx
    exact hs i n G Qy Qn hn2 sG ky kn
  · rw [List.filterMap_map] at hD
    exact hD
end
theorem fm_some {α β : Type} {f : α → β} : ∀ xs : List α, (xs.filterMap fun x => some (f x)) = xs.map f
  | [] => rfl
  | x :: xs => by rw [List.filterMap_cons, List.map_cons, fm_some xs]
theorem fm_if {α β : Type} {p : α → Bool} {f : α → β} : ∀ xs : List α, (xs.filterMap fun x => if p x = true then some (f x) else none) = (xs.filter p).map f
  | [] => rfl
  | x :: xs => by
    rw [List.filterMap_cons, List.filter_cons]
    cases p x
    · exact fm_if xs
    · show f x :: _ = _
      rw [fm_if xs]
      rfl
end KX

set_option Elab.async false
set_option maxRecDepth 100000
set_option maxHeartbeats 2000000
namespace K86
open PySem PySem.Spec PyProof.Rows L2 He KX
abbrev Pr := Int × Str
def PrAt (H : Hp) (x : V) (q : Pr) : Prop := ∃ t, x = V.ref t ∧ H t = some (.tup [V.int q.1, V.str q.2])
def prD (q : Pr) : PyData := .tuple [.int q.1, .str q.2]
def prsL (rows : List Rw) (l : Str) : List Pr := (rows.filter fun x => decide (x.2.1 = l)).map fun x => (x.2.2, x.1)
def srtP (qs : List Pr) : List Pr := qs.mergeSort (PySem.W.dataLe false prD)
theorem PrAt.same {H G : Hp} {x : V} {q : Pr} (h : PrAt H x q) (s : Same H G) : PrAt G x q := h.imp fun t h => ⟨h.1, s _ _ h.2⟩
/-- what a reference to such a tuple holds -/
noncomputable def datP (H : Hp) (x : V) : PyData := match x with
  | .ref t => match H t with
    | some (.tup [.int p, .str r]) => .tuple [.int p, .str r]
    | _ => .none
  | _ => .none
theorem datP_of {H : Hp} {x : V} {q : Pr} (h : PrAt H x q) : datP H x = prD q := by
  obtain ⟨t, rfl, ht⟩ := h
  unfold datP
  dsimp only
  rw [ht]
  rfl
theorem pr_zip {α β : Type} {R : α → β → Prop} : ∀ {xs : List α} {ys : List β}, Paired R xs ys → ∃ zs : List (α × β), zs.map (·.1) = xs ∧ zs.map (·.2) = ys ∧ ∀ z ∈ zs, R z.1 z.2
  | _, _, .nil => ⟨[], rfl, rfl, fun _ h => absurd h (by simp)⟩
  | x :: _, y :: _, .cons h t => by
    obtain ⟨zs, h1, h2, h3⟩ := pr_zip t
    refine ⟨(x, y) :: zs, by rw [List.map_cons, h1], by rw [List.map_cons, h2], fun z hz => ?_⟩
    rcases List.mem_cons.mp hz with rfl | hz
    · exact h
    · exact h3 z hz
theorem zip_pr {α β : Type} {R : α → β → Prop} : ∀ {zs : List (α × β)}, (∀ z ∈ zs, R z.1 z.2) → Paired R (zs.map (·.1)) (zs.map (·.2))
  | [], _ => .nil
  | z :: zs, h => .cons (h z List.mem_cons_self) (zip_pr fun y hy => h y (List.mem_cons_of_mem _ hy))
/-- sorting by what they hold keeps references and what they hold side by side -/
theorem srt_pr {α β : Type} {R : α → β → Prop} {d : α → PyData} {e : β → PyData} (hde : ∀ x y, R x y → d x = e y) {xs : List α} {ys : List β} (h : Paired R xs ys) : Paired R (xs.mergeSort (PySem.W.dataLe false d)) (ys.mergeSort (PySem.W.dataLe false e)) := by
  obtain ⟨zs, rfl, rfl, h3⟩ := pr_zip h
  have e1 : ∀ a b : α × β, a ∈ zs → b ∈ zs → PySem.W.dataLe false d a.1 b.1 = PySem.W.dataLe false e a.2 b.2 := by
    intro a b ha hb
    unfold PySem.W.dataLe PySem.W.sortLe
    dsimp only
    rw [hde _ _ (h3 a ha), hde _ _ (h3 b hb)]
  have s1 : (zs.mergeSort fun a b => PySem.W.dataLe false e a.2 b.2).map (·.1) = (zs.map (·.1)).mergeSort (PySem.W.dataLe false d) :=
    List.map_mergeSort fun a ha b hb => (e1 a b ha hb).symm
  have s2 : (zs.mergeSort fun a b => PySem.W.dataLe false e a.2 b.2).map (·.2) = (zs.map (·.2)).mergeSort (PySem.W.dataLe false e) :=
    List.map_mergeSort fun a ha b hb => rfl
  rw [← s1, ← s2]
  exact zip_pr fun z hz => h3 z (List.mem_mergeSort.mp hz)
theorem dp_pr {K : PySem.W.Frag} {H : Hp} {x : V} {q : Pr} (h : PrAt H x q) : Dp K H x (prD q) := by
  obtain ⟨t, rfl, ht⟩ := h
  exact .tup (SqT.of ht) (.cons (.int _) (.cons (.str _) .nil))
theorem pr_at {α β : Type} {R : α → β → Prop} : ∀ {xs : List α} {ys : List β}, Paired R xs ys → ∀ {i : Nat} {x : α}, xs[i]? = some x → ∃ y, ys[i]? = some y ∧ R x y
  | _, _, .nil, _, _, e => by simp at e
  | _, _, .cons h t, 0, x, e => by
    cases e
    exact ⟨_, rfl, h⟩
  | _, _, .cons h t, i + 1, x, e => pr_at t (i := i) e
theorem pr_mem {α β : Type} {R : α → β → Prop} : ∀ {xs : List α} {ys : List β}, Paired R xs ys → ∀ x ∈ xs, ∃ y ∈ ys, R x y
  | _, _, .cons h t, x, hx => by
    rcases List.mem_cons.mp hx with rfl | hx
    · exact ⟨_, List.mem_cons_self, h⟩
    · obtain ⟨y, hy, hr⟩ := pr_mem t x hx
      exact ⟨y, List.mem_cons_of_mem _ hy, hr⟩
def spPairs (K : PySem.W.Frag) : Sp := fun vs H Q _ => ∃ (a : Addr) (rows : List Rw) (l : Str), vs = [.ref a, .str l] ∧ BdAt K H a rows ∧ rows.length ≤ 1000 ∧ ∀ p xs H', H p = none → Same H H' → H' p = some (.lst xs) → Paired (PrAt H') xs (srtP (prsL rows l)) → Q (.ref p) H'
section
variable {P : Program} {w : World} {K : PySem.W.Frag} {mg : Str → Option Value} {base : Heap}
theorem scBPairs : FnScope ["self", "lst", "row", "spot"] ["self", "lst"] (defScope sBPairs) := ⟨rfl, rfl, rfl, by decide +kernel, rfl, by decide +kernel, by decide +kernel⟩
theorem ok_pairs {f : Addr} {fd : FuncData} (F : MtP K "_pairs" "Board._pairs" sBPairs f fd) (S : Brd K) (n_sorted : mg "sorted" = none) : FnOk P w K mg base CX0 1 f fd ["self", "lst"] (spPairs K) := by
  refine F.ok scBPairs (fun vs H Q E h => ?_) (fun cdv A outer s H vs Q E hr h => ?_)
  · obtain ⟨a, rows, l, rfl, _⟩ := h
    rfl
  · obtain ⟨a, rows, l, rfl, hB, hlen, k⟩ := h
    have nd := scBPairs.nd
    have hu := hr.units
    refine ⟨_, PSs.nox (pss_one (ps_ret (pe_callB (cr_sortedDp hu) (by rfl) n_sorted (by decide +kernel) (pa_cons (pe_lock (pe_lc (own := [("row", 2), ("spot", 3)]) (g := (gTup K 2 (gCons (gName 2) (gCons (gName 3) gNil))))  rfl nd (pi_items (pe_fld (pv 0) rfl)) (blkOk_by (own := [("row", 2), ("spot", 3)]) (N := ["self", "lst", "row", "spot"]) (sc := defScope sBPairs) (by decide +kernel)) (fun _ _ _ _ _ => (pg_tup rfl (pgs_cons (pg_name (i := 2) nd rfl (Or.inl rfl) (.inr rfl)) (pgs_cons (pg_name (i := 3) nd rfl (Or.inl rfl) (.inr rfl)) pgs_nil)))) (fun _ _ _ _ _ => (pts_one (pt_cmpR op_eq (pe_ix (show IxR _ (rIxT K) from ix_tup) (pv 3) pe_int (fun _ _ => rfl)) (pv 1) (nomark _)))) (fun _ _ _ _ _ => (pe_tup (pa_cons (pe_ix (show IxR _ (rIxT K) from ix_tup) (pv 3) pe_int (fun _ _ => rfl)) (pa_cons (pv 2) pa_nil)))))) pa_nil)))), ?_⟩
    obtain ⟨dx, d, kvs, ha, hd, hE, hN⟩ := hB
    refine ⟨d, _, hd, trivial, fun od => ?_⟩
    have had : a ≠ d := fun e => by rw [e, hd] at ha; cases ha
    refine ⟨_, rfl, a, _, dx, _, _, rfl, (upd_ne had).trans ha, S.cls, S.noat, rfl, d, od, kvs, rfl, upd_same, fun D nD => ?_⟩
    have sHf : ∀ x o, x ≠ d → H x = some o → upd H d (.frz od (.dK kvs)) x = some o := fun x o n e => (upd_ne n).trans e
    have fd0 : upd H d (.frz od (.dK kvs)) d = some (.frz od (.dK kvs)) := upd_same
    have hE2 : Paired (Ent (upd H d (.frz od (.dK kvs)))) kvs rows := pr_imp (fun kv x z => ⟨z.k, z.v.imp fun t h => ⟨h.1, sHf _ _ (fun e => by rw [e, hd] at h; cases h.2) h.2⟩⟩) hE
    have back : ∀ G, Same (upd H d (.frz od (.dK kvs))) G → Same H (upd G d (.dK kvs)) := fun G sG x o e => by
      by_cases hx : x = d
      · subst hx
        rw [hd] at e
        rw [upd_same]
        exact e
      · rw [upd_ne hx]
        exact sG _ _ (sHf _ _ hx e)
    generalize upd H d (.frz od (.dK kvs)) = Hf at nD sHf fd0 hE2 back ⊢
    refine lc_it (walk_items (d := d) (o := od) (kvs := kvs)) (fun i G => ∃ xs, G D = some (.lst xs) ∧ Paired (PrAt G) xs (prsL (rows.take i) l) ∧ Same Hf G) ⟨[], upd_same, .nil, same_put nD⟩ (fun i G _ h => by obtain ⟨_, _, _, q⟩ := h; exact q _ _ fd0) ?_ ?_
    · rintro i x G' G hi ⟨xs, hD, hP, sG⟩ y
      obtain ⟨T, u, v, rfl, nT, rfl, hu', hv'⟩ := y
      obtain ⟨kv, hkv, hu2⟩ := Option.map_eq_some_iff.mp hu'
      obtain ⟨kv2, hkv2, hv2⟩ := Option.map_eq_some_iff.mp hv'
      rw [hkv] at hkv2
      obtain rfl := Option.some.inj hkv2
      obtain ⟨rw_, hrw, hent⟩ := pr_at hE2 hkv
      obtain ⟨rn, ln, pn⟩ := rw_
      obtain ⟨key, val⟩ := kv
      have ek : key = .inr rn := hent.k
      obtain ⟨t, et, ht⟩ := hent.v
      dsimp only at hu2 hv2 et ht
      subst ek
      subst et
      subst hv2
      obtain rfl : u = V.str rn := hu2.symm
      have sT := same_put (o := .tup [V.str rn, V.ref t]) nT
      have hT : upd G' T (.tup [V.str rn, V.ref t]) T = some (.tup [V.str rn, V.ref t]) := upd_same
      generalize upd G' T (.tup [V.str rn, V.ref t]) = G2 at sT hT
      have ht2 : G2 t = some (.tup [V.str ln, V.int pn]) := sT _ _ (sG _ _ ht)
      have hD2 := sT _ _ hD
      have hP2 : Paired (PrAt G2) xs (prsL (rows.take i) l) := pr_imp (fun _ _ z => z.same sT) hP
      have sG2 := sG.trans sT
      have etk : prsL (rows.take (i + 1)) l = prsL (rows.take i) l ++ (if decide (ln = l) = true then [(pn, rn)] else []) := by
        unfold prsL
        rw [flt_take hrw, List.map_append]
        dsimp only
        split <;> rfl
      refine ⟨_, _, rfl, SqT.of hT, rfl, _, _, rfl, _, _, rfl, rfl, rfl, ?_⟩
      refine ⟨_, rfl, t, _, _, _, rfl, rfl, SqT.of ht2, rfl, _, rfl, ?_⟩
      refine ⟨rfl, _, rfl, ?_⟩
      rw [str_dec]
      by_cases c : ln = l
      · rw [decide_eq_true c, if_pos rfl] at etk
        rw [decide_eq_true c, if_pos rfl]
        refine ⟨_, rfl, t, _, _, _, rfl, rfl, SqT.of ht2, rfl, _, rfl, (by show 2 ≤ sizeLine; decide), fun T2 nT2 => ?_⟩
        have sT2 := same_put (o := .tup [V.int pn, V.str rn]) nT2
        have hT2 : upd G2 T2 (.tup [V.int pn, V.str rn]) T2 = some (.tup [V.int pn, V.str rn]) := upd_same
        generalize upd G2 T2 (.tup [V.int pn, V.str rn]) = G3 at sT2 hT2
        have hxl : xs.length ≤ 1000 := by
          rw [Paired.length hP2, prsL, List.length_map]
          exact Nat.le_trans (List.length_filter_le _ _) (by rw [List.length_take]; omega)
        have sF : Same Hf (upd G3 D (.lst (xs ++ [V.ref T2]))) := fun x o e => by
          rw [upd_ne (ne_of_none e nD)]
          exact sT2 _ _ (sG2 _ _ e)
        have dD : ∀ t zs, G3 t = some (.tup zs) → t ≠ D := fun t zs e e2 => by
          rw [e2, sT2 _ _ hD2] at e
          cases e
        refine ⟨xs, sT2 _ _ hD2, (by rw [sizeLine_eq]; omega), xs ++ [V.ref T2], upd_same, ?_, sF⟩
        rw [etk]
        exact pr_app (pr_imp (fun _ _ z => z.imp fun t h => ⟨h.1, (upd_ne (dD _ _ (sT2 _ _ h.2))).trans (sT2 _ _ h.2)⟩) hP2) (.cons ⟨T2, rfl, (upd_ne (dD _ _ hT2)).trans hT2⟩ .nil)
      · rw [decide_eq_false c, if_neg (by decide), List.append_nil] at etk
        rw [decide_eq_false c, if_neg (by decide)]
        rw [etk]
        exact ⟨xs, hD2, hP2, sG2⟩
    · rintro G ⟨xs, hD, hP, sG⟩
      refine ⟨sG _ _ fd0, ?_⟩
      rw [hE.len, List.take_length] at hP
      have hb := back G sG
      have nDd : D ≠ d := fun e => by rw [e, fd0] at nD; cases nD
      have hD2 : upd G d (.dK kvs) D = some (.lst xs) := (upd_ne nDd).trans hD
      have hP2 : Paired (PrAt (upd G d (.dK kvs))) xs (prsL rows l) := pr_imp (fun x q z => z.imp fun t h => ⟨h.1, (upd_ne (fun e => by rw [e, sG _ _ fd0] at h; cases h.2)).trans h.2⟩) hP
      generalize upd G d (.dK kvs) = G2 at hb hD2 hP2
      have hxl : xs.length ≤ 1000 := by
        rw [Paired.length hP2, prsL, List.length_map]
        exact Nat.le_trans (List.length_filter_le _ _) hlen
      refine ⟨D, xs, datP G2, rfl, SqL.of hD2, fun x hx => ?_, ?_, ?_, fun x hx => ?_, fun p np => ?_⟩
      · obtain ⟨q, _, hq⟩ := pr_mem hP2 x hx
        rw [datP_of hq]
        exact dp_pr hq
      · intro a1 h1 a2 h2
        obtain ⟨x1, hx1, rfl⟩ := List.mem_map.mp h1
        obtain ⟨x2, hx2, rfl⟩ := List.mem_map.mp h2
        obtain ⟨q1, _, hq1⟩ := pr_mem hP2 x1 hx1
        obtain ⟨q2, _, hq2⟩ := pr_mem hP2 x2 hx2
        rw [datP_of hq1, datP_of hq2]
        rfl
      · refine .inl fun a1 h1 => ?_
        obtain ⟨x1, hx1, rfl⟩ := List.mem_map.mp h1
        obtain ⟨q1, _, hq1⟩ := pr_mem hP2 x1 hx1
        exact ⟨_, _, datP_of hq1⟩
      · obtain ⟨q1, _, hq1⟩ := pr_mem hP2 x hx
        rw [datP_of hq1]
        show 1 ≤ 60
        decide
      · have sp := same_put (o := .lst (srtD (datP G2) xs)) np
        exact k p _ _ (free_same hb np) (hb.trans sp) upd_same (pr_imp (fun _ _ z => z.same sp) (srt_pr (fun x y z => datP_of z) hP2))
end
end K86

set_option Elab.async false
set_option maxRecDepth 100000
set_option maxHeartbeats 2000000
namespace K86
open PySem PySem.Spec PyProof.Rows L2 He KX
-- ["self", "lines", "lst", "pairs", "place", "row"]
def leS : Str → Str → Bool := PySem.W.dataLe false PyData.str
/-- the names of the lists that have rows, ascending -/
def NmL (rows : List Rw) (ns : List Str) : Prop := ∃ L' : List Str, L'.Perm (uniqS (rows.map fun x => x.2.1)) ∧ ns = L'.mergeSort leS
def okR (x : Rw) : Prop := isNm x.1 = true ∧ isNm x.2.1 = true ∧ x.2.2.natAbs.log2 < 1920
def hdL (l : Str) (n : Nat) : Str := Str.empty ++ l ++ ": " ++ Str.ofString (toString (n : Int))
def lnL (q : Pr) : Str := Str.empty ++ padL 6 (Str.ofString (toString q.1)) ++ " " ++ q.2
def lns1 (rows : List Rw) (l : Str) : List Str := hdL l (prsL rows l).length :: (srtP (prsL rows l)).map lnL
def linesOf (rows : List Rw) (ns : List Str) : List Str := ns.flatMap (lns1 rows)
def spNames (K : PySem.W.Frag) : Sp := fun vs H Q _ => ∃ (a : Addr) (rows : List Rw), vs = [.ref a] ∧ BdAt K H a rows ∧ rows.length ≤ 1000 ∧ ∀ p ns H', H p = none → Same H H' → H' p = some (.lst (ns.map V.str)) → NmL rows ns → Q (.ref p) H'
section
variable {P : Program} {w : World} {K : PySem.W.Frag} {mg : Str → Option Value} {base : Heap}
theorem scBNames : FnScope ["self", "spot"] ["self"] (defScope sBNames) := ⟨rfl, rfl, rfl, by decide +kernel, rfl, by decide +kernel, by decide +kernel⟩
theorem ok_names {f : Addr} {fd : FuncData} (F : MtP K "list_names" "Board.list_names" sBNames f fd) (S : Brd K) (n_sorted : mg "sorted" = none) : FnOk P w K mg base CX0 1 f fd ["self"] (spNames K) := by
  refine F.ok scBNames (fun vs H Q E h => ?_) (fun cdv A outer s H vs Q E hr h => ?_)
  · obtain ⟨a, rows, rfl, _⟩ := h
    rfl
  · obtain ⟨a, rows, rfl, hB, hlen, k⟩ := h
    have nd := scBNames.nd
    have hu := hr.units
    refine ⟨_, PSs.nox (pss_one (ps_ret (pe_callB (cr_sortedX rfl hu) (by rfl) n_sorted (by decide +kernel) (pa_cons (pe_setFst rfl rfl (by decide +kernel) (by decide +kernel) (by decide +kernel) (pe_fld (pv 0) rfl)) pa_nil)))), ?_⟩
    obtain ⟨dx, d, kvs, ha, hd, hE, hN⟩ := hB
    have hlk := hE.len
    refine ⟨_, rfl, a, _, dx, _, _, rfl, ha, S.cls, S.noat, rfl, .inr (.inr (.inl ⟨rfl, .inl ⟨_, hd⟩⟩)), d, kvs, rfl, rfl, hd, fun v nv => ?_⟩
    have sv := same_put (o := ViewO v d) nv
    have hv : upd H v (ViewO v d) v = some (ViewO v d) := upd_same
    generalize upd H v (ViewO v d) = H1 at sv hv ⊢
    refine ⟨v, d, kvs, rows.map fun x => x.2.1, rfl, hv, sv _ _ hd, fun i k' v' e => ?_, ?_, ?_, fun D nD => ?_⟩
    · obtain ⟨x, hx, hent⟩ := pr_at hE e
      obtain ⟨t, e2, ht⟩ := hent.v
      exact ⟨t, _, _, e2, sv _ _ ht, by rw [List.getElem?_map, hx]; rfl⟩
    · rw [List.length_map]; exact hlk.symm
    · rw [hlk]
      show rows.length + 1 < 4096
      omega
    · have sD := same_put (o := SetXO P w D (uniqS (rows.map fun x => x.2.1))) nD
      refine ⟨D, _, rfl, upd_same, fun p L' hL np => ?_⟩
      exact k p _ _ (free_same (sv.trans sD) np) ((sv.trans sD).trans (same_put np)) upd_same ⟨L', hL, rfl⟩
theorem prs_ok {rows : List Rw} {l : Str} (h : ∀ x ∈ rows, okR x) : ∀ q ∈ srtP (prsL rows l), isNm q.2 = true ∧ q.1.natAbs.log2 < 1920 := by
  intro q hq
  unfold srtP at hq
  obtain ⟨x, hx, rfl⟩ := List.mem_map.mp (List.mem_mergeSort.mp hq)
  have := h x (List.mem_filter.mp hx).1
  exact ⟨this.1, this.2.2⟩
theorem nm_ok {rows : List Rw} {ns : List Str} (h : ∀ x ∈ rows, okR x) (hN : NmL rows ns) : (∀ l ∈ ns, isNm l = true) ∧ ns.length ≤ rows.length := by
  obtain ⟨L', hL, rfl⟩ := hN
  refine ⟨fun l hl => ?_, ?_⟩
  · have := (uniqS_mem l _).mp (hL.mem_iff.mp (List.mem_mergeSort.mp hl))
    obtain ⟨x, hx, rfl⟩ := List.mem_map.mp this
    exact (h x hx).2.1
  · rw [List.length_mergeSort, hL.length_eq]
    exact Nat.le_trans (uniqS_len _) (by rw [List.length_map]; exact Nat.le_refl _)
theorem prs_len (rows : List Rw) (l : Str) : (prsL rows l).length ≤ rows.length := by
  unfold prsL
  rw [List.length_map]
  exact List.length_filter_le _ _
theorem srt_len (rows : List Rw) (l : Str) : (srtP (prsL rows l)).length = (prsL rows l).length := List.length_mergeSort _
theorem txt_len {i : Int} (h : i.natAbs.log2 < 1920) : (Str.ofString (toString i)).length ≤ 1921 := int_text_len_1921 h
theorem small_log {n : Nat} (h : n ≤ 1000) : ((n : Int)).natAbs.log2 < 1920 := by
  rw [Int.natAbs_natCast]
  by_cases c : n = 0
  · subst c; decide
  · refine Nat.lt_of_lt_of_le ((Nat.log2_lt c).mpr (show n < 2 ^ 10 by omega)) (by decide)
theorem hd_len {l : Str} {n : Nat} (h : isNm l = true) (hn : n ≤ 1000) : (hdL l n).length ≤ 2000 := by
  unfold hdL
  have := (nm_inv h).2.1
  have := txt_len (small_log hn)
  have e1 : (": " : Str).length = 2 := by decide +kernel
  have e0 : Str.empty.length = 0 := rfl
  rw [Str.length_append, Str.length_append, Str.length_append, e1, e0]
  omega
theorem pad_len {n : Nat} {t : Str} (h : t.length ≤ 1921) (hn : n ≤ 10) : (padL n t).length ≤ 1940 := by
  unfold padL
  show (List.replicate _ _ ++ _).toArray.size ≤ _
  rw [List.size_toArray, List.length_append, List.length_replicate, Array.length_toList]
  have : t.cps.size = t.length := rfl
  omega
theorem ln_len {q : Pr} (h1 : isNm q.2 = true) (h2 : q.1.natAbs.log2 < 1920) : (lnL q).length ≤ 2000 := by
  unfold lnL
  have := (nm_inv h1).2.1
  have := pad_len (n := 6) (txt_len h2) (by decide)
  have e1 : (" " : Str).length = 1 := by decide +kernel
  have e0 : Str.empty.length = 0 := rfl
  rw [Str.length_append, Str.length_append, Str.length_append, e1, e0]
  omega
theorem lns_len {rows : List Rw} {ns : List Str} (h : ∀ x ∈ rows, okR x) (hN : NmL rows ns) (hl : rows.length ≤ 60) : (∀ z ∈ linesOf rows ns, z.length ≤ 2000) ∧ ∀ m, ((ns.take m).flatMap (lns1 rows)).length ≤ 3660 := by
  obtain ⟨h1, h2⟩ := nm_ok h hN
  refine ⟨fun z hz => ?_, fun m => ?_⟩
  · obtain ⟨l, hl2, hz⟩ := List.mem_flatMap.mp hz
    rcases List.mem_cons.mp hz with rfl | hz
    · exact hd_len (h1 l hl2) (by have := prs_len rows l; omega)
    · obtain ⟨q, hq, rfl⟩ := List.mem_map.mp hz
      have := prs_ok h q hq
      exact ln_len this.1 this.2
  · have : ∀ ls : List Str, (ls.flatMap (lns1 rows)).length ≤ ls.length * 61 := by
      intro ls
      induction ls with
      | nil => simp
      | cons l r ih =>
        rw [List.flatMap_cons, List.length_append, List.length_cons]
        have h3 : (lns1 rows l).length ≤ 61 := by
          unfold lns1
          rw [List.length_cons, List.length_map, srt_len]
          have := prs_len rows l
          omega
        omega
    have h4 := this (ns.take m)
    have h5 : (ns.take m).length ≤ 60 := by rw [List.length_take]; omega
    omega
theorem sum_le2 : ∀ {zs : List Str}, (∀ z ∈ zs, z.length ≤ 2000) → (zs.map fun x => x.length).sum ≤ zs.length * 2000
  | [], _ => by simp
  | z :: r, h => by
    rw [List.map_cons, List.sum_cons, List.length_cons]
    have := sum_le2 (zs := r) fun y hy => h y (List.mem_cons_of_mem _ hy)
    have := h z List.mem_cons_self
    omega
end
end K86

set_option Elab.async false
set_option maxRecDepth 100000
set_option maxHeartbeats 2000000
namespace K86
open PySem PySem.Spec PyProof.Rows L2 He KX
theorem dc_it {J : It} {n : Nat} {Gd : Hp → Prop} {Y : Nat → Hp → V → Hp → Prop} (w : Walk J n Gd Y) {g : TG} {tt : TT} {tk tv : TE} {vs : List Nat} {σ : L2.St} {H1 : Hp} {D : Addr} {Qd : Hp → Prop} (Pv : Nat → Hp → Prop) (h0 : Pv 0 (upd H1 D (.dK []))) (hl : ∀ i H, i ≤ n → Pv i H → Gd H)
    (hs : ∀ (i : Nat) (x : V) (H H' : Hp), i < n → Pv i H → Y i H x H' → g x (wipe σ vs) H' fun σ2 H2 => wipe σ2 vs = wipe σ vs ∧ tt σ2 H2 fun b H3 => if b = true then tk σ2 H3 fun y H4 => tv σ2 H4 fun z H5 => ∃ (kvs : List (Key × V)) (k : Key), y = kV k ∧ H5 D = some (.dK kvs) ∧ kvs.length < sizeLine ∧ Pv (i + 1) (upd H5 D (.dK (putK kvs k z))) else Pv (i + 1) H3)
    (hd : ∀ H, Pv n H → Qd H) :
    ∃ W : Nat → Nat → Hp → Prop, (∃ m, W 0 m (upd H1 D (.dK []))) ∧ ∀ i m H, W i m H →
      (J.stop i H ∧ Qd H) ∨ (J.go i H ∧ ∃ Nx : Hp → Prop, (∀ H', Nx H' → ∃ m', m' < m ∧ W (i + 1) m' H') ∧ ∀ x H', J.yld i H x H' → g x (wipe σ vs) H' fun σ2 H2 => wipe σ2 vs = wipe σ vs ∧ tt σ2 H2 fun b H3 => if b = true then tk σ2 H3 fun y H4 => tv σ2 H4 fun z H5 =>
        ∃ (kvs : List (Key × V)) (k : Key), y = kV k ∧ H5 D = some (.dK kvs) ∧ kvs.length < sizeLine ∧ Nx (upd H5 D (.dK (putK kvs k z))) else Nx H3) := by
  refine ⟨fun i m H => i + m = n ∧ Pv i H, ⟨n, Nat.zero_add _, h0⟩, fun i m H h => ?_⟩
  obtain ⟨hm, hp⟩ := h
  rcases Nat.lt_or_ge i n with hi | hi
  · refine .inr ⟨w.goes i H hi (hl i H (Nat.le_of_lt hi) hp), fun H' => Pv (i + 1) H', fun H' hp' => ⟨m - 1, by omega, by omega, hp'⟩, fun x H' hy => ?_⟩
    exact hs i x H H' hi hp (w.yields i H x H' hi (hl i H (Nat.le_of_lt hi) hp) hy)
  · have e : i = n := by omega
    subst e
    exact .inl ⟨w.stops H (hl i H (Nat.le_refl _) hp), hd H hp⟩
def spHas (K : PySem.W.Frag) : Sp := fun vs H Q _ => ∃ (a : Addr) (rows : List Rw) (r : Str), vs = [.ref a, .str r] ∧ BdAt K H a rows ∧ r.length ≤ 1000 ∧ Q (.bl (rows.any fun x => decide (x.1 = r))) H
def spDrop (K : PySem.W.Frag) : Sp := fun vs H Q _ => ∃ (a : Addr) (rows : List Rw) (r : Str), vs = [.ref a, .str r] ∧ BdAt K H a rows ∧ rows.length ≤ 1000 ∧ r.length ≤ 1000 ∧ r ∈ rows.map (·.1) ∧ ∀ H', Kept a H H' → BdAt K H' a (dropR rows r) → BdNew K H H' a → Q .non H'
section
variable {P : Program} {w : World} {K : PySem.W.Frag} {mg : Str → Option Value} {base : Heap}
theorem scBHas : FnScope ["self", "x"] ["self", "x"] (defScope sBHas) := ⟨rfl, rfl, rfl, by decide +kernel, rfl, by decide +kernel, by decide +kernel⟩
theorem ok_has {f : Addr} {fd : FuncData} (F : MtP K "__contains__" "Board.__contains__" sBHas f fd) (S : Brd K) (n_isinstance : mg "isinstance" = none) (n_str : mg "str" = none) : FnOk P w K mg base CX0 1 f fd ["self", "x"] (spHas K) := by
  refine F.ok scBHas (fun vs H Q E h => ?_) (fun cdv A outer s H vs Q E hr h => ?_)
  · obtain ⟨a, rows, r, rfl, _⟩ := h
    rfl
  · obtain ⟨a, rows, r, rfl, hB, hlen, k⟩ := h
    have nd := scBHas.nd
    have hu := Nat.lt_of_le_of_lt (Nat.add_le_add_left (by decide : 1 ≤ 64) _) hr.units
    refine ⟨_, PSs.nox (pss_one (ps_ret (pe_and (pe_callB call_isi (by rfl) n_isinstance (by decide +kernel) (pa_cons (pv 1) (pa_cons (pe_bltn (v := .ty "str") (by rfl) n_str (by decide +kernel) rfl) pa_nil))) (pe_one (pe_cmp (pc_din hu (pv 1) (pe_fld (pv 0) rfl))))))), ?_⟩
    obtain ⟨dx, d, kvs, ha, hd, hE, hN⟩ := hB
    refine ⟨_, rfl, _, _, _, _, _, rfl, .ty _, dp_ty (Dp.str r), kit_str (.str r), ?_⟩
    refine ⟨true, rfl, yes rfl ⟨_, rfl, _, rfl, a, _, dx, _, _, rfl, ha, S.cls, S.noat, rfl, d, _, rfl, DGet.k (k := Sum.inr r) hd, ?_⟩⟩
    have e : (valV kvs (Sum.inr r : Key)).isSome = rows.any fun x => decide (x.1 = r) := by
      rw [← hE.any r]
      unfold valV
      rw [Option.isSome_map, Bool.eq_iff_iff, List.find?_isSome, List.any_eq_true]
    rw [e]
    exact k
theorem scBDrop : FnScope ["self", "row", "other", "spot"] ["self", "row"] (defScope sBDrop) := ⟨rfl, rfl, rfl, by decide +kernel, rfl, by decide +kernel, by decide +kernel⟩
theorem ok_drop {f fHas : Addr} {fd fdHas : FuncData} (F : MtP K "drop" "Board.drop" sBDrop f fd) (S : Brd K)
    (GHas : FnOk P w K mg base CX0 1 (ma K (ga K "Board") "__contains__") fdHas ["self", "x"] (spHas K)) (bHas : Binds K fdHas ["self", "x"] []) : FnOk P w K mg base CX0 2 f fd ["self", "row"] (spDrop K) := by
  refine F.ok scBDrop (fun vs H Q E h => ?_) (fun cdv A outer s H vs Q E hr h => ?_)
  · obtain ⟨a, rows, r, rfl, _⟩ := h
    rfl
  · obtain ⟨a, rows, r, rfl, hB, hlen, hr1000, hin, k⟩ := h
    have nd := scBDrop.nd
    have hr1 := hr.mono (j := 1) (by decide)
    refine ⟨_, PSs.nox (pss_cons (ps_if (pt_cmpR (op_notInO (S.mth "__contains__" (by decide)) GHas hr1 bHas pass0) (pv 1) (pv 0) rfl)
(pss_one (ps_never))
pss_nil)
(pss_one (ps_fld (pv 0) (pe_lock (pe_dc (own := [("other", 2), ("spot", 3)]) (g := (gTup K 2 (gCons (gName 2) (gCons (gName 3) gNil))))  rfl nd (pi_items (pe_fld (pv 0) rfl)) (blkOk_by (own := [("other", 2), ("spot", 3)]) (N := ["self", "row", "other", "spot"]) (sc := defScope sBDrop) (by decide +kernel)) (fun _ _ _ _ _ => (pg_tup rfl (pgs_cons (pg_name (i := 2) nd rfl (Or.inl rfl) (.inr rfl)) (pgs_cons (pg_name (i := 3) nd rfl (Or.inl rfl) (.inr rfl)) pgs_nil)))) (fun _ _ _ _ _ => (pts_one (pt_cmpR op_ne (pv 2) (pv 1) (nomark _)))) (fun _ _ _ _ _ => (pv 2)) (fun _ _ _ _ _ => (pv 3)))) rfl))), ?_⟩
    have hany : (rows.any fun x => decide (x.1 = r)) = true := by
      obtain ⟨x, hx, e⟩ := List.mem_map.mp hin
      exact List.any_eq_true.mpr ⟨x, hx, decide_eq_true e⟩
    obtain ⟨dx, d, kvs, ha, hd, hE, hN⟩ := id hB
    refine ⟨_, rfl, _, rfl, a, rfl, ⟨_, _, ha⟩, a, rows, r, rfl, hB, hr1000, _, rfl, ?_⟩
    rw [hany]
    refine ⟨_, rfl, no rfl ?_⟩
    refine ⟨d, _, hd, trivial, fun od => ?_⟩
    have had : a ≠ d := fun e => by rw [e, hd] at ha; cases ha
    have sHf : ∀ x o, x ≠ d → H x = some o → upd H d (.frz od (.dK kvs)) x = some o := fun x o n e => (upd_ne n).trans e
    have fd0 : upd H d (.frz od (.dK kvs)) d = some (.frz od (.dK kvs)) := upd_same
    have hE2 : Paired (Ent (upd H d (.frz od (.dK kvs)))) kvs rows := pr_imp (fun kv x z => ⟨z.k, z.v.imp fun t h => ⟨h.1, sHf _ _ (fun e => by rw [e, hd] at h; cases h.2) h.2⟩⟩) hE
    have back : ∀ G, Same (upd H d (.frz od (.dK kvs))) G → Same H (upd G d (.dK kvs)) := fun G sG x o e => by
      by_cases hx : x = d
      · subst hx
        rw [hd] at e
        rw [upd_same]
        exact e
      · rw [upd_ne hx]
        exact sG _ _ (sHf _ _ hx e)
    have ha2 : upd H d (.frz od (.dK kvs)) a = some (.ins (ga K "Board") dx [("_spots", V.ref d)]) := (upd_ne had).trans ha
    generalize upd H d (.frz od (.dK kvs)) = Hf at sHf fd0 hE2 back ha2 ⊢
    refine ⟨_, rfl, a, _, dx, _, _, rfl, ha2, S.cls, S.noat, rfl, d, od, kvs, rfl, fd0, fun D nD => ?_⟩
    have nDH : H D = none := by
      cases e : H D with
      | none => rfl
      | some o =>
        have hx : D ≠ d := fun e2 => by rw [e2, fd0] at nD; cases nD
        rw [sHf _ _ hx e] at nD
        cases nD
    refine dc_it (walk_items (d := d) (o := od) (kvs := kvs)) (fun i G => ∃ xs, G D = some (.dK xs) ∧ Ents G xs (dropR (rows.take i) r) ∧ Same Hf G) ⟨[], upd_same, .nil, same_put nD⟩ (fun i G _ h => by obtain ⟨_, _, _, q⟩ := h; exact q _ _ fd0) ?_ ?_
    · rintro i x G' G hi ⟨xs, hD, hP, sG⟩ y
      obtain ⟨T, u, v, rfl, nT, rfl, hu', hv'⟩ := y
      obtain ⟨kv, hkv, hu2⟩ := Option.map_eq_some_iff.mp hu'
      obtain ⟨kv2, hkv2, hv2⟩ := Option.map_eq_some_iff.mp hv'
      rw [hkv] at hkv2
      obtain rfl := Option.some.inj hkv2
      obtain ⟨rw_, hrw, hent⟩ := pr_at hE2 hkv
      obtain ⟨rn, ln, pn⟩ := rw_
      obtain ⟨key, val⟩ := kv
      have ek : key = .inr rn := hent.k
      obtain ⟨t, et, ht⟩ := hent.v
      dsimp only at hu2 hv2 et ht
      subst ek
      subst et
      subst hv2
      obtain rfl : u = V.str rn := hu2.symm
      have sT := same_put (o := .tup [V.str rn, V.ref t]) nT
      have hT : upd G' T (.tup [V.str rn, V.ref t]) T = some (.tup [V.str rn, V.ref t]) := upd_same
      generalize upd G' T (.tup [V.str rn, V.ref t]) = G2 at sT hT
      have ht2 : G2 t = some (.tup [V.str ln, V.int pn]) := sT _ _ (sG _ _ ht)
      have hD2 := sT _ _ hD
      have hP2 : Ents G2 xs (dropR (rows.take i) r) := pr_imp (fun _ _ z => z.same sT) hP
      have sG2 := sG.trans sT
      have etk : dropR (rows.take (i + 1)) r = dropR (rows.take i) r ++ (if decide (rn ≠ r) = true then [(rn, ln, pn)] else []) := by
        unfold dropR
        rw [flt_take hrw]
      refine ⟨_, _, rfl, SqT.of hT, rfl, _, _, rfl, _, _, rfl, rfl, rfl, ?_⟩
      refine ⟨_, rfl, _, rfl, rfl, _, rfl, ?_⟩
      rw [str_dec]
      by_cases c : rn = r
      · rw [decide_eq_true c]
        refine no rfl ?_
        rw [etk, if_neg (by simp [c]), List.append_nil]
        exact ⟨xs, hD2, hP2, sG2⟩
      · rw [decide_eq_false c]
        refine yes rfl ⟨_, rfl, _, rfl, xs, .inr rn, rfl, hD2, ?_, ?_⟩
        · rw [hP2.len, sizeLine_eq]
          have h1 : (dropR (rows.take i) r).length ≤ (rows.take i).length := List.length_filter_le _ _
          rw [List.length_take] at h1
          omega
        have hfresh : (xs.any fun kv => decide (kv.1 = (Sum.inr rn : Key))) = false := by
          rw [hP2.any rn, List.any_eq_false]
          intro x hx
          have hx2 := (List.mem_filter.mp hx).1
          obtain ⟨j, hj, hjx⟩ := List.mem_iff_getElem.mp hx2
          rw [List.getElem_take] at hjx
          rw [List.length_take] at hj
          have hjl : j < rows.length := by omega
          have hil : i < rows.length := by
            have := (List.getElem?_eq_some_iff.mp hrw).1
            exact this
          intro e
          have e' : x.1 = rn := of_decide_eq_true e
          have hne := List.pairwise_iff_getElem.mp hN j i (by rw [List.length_map]; exact hjl) (by rw [List.length_map]; exact hil) (by omega)
          rw [List.getElem_map, List.getElem_map] at hne
          have hi2 : rows[i] = (rn, ln, pn) := (List.getElem?_eq_some_iff.mp hrw).2
          rw [hjx, hi2] at hne
          exact hne e'
        have eput : putK xs (Sum.inr rn : Key) (V.ref t) = xs ++ [(.inr rn, V.ref t)] := by
          unfold putK
          rw [hfresh]
          rfl
        have dD : ∀ t zs, G2 t = some (.tup zs) → t ≠ D := fun t zs e e2 => by
          rw [e2, hD2] at e
          cases e
        refine ⟨_, upd_same, ?_, fun x o e => ?_⟩
        · rw [eput, etk, if_pos (by simp [c])]
          exact pr_app (pr_imp (fun _ _ z => ⟨z.k, z.v.imp fun t h => ⟨h.1, (upd_ne (dD _ _ h.2)).trans h.2⟩⟩) hP2) (.cons ⟨rfl, t, rfl, (upd_ne (dD _ _ ht2)).trans ht2⟩ .nil)
        · rw [upd_ne (ne_of_none e nD)]
          exact sG2 _ _ e
    · rintro G ⟨xs, hD, hP, sG⟩
      refine ⟨sG _ _ fd0, ?_⟩
      rw [hE.len, List.take_length] at hP
      have hb := back G sG
      have nDd : D ≠ d := fun e => by rw [e, fd0] at nD; cases nD
      have hD2 : upd G d (.dK kvs) D = some (.dK xs) := (upd_ne nDd).trans hD
      have hP2 : Ents (upd G d (.dK kvs)) xs (dropR rows r) := pr_imp (fun x q z => ⟨z.k, z.v.imp fun t h => ⟨h.1, (upd_ne (fun e => by rw [e, sG _ _ fd0] at h; cases h.2)).trans h.2⟩⟩) hP
      generalize upd G d (.dK kvs) = G2 at hb hD2 hP2
      have ha3 := hb _ _ ha
      refine ⟨_, rfl, a, _, dx, [("_spots", V.ref d)], rfl, ha3, S.cls, S.noat, (by show 1 < 1000; decide), ?_⟩
      have haD : a ≠ D := fun e => by rw [e, hD2] at ha3; cases ha3
      have kF : Kept a G2 (upd G2 a (.ins (ga K "Board") dx [("_spots", V.ref D)])) := fun x o nx e => (upd_ne nx).trans e
      refine k _ (fun x o nx e => kF x o nx (hb x o e)) ⟨dx, D, xs, upd_same, (upd_ne haD.symm).trans hD2, pr_imp (fun _ _ z => z.kept kF fun zs e => by rw [ha3] at e; cases e) hP2, ?_⟩ (fun dx' d' e => ?_)
      · exact List.Pairwise.sublist (List.filter_sublist.map _) hN
      · rw [upd_same] at e
        cases e
        exact nDH
end
end K86

set_option Elab.async false
set_option maxRecDepth 100000
set_option maxHeartbeats 2000000
namespace K86
open PySem PySem.Spec PyProof.Rows L2 He KX
abbrev sLRows : Stmt := top 20
-- ["model", "lst", "place", "row"]
def spLRows (K : PySem.W.Frag) : Sp := fun vs H Q _ => ∃ (d : Addr) (rows : List Rw) (l : Str), vs = [.ref d, .str l] ∧ MdAt H d rows ∧ rows.length ≤ 1000 ∧ ∀ p H', H p = none → Same H H' → H' p = some (.lst (((srtP (prsL rows l)).map (·.2)).map V.str)) → Q (.ref p) H'
theorem val_at {H : Hp} {kvs : List (Key × V)} {rows : List Rw} (hE : Ents H kvs rows) (hN : (rows.map (·.1)).Nodup) {i : Nat} {kv : Key × V} (h : kvs[i]? = some kv) : valV kvs kv.1 = some kv.2 := by
  have hk := keys_nodup hE hN
  unfold valV
  have hi : i < kvs.length := (List.getElem?_eq_some_iff.mp h).1
  have : kvs.find? (fun x => decide (x.1 = kv.1)) = some kv := by
    rw [List.find?_eq_some_iff_getElem]
    refine ⟨by simp, i, hi, (List.getElem?_eq_some_iff.mp h).2, fun j hj => ?_⟩
    have hne := List.pairwise_iff_getElem.mp hk j i (by rw [List.length_map]; omega) (by rw [List.length_map]; exact hi) hj
    rw [List.getElem_map, List.getElem_map, (List.getElem?_eq_some_iff.mp h).2] at hne
    simpa using hne
  rw [this]
  rfl
section
variable {P : Program} {w : World} {K : PySem.W.Frag} {mg : Str → Option Value} {base : Heap}
theorem scLRows : FnScope ["model", "lst", "place", "row"] ["model", "lst"] (defScope sLRows) := ⟨rfl, rfl, rfl, by decide +kernel, rfl, by decide +kernel, by decide +kernel⟩
theorem ok_lrows {f : Addr} {fd : FuncData} (F : FnP K "_law_rows" sLRows f fd) (n_sorted : mg "sorted" = none) : FnOk P w K mg base CX0 1 f fd ["model", "lst"] (spLRows K) := by
  refine F.ok scLRows (fun vs H Q E h => ?_) (fun cdv A outer s H vs Q E hr h => ?_)
  · obtain ⟨d, rows, l, rfl, _⟩ := h
    rfl
  · obtain ⟨d, rows, l, rfl, hM, hlen, k⟩ := h
    have nd := scLRows.nd
    have hu64 := hr.units
    have hu := Nat.lt_of_le_of_lt (Nat.add_le_add_left (by decide : 1 ≤ 64) _) hr.units
    refine ⟨_, PSs.nox (pss_one (ps_ret (pe_lc (own := [("place", 2), ("row", 3)]) (g := (gTup K 2 (gCons (gName 2) (gCons (gName 3) gNil)))) (tt := tYes) rfl nd (pi_list (pe_callB (show CallR _ _ (rSortDp K) from cr_sortedDp hu64) (by rfl) n_sorted (by decide +kernel) (pa_cons (pe_lock (pe_lc (own := [("row", 3)]) (g := (gName 3))  rfl nd (pi_keys (pv 0)) (blkOk_by (own := [("row", 3)]) (N := ["model", "lst", "place", "row"]) (sc := defScope sLRows) (by decide +kernel)) (fun _ _ _ _ _ => (pg_name (i := 3) nd rfl (Or.inl rfl))) (fun _ _ _ _ _ => (pts_one (pt_cmpR op_eq (pe_ix (show IxR _ (rIxT K) from ix_tup) (pe_dget hu (pv 0) (pv 3) (fun _ _ => rfl)) pe_int (fun _ _ => rfl)) (pv 1) (nomark _)))) (fun _ _ _ _ _ => (pe_tup (pa_cons (pe_ix (show IxR _ (rIxT K) from ix_tup) (pe_dget hu (pv 0) (pv 3) (fun _ _ => rfl)) pe_int (fun _ _ => rfl)) (pa_cons (pv 3) pa_nil)))))) pa_nil))) (blkOk_by (own := [("place", 2), ("row", 3)]) (N := ["model", "lst", "place", "row"]) (sc := defScope sLRows) (by decide +kernel)) (fun _ _ _ _ _ => (pg_tup rfl (pgs_cons (pg_name (i := 2) nd rfl (Or.inl rfl) (.inr rfl)) (pgs_cons (pg_name (i := 3) nd rfl (Or.inl rfl) (.inr rfl)) pgs_nil)))) (fun _ _ _ _ _ => pts_nil) (fun _ _ _ _ _ => (pv 3))))), ?_⟩
    obtain ⟨kvs, hd, hE, hN⟩ := hM
    refine ⟨d, _, hd, trivial, fun od => ?_⟩
    have sHf : ∀ x o, x ≠ d → H x = some o → upd H d (.frz od (.dK kvs)) x = some o := fun x o n e => (upd_ne n).trans e
    have fd0 : upd H d (.frz od (.dK kvs)) d = some (.frz od (.dK kvs)) := upd_same
    have hE2 : Paired (Ent (upd H d (.frz od (.dK kvs)))) kvs rows := pr_imp (fun kv x z => ⟨z.k, z.v.imp fun t h => ⟨h.1, sHf _ _ (fun e => by rw [e, hd] at h; cases h.2) h.2⟩⟩) hE
    have back : ∀ G, Same (upd H d (.frz od (.dK kvs))) G → Same H (upd G d (.dK kvs)) := fun G sG x o e => by
      by_cases hx : x = d
      · subst hx
        rw [hd] at e
        rw [upd_same]
        exact e
      · rw [upd_ne hx]
        exact sG _ _ (sHf _ _ hx e)
    generalize upd H d (.frz od (.dK kvs)) = Hf at sHf fd0 hE2 back ⊢
    refine ⟨_, rfl, d, od, rfl, .inl ⟨kvs, fd0, fun D nD => ?_⟩⟩
    refine lc_it (walk_keys (d := d) (o := od) (kvs := kvs)) (fun i G => ∃ xs, G D = some (.lst xs) ∧ Paired (PrAt G) xs (prsL (rows.take i) l) ∧ Same Hf G) ⟨[], upd_same, .nil, same_put nD⟩ (fun i G _ h => by obtain ⟨_, _, _, q⟩ := h; exact q _ _ fd0) ?_ ?_
    · rintro i x G' G2 hi ⟨xs, hD2, hP2, sG2⟩ ⟨rfl, key, val, hkv, rfl⟩
      obtain ⟨rw_, hrw, hent⟩ := pr_at hE2 hkv
      obtain ⟨rn, ln, pn⟩ := rw_
      have ek : key = .inr rn := hent.k
      obtain ⟨t, et, ht⟩ := hent.v
      have hval := val_at hE hN hkv
      dsimp only at et ht hval
      subst ek
      subst et
      have ht2 : G2 t = some (.tup [V.str ln, V.int pn]) := sG2 _ _ ht
      have hget : DGet G2 d (V.str rn) (some (V.ref t)) := .inl ⟨kvs, .inr rn, .inr ⟨od, sG2 _ _ fd0⟩, rfl, hval.symm⟩
      have etk : prsL (rows.take (i + 1)) l = prsL (rows.take i) l ++ (if decide (ln = l) = true then [(pn, rn)] else []) := by
        unfold prsL
        rw [flt_take hrw, List.map_append]
        dsimp only
        split <;> rfl
      refine ⟨rfl, ?_⟩
      refine ⟨_, rfl, _, rfl, d, _, rfl, hget, t, _, _, _, rfl, rfl, SqT.of ht2, rfl, _, rfl, rfl, _, rfl, ?_⟩
      rw [str_dec]
      by_cases c : ln = l
      · rw [decide_eq_true c, if_pos rfl] at etk
        rw [decide_eq_true c, if_pos rfl]
        refine ⟨_, rfl, _, rfl, d, _, rfl, hget, t, _, _, _, rfl, rfl, SqT.of ht2, rfl, _, rfl, (by show 2 ≤ sizeLine; decide), fun T2 nT2 => ?_⟩
        have sT2 := same_put (o := .tup [V.int pn, kV (.inr rn)]) nT2
        have hT2 : upd G2 T2 (.tup [V.int pn, kV (.inr rn)]) T2 = some (.tup [V.int pn, V.str rn]) := upd_same
        generalize upd G2 T2 (.tup [V.int pn, kV (.inr rn)]) = G3 at sT2 hT2
        have hxl : xs.length ≤ 1000 := by
          rw [Paired.length hP2, prsL, List.length_map]
          exact Nat.le_trans (List.length_filter_le _ _) (by rw [List.length_take]; omega)
        have sF : Same Hf (upd G3 D (.lst (xs ++ [V.ref T2]))) := fun x o e => by
          rw [upd_ne (ne_of_none e nD)]
          exact sT2 _ _ (sG2 _ _ e)
        have dD : ∀ t zs, G3 t = some (.tup zs) → t ≠ D := fun t zs e e2 => by
          rw [e2, sT2 _ _ hD2] at e
          cases e
        refine ⟨xs, sT2 _ _ hD2, (by rw [sizeLine_eq]; omega), xs ++ [V.ref T2], upd_same, ?_, sF⟩
        rw [etk]
        exact pr_app (pr_imp (fun _ _ z => z.imp fun t h => ⟨h.1, (upd_ne (dD _ _ (sT2 _ _ h.2))).trans (sT2 _ _ h.2)⟩) hP2) (.cons ⟨T2, rfl, (upd_ne (dD _ _ hT2)).trans hT2⟩ .nil)
      · rw [decide_eq_false c, if_neg (by decide), List.append_nil] at etk
        rw [decide_eq_false c, if_neg (by decide)]
        rw [etk]
        exact ⟨xs, hD2, hP2, sG2⟩
    · rintro G ⟨xs, hD, hP, sG⟩
      refine ⟨sG _ _ fd0, ?_⟩
      rw [hE.len, List.take_length] at hP
      have hb := back G sG
      have nDd : D ≠ d := fun e => by rw [e, fd0] at nD; cases nD
      have hD2 : upd G d (.dK kvs) D = some (.lst xs) := (upd_ne nDd).trans hD
      have hP2 : Paired (PrAt (upd G d (.dK kvs))) xs (prsL rows l) := pr_imp (fun x q z => z.imp fun t h => ⟨h.1, (upd_ne (fun e => by rw [e, sG _ _ fd0] at h; cases h.2)).trans h.2⟩) hP
      generalize upd G d (.dK kvs) = G2 at hb hD2 hP2
      have hxl : xs.length ≤ 1000 := by
        rw [Paired.length hP2, prsL, List.length_map]
        exact Nat.le_trans (List.length_filter_le _ _) hlen
      refine ⟨D, xs, datP G2, rfl, SqL.of hD2, fun x hx => ?_, ?_, ?_, fun x hx => ?_, fun p np => ?_⟩
      · obtain ⟨q, _, hq⟩ := pr_mem hP2 x hx
        rw [datP_of hq]
        exact dp_pr hq
      · intro a1 h1 a2 h2
        obtain ⟨x1, hx1, rfl⟩ := List.mem_map.mp h1
        obtain ⟨x2, hx2, rfl⟩ := List.mem_map.mp h2
        obtain ⟨q1, _, hq1⟩ := pr_mem hP2 x1 hx1
        obtain ⟨q2, _, hq2⟩ := pr_mem hP2 x2 hx2
        rw [datP_of hq1, datP_of hq2]
        rfl
      · refine .inl fun a1 h1 => ?_
        obtain ⟨x1, hx1, rfl⟩ := List.mem_map.mp h1
        obtain ⟨q1, _, hq1⟩ := pr_mem hP2 x1 hx1
        exact ⟨_, _, datP_of hq1⟩
      · obtain ⟨q1, _, hq1⟩ := pr_mem hP2 x hx
        rw [datP_of hq1]
        show 1 ≤ 60
        decide
      · have sp := same_put (o := .lst (srtD (datP G2) xs)) np
        have hp0 : upd G2 p (.lst (srtD (datP G2) xs)) p = some (.lst (srtD (datP G2) xs)) := upd_same
        have hP3 : Paired (PrAt (upd G2 p (.lst (srtD (datP G2) xs)))) (srtD (datP G2) xs) (srtP (prsL rows l)) := pr_imp (fun _ _ z => z.same sp) (srt_pr (fun x y z => datP_of z) hP2)
        generalize upd G2 p (.lst (srtD (datP G2) xs)) = G3 at sp hp0 hP3
        generalize srtD (datP G2) xs = zs at hp0 hP3
        have hzl := Paired.length hP3
        have hsl := srt_len rows l
        have hpl := prs_len rows l
        refine ⟨p, rfl, ⟨_, SqL.of hp0⟩, fun D2 nD2 => ?_⟩
        refine lc_it (walk_list (K := K) (a := p) (xs := zs)) (fun i G => G D2 = some (.lst ((((srtP (prsL rows l)).take i).map (·.2)).map V.str)) ∧ Same G3 G) ⟨upd_same, same_put nD2⟩ (fun i G _ h => SqL.of (h.2 _ _ hp0)) ?_ ?_
        · rintro i x G4' G4 hi ⟨hA, s4⟩ ⟨rfl, hx⟩
          obtain ⟨q, hq, t, rfl, ht⟩ := pr_at hP3 hx
          refine ⟨_, _, rfl, SqT.of (s4 _ _ ht), rfl, _, _, rfl, _, _, rfl, rfl, rfl, ?_⟩
          dsimp only [tYes]
          rw [if_pos rfl]
          refine ⟨_, rfl, _, hA, (by rw [List.length_map, List.length_map, List.length_take, sizeLine_eq]; omega), ?_, fun y o z => ?_⟩
          · rw [upd_same, List.take_succ, hq, List.map_append, List.map_append]
            rfl
          · rw [upd_ne (ne_of_none z nD2)]
            exact s4 _ _ z
        rintro G4 ⟨hA, s4⟩
        rw [hzl, List.take_length] at hA
        exact k D2 G4 (free_same (hb.trans sp) nD2) ((hb.trans sp).trans s4) hA
end
end K86

set_option Elab.async false
set_option maxRecDepth 100000
set_option maxHeartbeats 2000000
namespace K86
open PySem PySem.Spec PyProof.Rows L2 He KX
theorem empty_app (x : Str) : Str.empty ++ x = x := by
  obtain ⟨c⟩ := x
  show (⟨#[] ++ c⟩ : Str) = ⟨c⟩
  rw [Array.empty_append]
theorem pad_app (t : Str) : (⟨(List.replicate (if (6 - (t.length : Int)) > 0 then (6 - (t.length : Int)) else 0).toNat 32).toArray⟩ : Str) ++ t = padL 6 t := by
  obtain ⟨c⟩ := t
  show (⟨(List.replicate _ 32).toArray ++ c⟩ : Str) = ⟨_⟩
  congr 1
  have : (if (6 - (((⟨c⟩ : Str).length : Nat) : Int)) > 0 then (6 - (((⟨c⟩ : Str).length : Nat) : Int)) else 0).toNat = 6 - c.size := by
    show (if (6 - ((c.size : Nat) : Int)) > 0 then (6 - ((c.size : Nat) : Int)) else 0).toNat = 6 - c.size
    split <;> omega
  rw [this]
  apply Array.ext'
  simp
theorem nm_strOk {z : Str} (h : isNm z = true) : PyData.strOk z = true := by
  unfold PyData.strOk
  rw [← Array.all_toList, List.all_eq_true]
  intro c hc
  have := (nm_inv h).2.2 c hc
  unfold isLet at this
  simp at this
  exact decide_eq_true (by omega)
theorem strs_shaped {zs : List Str} (h : ∀ z ∈ zs, isNm z = true) : SeqAt.shaped (.list (zs.map PyData.str)) = true := by
  have e1 : ∀ zs : List Str, (∀ z ∈ zs, isNm z = true) → PyData.canLayAll0 (zs.map PyData.str) = true ∧ PyData.depthAll (zs.map PyData.str) = 0 := by
    intro zs
    induction zs with
    | nil => intro _; exact ⟨rfl, rfl⟩
    | cons z r ih =>
      intro h
      obtain ⟨h1, h2⟩ := ih fun y hy => h y (List.mem_cons_of_mem _ hy)
      refine ⟨?_, ?_⟩
      · show (PyData.strOk z && PyData.canLayAll0 (r.map PyData.str)) = true
        rw [nm_strOk (h z List.mem_cons_self), h1]
        rfl
      · show max 0 (PyData.depthAll (r.map PyData.str)) = 0
        rw [h2]
        rfl
  obtain ⟨h1, h2⟩ := e1 zs h
  unfold SeqAt.shaped
  refine Bool.and_eq_true_iff.mpr ⟨h1, decide_eq_true ?_⟩
  show PyData.depthAll (zs.map PyData.str) + 1 ≤ 64
  omega
theorem dp_strs {K : PySem.W.Frag} {H : Hp} : ∀ zs : List Str, DpAll K H (zs.map V.str) (zs.map PyData.str)
  | [] => .nil
  | z :: r => .cons (.str z) (dp_strs r)
theorem srtP_nil : srtP [] = [] := by simp [srtP]
theorem pr_at' {α β : Type} {R : α → β → Prop} : ∀ {xs : List α} {ys : List β}, Paired R xs ys → ∀ {i : Nat} {y : β}, ys[i]? = some y → ∃ x, xs[i]? = some x ∧ R x y
  | _, _, .nil, _, _, e => by simp at e
  | _, _, .cons h t, 0, y, e => by
    cases e
    exact ⟨_, rfl, h⟩
  | _, _, .cons h t, i + 1, y, e => pr_at' t (i := i) e
theorem MdAt.same {H G : Hp} {d : Addr} {rows : List Rw} (h : MdAt H d rows) (s : Same H G) : MdAt G d rows := by
  obtain ⟨kvs, h1, h2, h3⟩ := h
  exact ⟨kvs, s _ _ h1, pr_imp (fun _ _ z => z.same s) h2, h3⟩
/-- what a name of a row finds in a dict of rows -/
theorem MdAt.find {H : Hp} {d : Addr} {rows : List Rw} (h : MdAt H d rows) {x : Rw} (hx : x ∈ rows) : ∃ t, DGet H d (V.str x.1) (some (V.ref t)) ∧ H t = some (.tup [V.str x.2.1, V.int x.2.2]) := by
  obtain ⟨kvs, h1, h2, h3⟩ := h
  obtain ⟨i, hi⟩ := List.getElem?_of_mem hx
  obtain ⟨kv, hkv, hent⟩ := pr_at' h2 hi
  obtain ⟨t, et, ht⟩ := hent.v
  have hv := val_at h2 h3 hkv
  rw [et] at hv
  exact ⟨t, .inl ⟨kvs, kv.1, .inl h1, by rw [hent.k]; rfl, hv.symm⟩, ht⟩
def strD (v : V) : PyData := match v with | .str x => .str x | _ => .none
theorem srt_strs (ls : List Str) : srtD strD (ls.map V.str) = (ls.mergeSort leS).map V.str := by
  have : Paired (fun (v : V) (x : Str) => v = V.str x) (ls.map V.str) ls := by
    induction ls with
    | nil => exact .nil
    | cons l r ih => exact .cons rfl ih
  have h := srt_pr (d := strD) (e := PyData.str) (fun v x e => by rw [e]; rfl) this
  have : ∀ {xs : List V} {ys : List Str}, Paired (fun (v : V) (x : Str) => v = V.str x) xs ys → xs = ys.map V.str := by
    intro xs ys h
    induction h with
    | nil => rfl
    | cons h _ ih => rw [List.map_cons, h, ih]
  exact this h
theorem leS_iff (a b : Str) : leS a b = decide (a.cps.toList ≤ b.cps.toList) := by
  unfold leS
  exact congrFun (congrFun (PySem.W.dataLe_str (fun x : Str => x)) a) b
theorem leS_trans (a b c : Str) (h1 : leS a b = true) (h2 : leS b c = true) : leS a c = true := by
  rw [leS_iff] at *
  exact decide_eq_true (List.le_trans (of_decide_eq_true h1) (of_decide_eq_true h2))
theorem leS_total (a b : Str) : (leS a b || leS b a) = true := by
  rw [leS_iff, leS_iff, Bool.or_eq_true]
  rcases List.le_total a.cps.toList b.cps.toList with h | h
  · exact .inl (decide_eq_true h)
  · exact .inr (decide_eq_true h)
theorem leS_anti (a b : Str) (h1 : leS a b = true) (h2 : leS b a = true) : a = b := by
  rw [leS_iff] at *
  have := List.le_antisymm (of_decide_eq_true h1) (of_decide_eq_true h2)
  obtain ⟨x⟩ := a
  obtain ⟨y⟩ := b
  congr 1
  exact Array.toList_inj.mp this
theorem one_order : ∀ {xs ys : List Str}, xs.Pairwise (fun a b => leS a b = true) → ys.Pairwise (fun a b => leS a b = true) → xs.Nodup → ys.Nodup → (∀ x, x ∈ xs ↔ x ∈ ys) → xs = ys := by
  intro xs ys h1 h2 n1 n2 hm
  have hp : xs.Perm ys := (List.perm_ext_iff_of_nodup n1 n2).mpr hm
  exact hp.eq_of_pairwise (fun a b _ _ h1 h2 => leS_anti a b h1 h2) h1 h2
theorem prs_none (rows : List Rw) (l : Str) : prsL rows l = [] ↔ l ∉ rows.map fun x => x.2.1 := by
  unfold prsL
  rw [List.map_eq_nil_iff, List.filter_eq_nil_iff, List.mem_map]
  constructor
  · rintro h ⟨x, hx, e⟩
    exact h x hx (decide_eq_true e)
  · intro h x hx e
    exact h ⟨x, hx, of_decide_eq_true e⟩
/-- the names of the lists that have rows: the program's are the law's -/
theorem names_eq {rows : List Rw} {ns ls : List Str} (hN : NmL rows ns) (hnd : ls.Nodup) (hin : ∀ x ∈ rows, x.2.1 ∈ ls) : ns = (ls.filter fun l => decide (prsL rows l ≠ [])).mergeSort leS := by
  obtain ⟨L', hL, rfl⟩ := hN
  refine one_order (List.pairwise_mergeSort leS_trans leS_total L') (List.pairwise_mergeSort leS_trans leS_total _) ?_ ?_ ?_
  · exact (List.mergeSort_perm L' leS).nodup_iff.mpr (hL.nodup_iff.mpr (uniqS_nodup _))
  · exact (List.mergeSort_perm _ leS).nodup_iff.mpr (hnd.filter _)
  · intro x
    rw [List.mem_mergeSort, hL.mem_iff, uniqS_mem, List.mem_mergeSort, List.mem_filter]
    constructor
    · intro h
      obtain ⟨y, hy, e⟩ := List.mem_map.mp h
      exact ⟨e ▸ hin y hy, decide_eq_true fun z => (prs_none rows x).mp z h⟩
    · rintro ⟨_, h⟩
      have := of_decide_eq_true h
      exact Classical.byContradiction fun z => this ((prs_none rows x).mpr z)
end K86

set_option Elab.async false
set_option maxRecDepth 100000
set_option maxHeartbeats 2000000
namespace K86
open PySem PySem.Spec PyProof.Rows L2 He KX
/-- what stands in a turn of the law: the bag b, the board a, the dict md, the lists L and N of names -/
structure ST (K : PySem.W.Frag) (H0 G : Hp) (b a md L N : Addr) (ls nms : List Str) (rows : List Rw) (n : Int) : Prop where
  bag : Bag G b n
  bd : BdAt K G a rows
  mdl : MdAt G md rows
  sep : ∀ dx d, G a = some (.ins (ga K "Board") dx [("_spots", V.ref d)]) → d ≠ md
  hl : G L = some (.lst (ls.map V.str))
  hn : G N = some (.lst (nms.map V.str))
  lb : L ≠ b
  nb : N ≠ b
  kept : Same H0 G
  fb : H0 b = none
  fa : H0 a = none
  fm : H0 md = none
theorem bag_lst {G : Hp} {b : Addr} {n : Int} (h : Bag G b n) : ∃ xs, G b = some (.lst xs) := by
  obtain ⟨d, m, c, e, _⟩ := h
  exact ⟨_, e⟩
section
variable {K : PySem.W.Frag} {H0 G G' : Hp} {b a md L N : Addr} {ls nms : List Str} {rows : List Rw} {n n' : Int}
theorem ST.ab (h : ST K H0 G b a md L N ls nms rows n) : a ≠ b := by
  obtain ⟨xs, e⟩ := bag_lst h.bag
  obtain ⟨dx, d, kvs, ha, _⟩ := h.bd
  rintro rfl
  rw [e] at ha
  cases ha
theorem ST.mb (h : ST K H0 G b a md L N ls nms rows n) : md ≠ b := by
  obtain ⟨xs, e⟩ := bag_lst h.bag
  obtain ⟨kvs, ha, _⟩ := h.mdl
  rintro rfl
  rw [e] at ha
  cases ha
theorem ST.draw (h : ST K H0 G b a md L N ls nms rows n) (k : But b G G') (hB : Bag G' b n') : ST K H0 G' b a md L N ls nms rows n' := by
  obtain ⟨xs, e⟩ := bag_lst h.bag
  have kk := k.kept
  have ht : ∀ zs, G b ≠ some (.tup zs) := fun zs z => by rw [e] at z; cases z
  have hd : ∀ zs, G b ≠ some (.dK zs) := fun zs z => by rw [e] at z; cases z
  exact ⟨hB, h.bd.kept kk h.ab ht hd, h.mdl.kept kk h.mb ht, fun dx d z => h.sep dx d ((k a h.ab).symm.trans z), kk _ _ h.lb h.hl, kk _ _ h.nb h.hn, h.lb, h.nb, fun x o z => kk _ _ (ne_of_none z h.fb) (h.kept _ _ z), h.fb, h.fa, h.fm⟩
theorem ST.same (h : ST K H0 G b a md L N ls nms rows n) (s : Same G G') : ST K H0 G' b a md L N ls nms rows n := by
  obtain ⟨d, m, c, e, r⟩ := h.bag
  obtain ⟨dx, d', kvs, ha, _⟩ := id h.bd
  refine ⟨⟨d, m, c, s _ _ e, r⟩, h.bd.same s, h.mdl.same s, fun dx2 d2 z => ?_, s _ _ h.hl, s _ _ h.hn, h.lb, h.nb, h.kept.trans s, h.fb, h.fa, h.fm⟩
  rw [s _ _ ha] at z
  cases z
  exact h.sep dx d' ha
/-- the board changed -/
theorem ST.brd {rows' : List Rw} (h : ST K H0 G b a md L N ls nms rows n) (k : Kept a G G') (hB : BdAt K G' a rows') (hN : BdNew K G G' a) :
    Bag G' b n ∧ MdAt G' md rows ∧ (∀ dx d, G' a = some (.ins (ga K "Board") dx [("_spots", V.ref d)]) → d ≠ md) ∧ G' L = some (.lst (ls.map V.str)) ∧ G' N = some (.lst (nms.map V.str)) ∧ Same H0 G' := by
  obtain ⟨dx, d', kvs, ha, _⟩ := id h.bd
  have ht : ∀ zs, G a ≠ some (.tup zs) := fun zs z => by rw [ha] at z; cases z
  obtain ⟨kvs2, hm, hm2⟩ := id h.mdl
  have hma : md ≠ a := by rintro rfl; rw [ha] at hm; cases hm
  have hLa : L ≠ a := fun e => by have := h.hl; rw [e, ha] at this; cases this
  have hNa : N ≠ a := fun e => by have := h.hn; rw [e, ha] at this; cases this
  obtain ⟨d, m, c, e, r⟩ := h.bag
  refine ⟨⟨d, m, c, k _ _ h.ab.symm e, r⟩, h.mdl.kept k hma ht, fun dx2 d2 z => ?_, k _ _ hLa h.hl, k _ _ hNa h.hn, fun x o z => k _ _ (ne_of_none z h.fa) (h.kept _ _ z)⟩
  rintro rfl
  have := hN dx2 _ z
  rw [hm] at this
  cases this
/-- the board is written, and the dict behind it -/
theorem ST.write {r l : Str} {p : Int} {t : Addr} (h : ST K H0 G b a md L N ls nms rows n) (k : Kept a G G') (hB : BdAt K G' a (putR rows r l p)) (hN : BdNew K G G' a) (ht : G t = some (.tup [V.str l, V.int p])) :
    ∃ kvs, G' md = some (.dK kvs) ∧ kvs.length = rows.length ∧ ST K H0 (upd G' md (.dK (putK kvs (.inr r) (V.ref t)))) b a md L N ls nms (putR rows r l p) n := by
  obtain ⟨hbag, hmd, hsep, hl, hn, hk⟩ := h.brd k hB hN
  obtain ⟨dx, d', kvs0, ha, _⟩ := id h.bd
  have hta : t ≠ a := fun e => by rw [e, ha] at ht; cases ht
  have ht' := k _ _ hta ht
  obtain ⟨kvs, hm, hE, hNd⟩ := hmd
  obtain ⟨dx2, d2, kvs2, ha2, hd2, hE2, hN2⟩ := hB
  have hds := hsep dx2 d2 ha2
  have ham : a ≠ md := fun e => by rw [e, hm] at ha2; cases ha2
  have ne : ∀ x zs, G' x = some (.tup zs) → x ≠ md := fun x zs z e => by rw [e, hm] at z; cases z
  have hLm : L ≠ md := fun e => by rw [e, hm] at hl; cases hl
  have hNm : N ≠ md := fun e => by rw [e, hm] at hn; cases hn
  obtain ⟨d, m, c, e, rr⟩ := hbag
  have hbm : b ≠ md := fun e2 => by rw [e2, hm] at e; cases e
  have mv : ∀ (kv : Key × V) (x : Rw), Ent G' kv x → Ent (upd G' md (.dK (putK kvs (.inr r) (V.ref t)))) kv x := fun kv x z => ⟨z.k, z.v.imp fun t h => ⟨h.1, (upd_ne (ne _ _ h.2)).trans h.2⟩⟩
  refine ⟨kvs, hm, hE.len, ⟨⟨d, m, c, (upd_ne hbm).trans e, rr⟩, ⟨dx2, d2, kvs2, (upd_ne ham).trans ha2, (upd_ne hds).trans hd2, pr_imp mv hE2, hN2⟩, ⟨_, upd_same, Ents.put (pr_imp mv hE) ((upd_ne (ne _ _ ht')).trans ht'), putR_names _ _ _ _ hNd⟩, fun dx3 d3 z => ?_, (upd_ne hLm).trans hl, (upd_ne hNm).trans hn, h.lb, h.nb, fun x o z => ?_, h.fb, h.fa, h.fm⟩⟩
  · rw [upd_ne ham] at z
    exact hsep dx3 d3 z
  · rw [upd_ne (ne_of_none z h.fm)]
    exact hk _ _ z
end
end K86

set_option Elab.async false
set_option maxRecDepth 100000
set_option maxHeartbeats 2000000
namespace K86
open PySem PySem.Spec PyProof.Rows L2 He KX
abbrev sBLen : Stmt := inClass (top 13) 5
abbrev sBAt : Stmt := inClass (top 13) 7
abbrev sBRows : Stmt := inClass (top 13) 9
abbrev sBPlaces : Stmt := inClass (top 13) 10
abbrev sBGet : Stmt := inClass (top 13) 3
def spLen (K : PySem.W.Frag) : Sp := fun vs H Q _ => ∃ (a : Addr) (rows : List Rw), vs = [.ref a] ∧ BdAt K H a rows ∧ Q (.int (rows.length : Nat)) H
def spAt (K : PySem.W.Frag) : Sp := fun vs H Q _ => ∃ (a : Addr) (rows : List Rw) (x : Rw), vs = [.ref a, .str x.1] ∧ BdAt K H a rows ∧ x.1.length ≤ 1000 ∧ x ∈ rows ∧ ∀ t, H t = some (.tup [V.str x.2.1, V.int x.2.2]) → Q (.ref t) H
def spRowsOf (K : PySem.W.Frag) : Sp := fun vs H Q _ => ∃ (a : Addr) (rows : List Rw) (l : Str), vs = [.ref a, .str l] ∧ BdAt K H a rows ∧ rows.length ≤ 1000 ∧ ∀ p H', H p = none → Same H H' → H' p = some (.lst (((srtP (prsL rows l)).map (·.2)).map V.str)) → Q (.ref p) H'
def spPlacesOf (K : PySem.W.Frag) : Sp := fun vs H Q _ => ∃ (a : Addr) (rows : List Rw) (l : Str), vs = [.ref a, .str l] ∧ BdAt K H a rows ∧ rows.length ≤ 1000 ∧ ∀ p H', H p = none → Same H H' → H' p = some (.lst (((srtP (prsL rows l)).map (·.1)).map V.int)) → Q (.ref p) H'
def spGet (K : PySem.W.Frag) : Sp := fun vs H Q _ => ∃ (a t : Addr) (rows : List Rw) (l : Str) (p : Int) (q : Pr), vs = [.ref a, .ref t] ∧ BdAt K H a rows ∧ SqT K H t [.str l, .int p] ∧ rows.length ≤ 1000 ∧ (srtP (prsL rows l)).find? (fun x => decide (x.1 = p)) = some q ∧ ∀ H', Same H H' → Q (.str q.2) H'
theorem find_at {α : Type} {p : α → Bool} {xs : List α} {i : Nat} {x : α} (h : xs[i]? = some x) (hx : p x = true) (hn : ∀ y ∈ xs.take i, p y = false) : xs.find? p = some x := by
  have e : xs = xs.take i ++ (x :: xs.drop (i + 1)) := by
    have hi := (List.getElem?_eq_some_iff.mp h).1
    have hv := (List.getElem?_eq_some_iff.mp h).2
    conv => lhs; rw [← List.take_append_drop i xs]
    rw [List.drop_eq_getElem_cons hi, hv]
  rw [e, List.find?_append, List.find?_eq_none.mpr (fun y hy => by rw [hn y hy]; decide), Option.none_or, List.find?_cons, hx]
theorem take_next {α : Type} {p : α → Bool} {xs : List α} {i : Nat} {x : α} (h : xs[i]? = some x) (hx : p x = false) (hn : ∀ y ∈ xs.take i, p y = false) : ∀ y ∈ xs.take (i + 1), p y = false := by
  intro y hy
  rw [List.take_succ, h] at hy
  rcases List.mem_append.mp hy with hy | hy
  · exact hn y hy
  · rw [show y = x by simpa using hy]
    exact hx
theorem find_no {α : Type} {p : α → Bool} {xs : List α} (hn : ∀ y ∈ xs, p y = false) : xs.find? p = none := List.find?_eq_none.mpr (fun y hy => by rw [hn y hy]; decide)
section
variable {P : Program} {w : World} {K : PySem.W.Frag} {mg : Str → Option Value} {base : Heap}
theorem scBLen : FnScope ["self"] ["self"] (defScope sBLen) := ⟨rfl, rfl, rfl, by decide +kernel, rfl, by decide +kernel, by decide +kernel⟩
theorem ok_blen {f : Addr} {fd : FuncData} (F : MtP K "__len__" "Board.__len__" sBLen f fd) (S : Brd K) (n_len : mg "len" = none) : FnOk P w K mg base CX0 1 f fd ["self"] (spLen K) := by
  refine F.ok scBLen (fun vs H Q E h => ?_) (fun cdv A outer s H vs Q E hr h => ?_)
  · obtain ⟨a, rows, rfl, _⟩ := h
    rfl
  · obtain ⟨a, rows, rfl, hB, k⟩ := h
    have nd := scBLen.nd
    refine ⟨_, PSs.nox (pss_one (ps_ret (pe_callB call_lenD (by rfl) n_len PySem.boot_len (pa_cons (pe_fld (pv 0) rfl) pa_nil)))), ?_⟩
    obtain ⟨dx, d, kvs, ha, hd, hE, hN⟩ := hB
    rw [← hE.len] at k
    exact ⟨_, rfl, _, _, _, _, _, rfl, ha, S.cls, S.noat, rfl, _, _, rfl, hd, k⟩
theorem scBAt : FnScope ["self", "row"] ["self", "row"] (defScope sBAt) := ⟨rfl, rfl, rfl, by decide +kernel, rfl, by decide +kernel, by decide +kernel⟩
theorem ok_bat {f : Addr} {fd fdHas : FuncData} (F : MtP K "at" "Board.at" sBAt f fd) (S : Brd K)
    (GHas : FnOk P w K mg base CX0 1 (ma K (ga K "Board") "__contains__") fdHas ["self", "x"] (spHas K)) (bHas : Binds K fdHas ["self", "x"] []) : FnOk P w K mg base CX0 2 f fd ["self", "row"] (spAt K) := by
  refine F.ok scBAt (fun vs H Q E h => ?_) (fun cdv A outer s H vs Q E hr h => ?_)
  · obtain ⟨a, rows, x, rfl, _⟩ := h
    rfl
  · obtain ⟨a, rows, x, rfl, hB, hlen, hx, k⟩ := h
    have nd := scBAt.nd
    have hr1 := hr.mono (j := 1) (by decide)
    have hu := Nat.lt_of_le_of_lt (Nat.add_le_add_left (by decide : 1 ≤ 64) _) hr.units
    refine ⟨_, PSs.nox (pss_cons (ps_if (pt_cmpR (op_notInO (S.mth "__contains__" (by decide)) GHas hr1 bHas pass0) (pv 1) (pv 0) rfl)
(pss_one (ps_never))
pss_nil)
(pss_one (ps_ret (pe_dget hu (pe_fld (pv 0) rfl) (pv 1) (fun _ _ => rfl))))), ?_⟩
    obtain ⟨dx, d, kvs, ha, hd, hE, hN⟩ := id hB
    have hany : (rows.any fun y => decide (y.1 = x.1)) = true := List.any_eq_true.mpr ⟨x, hx, decide_eq_true rfl⟩
    refine ⟨_, rfl, _, rfl, a, rfl, ⟨_, _, ha⟩, a, rows, x.1, rfl, hB, hlen, _, rfl, ?_⟩
    rw [hany]
    refine ⟨_, rfl, ?_⟩
    refine no rfl ?_
    obtain ⟨i, hi⟩ := List.getElem?_of_mem hx
    obtain ⟨kv, hkv, hent⟩ := pr_at' hE hi
    obtain ⟨t, et, ht⟩ := hent.v
    have hv := val_at hE hN hkv
    rw [et] at hv
    refine ⟨_, rfl, a, _, dx, _, _, rfl, ha, S.cls, S.noat, rfl, _, rfl, d, _, rfl, .inl ⟨kvs, kv.1, .inl hd, by rw [hent.k]; rfl, hv.symm⟩, ?_⟩
    exact k t ht
theorem scBRows : FnScope ["self", "lst", "place", "row"] ["self", "lst"] (defScope sBRows) := ⟨rfl, rfl, rfl, by decide +kernel, rfl, by decide +kernel, by decide +kernel⟩
theorem ok_brows {f : Addr} {fd fdPs : FuncData} (F : MtP K "rows_of" "Board.rows_of" sBRows f fd) (S : Brd K)
    (GPs : FnOk P w K mg base CX0 1 (ma K (ga K "Board") "_pairs") fdPs ["self", "lst"] (spPairs K)) (bPs : Binds K fdPs ["self", "lst"] []) : FnOk P w K mg base CX0 2 f fd ["self", "lst"] (spRowsOf K) := by
  refine F.ok scBRows (fun vs H Q E h => ?_) (fun cdv A outer s H vs Q E hr h => ?_)
  · obtain ⟨a, rows, l, rfl, _⟩ := h
    rfl
  · obtain ⟨a, rows, l, rfl, hB, hlen, k⟩ := h
    have nd := scBRows.nd
    have hr1 := hr.mono (j := 1) (by decide)
    refine ⟨_, PSs.nox (pss_one (ps_ret (pe_lc (own := [("place", 2), ("row", 3)]) (g := (gTup K 2 (gCons (gName 2) (gCons (gName 3) gNil)))) (tt := tYes) rfl nd (pi_list (pe_meth (pv 0) S.cls (S.mth "_pairs" (by decide)) GPs hr1 bPs .nil pass0 (pa_cons (pv 1) pa_nil))) (blkOk_by (own := [("place", 2), ("row", 3)]) (N := ["self", "lst", "place", "row"]) (sc := defScope sBRows) (by decide +kernel)) (fun _ _ _ _ _ => (pg_tup rfl (pgs_cons (pg_name (i := 2) nd rfl (Or.inl rfl) (.inr rfl)) (pgs_cons (pg_name (i := 3) nd rfl (Or.inl rfl) (.inr rfl)) pgs_nil)))) (fun _ _ _ _ _ => pts_nil) (fun _ _ _ _ _ => (pv 3))))), ?_⟩
    obtain ⟨dx, d, kvs, ha, hd, hE, hN⟩ := id hB
    refine ⟨_, rfl, a, dx, _, rfl, ha, rfl, _, rfl, a, rows, l, rfl, hB, hlen, fun p zs G1 np s1 hp hP => ⟨p, rfl, ⟨_, SqL.of hp⟩, fun D nD => ?_⟩⟩
    have hzl := Paired.length hP
    have hsl := srt_len rows l
    have hpl := prs_len rows l
    refine lc_it (walk_list (K := K) (a := p) (xs := zs)) (fun i G => G D = some (.lst ((((srtP (prsL rows l)).take i).map (·.2)).map V.str)) ∧ Same G1 G) ⟨upd_same, same_put nD⟩ (fun i G _ h => SqL.of (h.2 _ _ hp)) ?_ ?_
    · rintro i x G4' G4 hi ⟨hA, s4⟩ ⟨rfl, hx⟩
      obtain ⟨q, hq, t, rfl, ht⟩ := pr_at hP hx
      refine ⟨_, _, rfl, SqT.of (s4 _ _ ht), rfl, _, _, rfl, _, _, rfl, rfl, rfl, ?_⟩
      dsimp only [tYes]
      rw [if_pos rfl]
      refine ⟨_, rfl, _, hA, (by rw [List.length_map, List.length_map, List.length_take, sizeLine_eq]; omega), ?_, fun y o z => ?_⟩
      · rw [upd_same, List.take_succ, hq, List.map_append, List.map_append]
        rfl
      · rw [upd_ne (ne_of_none z nD)]
        exact s4 _ _ z
    rintro G4 ⟨hA, s4⟩
    rw [hzl, List.take_length] at hA
    exact k D G4 (free_same s1 nD) (s1.trans s4) hA
theorem scBPlaces : FnScope ["self", "lst", "place", "row"] ["self", "lst"] (defScope sBPlaces) := ⟨rfl, rfl, rfl, by decide +kernel, rfl, by decide +kernel, by decide +kernel⟩
theorem ok_bplaces {f : Addr} {fd fdPs : FuncData} (F : MtP K "places_of" "Board.places_of" sBPlaces f fd) (S : Brd K)
    (GPs : FnOk P w K mg base CX0 1 (ma K (ga K "Board") "_pairs") fdPs ["self", "lst"] (spPairs K)) (bPs : Binds K fdPs ["self", "lst"] []) : FnOk P w K mg base CX0 2 f fd ["self", "lst"] (spPlacesOf K) := by
  refine F.ok scBPlaces (fun vs H Q E h => ?_) (fun cdv A outer s H vs Q E hr h => ?_)
  · obtain ⟨a, rows, l, rfl, _⟩ := h
    rfl
  · obtain ⟨a, rows, l, rfl, hB, hlen, k⟩ := h
    have nd := scBPlaces.nd
    have hr1 := hr.mono (j := 1) (by decide)
    refine ⟨_, PSs.nox (pss_one (ps_ret (pe_lc (own := [("place", 2), ("row", 3)]) (g := (gTup K 2 (gCons (gName 2) (gCons (gName 3) gNil)))) (tt := tYes) rfl nd (pi_list (pe_meth (pv 0) S.cls (S.mth "_pairs" (by decide)) GPs hr1 bPs .nil pass0 (pa_cons (pv 1) pa_nil))) (blkOk_by (own := [("place", 2), ("row", 3)]) (N := ["self", "lst", "place", "row"]) (sc := defScope sBPlaces) (by decide +kernel)) (fun _ _ _ _ _ => (pg_tup rfl (pgs_cons (pg_name (i := 2) nd rfl (Or.inl rfl) (.inr rfl)) (pgs_cons (pg_name (i := 3) nd rfl (Or.inl rfl) (.inr rfl)) pgs_nil)))) (fun _ _ _ _ _ => pts_nil) (fun _ _ _ _ _ => (pv 2))))), ?_⟩
    obtain ⟨dx, d, kvs, ha, hd, hE, hN⟩ := id hB
    refine ⟨_, rfl, a, dx, _, rfl, ha, rfl, _, rfl, a, rows, l, rfl, hB, hlen, fun p zs G1 np s1 hp hP => ⟨p, rfl, ⟨_, SqL.of hp⟩, fun D nD => ?_⟩⟩
    have hzl := Paired.length hP
    have hsl := srt_len rows l
    have hpl := prs_len rows l
    refine lc_it (walk_list (K := K) (a := p) (xs := zs)) (fun i G => G D = some (.lst ((((srtP (prsL rows l)).take i).map (·.1)).map V.int)) ∧ Same G1 G) ⟨upd_same, same_put nD⟩ (fun i G _ h => SqL.of (h.2 _ _ hp)) ?_ ?_
    · rintro i x G4' G4 hi ⟨hA, s4⟩ ⟨rfl, hx⟩
      obtain ⟨q, hq, t, rfl, ht⟩ := pr_at hP hx
      refine ⟨_, _, rfl, SqT.of (s4 _ _ ht), rfl, _, _, rfl, _, _, rfl, rfl, rfl, ?_⟩
      dsimp only [tYes]
      rw [if_pos rfl]
      refine ⟨_, rfl, _, hA, (by rw [List.length_map, List.length_map, List.length_take, sizeLine_eq]; omega), ?_, fun y o z => ?_⟩
      · rw [upd_same, List.take_succ, hq, List.map_append, List.map_append]
        rfl
      · rw [upd_ne (ne_of_none z nD)]
        exact s4 _ _ z
    rintro G4 ⟨hA, s4⟩
    rw [hzl, List.take_length] at hA
    exact k D G4 (free_same s1 nD) (s1.trans s4) hA
theorem scBGet : FnScope ["self", "at", "lst", "place", "standing", "row"] ["self", "at"] (defScope sBGet) := ⟨rfl, rfl, rfl, by decide +kernel, rfl, by decide +kernel, by decide +kernel⟩
theorem ok_bget {f fI : Addr} {fd fdI fdPs : FuncData} (F : MtP K "__getitem__" "Board.__getitem__" sBGet f fd) (S : Brd K)
    (GI : FnOk P w K mg base CX0 1 fI fdI ["thing"] (spInt K)) (bI : Binds K fdI ["thing"] []) (kI : PySem.W.keepIn K (.ref fI) = true) (gI : mg "is_integer" = some (.ref fI))
    (GPs : FnOk P w K mg base CX0 1 (ma K (ga K "Board") "_pairs") fdPs ["self", "lst"] (spPairs K)) (bPs : Binds K fdPs ["self", "lst"] []) : FnOk P w K mg base CX0 2 f fd ["self", "at"] (spGet K) := by
  refine F.ok scBGet (fun vs H Q E h => ?_) (fun cdv A outer s H vs Q E hr h => ?_)
  · obtain ⟨a, t, rows, l, p, q, rfl, _⟩ := h
    rfl
  · obtain ⟨a, t, rows, l, p, q, rfl, hB, hT, hlen, hq, k⟩ := h
    have nd := scBGet.nd
    have hr1 := hr.mono (j := 1) (by decide)
    have hu := Nat.lt_of_le_of_lt (Nat.add_le_add_left (by decide : 1 ≤ 64) _) hr.units
    refine ⟨_, PSs.nox (pss_cons (ps_asg (pv 1) (pg_tup rfl (pgs_cons (pg_name (i := 2) nd rfl (Or.inl rfl)) (pgs_cons (pg_name (i := 3) nd rfl (Or.inl rfl)) pgs_nil))))
(pss_cons (ps_if (pt_val (pe_call GI hr1 (by rfl) gI kI bI .nil pass0 (pa_cons (pv 3) pa_nil)))
(pss_one (ps_for PassesOwn.never rfl (pi_list (pe_meth (pv 0) S.cls (S.mth "_pairs" (by decide)) GPs hr1 bPs .nil pass0 (pa_cons (pv 2) pa_nil))) (pg_tup rfl (pgs_cons (pg_name (i := 4) nd rfl (Or.inl rfl)) (pgs_cons (pg_name (i := 5) nd rfl (Or.inl rfl)) pgs_nil)))
(pss_one (ps_if (pt_cmpR op_eq (pv 4) (pv 3) (nomark _))
(pss_one (ps_ret (pv 5)))
pss_nil))))
pss_nil)
(pss_one (ps_never)))), ?_⟩
    refine ⟨_, rfl, _, _, rfl, hT, rfl, _, _, rfl, _, _, rfl, rfl, ?_⟩
    dsimp only [gName, List.set]
    refine ⟨_, rfl, _, .int p, rfl, .int p, _, rfl, yes rfl ?_⟩
    obtain ⟨dx, d, kvs, ha, hd, hE, hN⟩ := id hB
    refine ⟨_, rfl, a, dx, _, rfl, ha, rfl, _, rfl, a, rows, l, rfl, hB, hlen, fun p1 zs G1 np s1 hp hP => ⟨p1, rfl, ⟨_, SqL.of hp⟩, ?_⟩⟩
    refine for_it (walk_list (K := K) (a := p1) (xs := zs)) (fun i σ G => ∃ v4 v5, σ = [some (.ref a), some (.ref t), some (.str l), some (.int p), v4, v5] ∧ G1 = G ∧ ∀ y ∈ (srtP (prsL rows l)).take i, decide (y.1 = p) = false)
      ⟨none, none, rfl, rfl, by simp⟩ (fun _ _ _ _ h => by obtain ⟨_, _, _, rfl, _⟩ := h; exact SqL.of hp) ?_ ?_
    · rintro i x σ G' G hi ⟨v4, v5, rfl, rfl, hno⟩ ⟨rfl, hx⟩
      obtain ⟨y, hy, T, rfl, ht⟩ := pr_at hP hx
      refine ⟨_, _, rfl, SqT.of ht, rfl, _, _, rfl, _, _, rfl, rfl, ?_⟩
      dsimp only [gName, List.set]
      refine ⟨_, rfl, _, rfl, rfl, _, rfl, ?_⟩
      dsimp only
      by_cases c : y.1 = p
      · rw [if_pos (by rw [c]; exact decide_eq_true rfl)]
        have e := find_at (p := fun x : Pr => decide (x.1 = p)) hy (decide_eq_true c) hno
        rw [e] at hq
        cases hq
        exact ⟨_, rfl, k _ s1⟩
      · rw [if_neg (fun z => c (by have := of_decide_eq_true z; injection this))]
        exact ⟨_, _, rfl, rfl, take_next hy (decide_eq_false c) hno⟩
    · rintro σ G ⟨v4, v5, rfl, rfl, hno⟩
      rw [Paired.length hP, List.take_length] at hno
      rw [find_no hno] at hq
      cases hq
end
end K86

set_option Elab.async false
set_option maxRecDepth 100000
set_option maxHeartbeats 2000000
/-! o[i] by an own __getitem__. -/
namespace KX
open PySem PySem.Spec PySem.Calls PyProof.Rows L2
theorem FunD_fn {K : PySem.W.Frag} {x qual : Str} {params : Arguments} {body : List Stmt} {scope : Scope} {dvs : List V} {kws : List (Str × V)} {f : Addr} {fd : FuncData} (F : FunD K x qual params body scope dvs kws f fd) : PySem.W.fnIn K f = true := by
  obtain ⟨oc, od, dV, kV, doc, pm, an, cdv, ct, osl, _, lk, _⟩ := F.ex
  unfold PySem.W.fnIn
  rw [lk]
section
variable {X : Cx} {CX : CXT} {k : Nat} {f C : Addr} {fd : FuncData} {ps : List Str} {sp : Sp} {E : XK} {a b : Expr} {ta tb : TE} {pos : Pos}
/-- o[i], one call deeper -/
theorem pe_ixO (m : Meth X.K C "__getitem__" f) (hfn : PySem.W.fnIn X.K f = true) (F : FnOk X.prog X.w X.K X.mg X.base CX k f fd ps sp) (hr : Room (k + 1) X.A) (hb : Binds X.K fd ps []) (hx : Passes CX X E) (ha : PE X a ta) (hb' : PE X b tb)
    (hsl : ∀ o i, subscripted b true o i = runValue (.builtin "lifetime.subscript" ⟨[o, i], []⟩) := by intro _ _; rfl) :
    PE X (.Subscript a b pos) (tOp (fun x y H Q => ∃ p, x = .ref p ∧ InsT H p C ∧ sp [.ref p, y] H Q E) ta tb) := by
  refine ⟨fun pins s σ H Q I h => ?_⟩
  refine Subscript_ (binT ha hb' I h fun v u s2 x y H2 I2 rx ry q => ?_)
  obtain ⟨p, rfl, hi, q⟩ := q
  cases (show v = Value.ref p from rx)
  obtain ⟨ox, od, J⟩ := insT_at I2 hi
  obtain ⟨m', fr⟩ := I2.fr
  exact PySem.W.sub_K fr I2.mod.kin J m.at_ hfn m.fn (run_in1 F hr hb hx I2 (us := [.ref p, u]) (vs := [.ref p, y]) (.cons rfl (.cons ry .nil)) q) (hsl _ _)
end
end KX

set_option Elab.async false
set_option maxRecDepth 100000
set_option maxHeartbeats 2000000
namespace K86
open PySem PySem.Spec PyProof.Rows L2 He KX
abbrev sLSame : Stmt := top 21
-- ["board", "model", "lists", "names", "lst", "full", "rows", "name", "place", "ties", "row"]
def okN (x : Rw) : Prop := isNm x.1 = true ∧ isNm x.2.1 = true
def spSame (K : PySem.W.Frag) : Sp := fun vs H Q _ => ∃ (a md L N : Addr) (rows : List Rw) (ls nms : List Str), vs = [.ref a, .ref md, .ref L, .ref N] ∧ BdAt K H a rows ∧ MdAt H md rows ∧ H L = some (.lst (ls.map V.str)) ∧ H N = some (.lst (nms.map V.str)) ∧ rows.length ≤ 60 ∧ ls.length ≤ 60 ∧ nms.length ≤ 60 ∧ (∀ x ∈ rows, okN x) ∧ (∀ l ∈ ls, isNm l = true) ∧ (∀ z ∈ nms, isNm z = true) ∧ ls.Nodup ∧ (∀ x ∈ rows, x.2.1 ∈ ls) ∧ ∀ H', Same H H' → Q (.bl true) H'
def fullL (rows : List Rw) (ls : List Str) : List Str := ls.filter fun l => decide (prsL rows l ≠ [])
theorem ne_nil_eqv (ds : List PyData) : (!PyData.eqv (.list ds) (.list [])) = !ds.isEmpty := by cases ds <;> rfl
theorem prs_nm {rows : List Rw} {l : Str} (h : ∀ x ∈ rows, okN x) : ∀ z ∈ (srtP (prsL rows l)).map (·.2), isNm z = true := by
  intro z hz
  obtain ⟨q, hq, rfl⟩ := List.mem_map.mp hz
  unfold srtP at hq
  obtain ⟨x, hx, rfl⟩ := List.mem_map.mp (List.mem_mergeSort.mp hq)
  exact (h x (List.mem_filter.mp hx).1).1
theorem prs_mem {rows : List Rw} {l : Str} {q : Pr} (h : q ∈ srtP (prsL rows l)) : (q.2, l, q.1) ∈ rows := by
  unfold srtP at h
  obtain ⟨x, hx, rfl⟩ := List.mem_map.mp (List.mem_mergeSort.mp h)
  have h1 := (List.mem_filter.mp hx).1
  have h2 := of_decide_eq_true (List.mem_filter.mp hx).2
  rw [← h2]
  exact h1
theorem mem_prs {rows : List Rw} {x : Rw} (h : x ∈ rows) : (x.2.2, x.1) ∈ srtP (prsL rows x.2.1) := by
  unfold srtP prsL
  exact List.mem_mergeSort.mpr (List.mem_map.mpr ⟨x, List.mem_filter.mpr ⟨h, decide_eq_true rfl⟩, rfl⟩)
theorem srt_empty {rows : List Rw} {l : Str} : (((srtP (prsL rows l)).map (·.2)).map PyData.str).isEmpty = decide (prsL rows l = []) := by
  have h := srt_len rows l
  cases e : prsL rows l with
  | nil => simp [srtP]
  | cons q r =>
    rw [e] at h
    cases e2 : srtP (q :: r) with
    | nil => rw [e2] at h; simp at h
    | cons y z => simp
theorem full_at {rows : List Rw} {ls : List Str} {i : Nat} {l : Str} (h : ls[i]? = some l) : fullL rows (ls.take (i + 1)) = fullL rows (ls.take i) ++ (if prsL rows l = [] then [] else [l]) := by
  unfold fullL
  rw [List.take_succ, h, List.filter_append]
  congr 1
  by_cases c : prsL rows l = []
  · simp [c]
  · simp [c]
theorem dp_ints {K : PySem.W.Frag} {H : Hp} : ∀ zs : List Int, DpAll K H (zs.map V.int) (zs.map PyData.int)
  | [] => .nil
  | z :: r => .cons (.int z) (dp_ints r)
theorem ints_shaped (zs : List Int) : SeqAt.shaped (.list (zs.map PyData.int)) = true := list_shaped fun d hd => by
  obtain ⟨z, _, rfl⟩ := List.mem_map.mp hd
  exact ⟨rfl, Nat.zero_le _⟩
theorem atI_zero {α : Type} (x : α) (xs : List α) : atI (x :: xs) 0 = some x := by
  unfold atI
  rw [show (0 : Int) = ((0 : Nat) : Int) from rfl, ixN_nat (by simp)]
  rfl
theorem head_filter {α : Type} {p : α → Bool} {xs : List α} {q : α} (h : xs.find? p = some q) : ∃ r, xs.filter p = q :: r := by
  have h2 : (xs.filter p).head? = some q := by rw [List.head?_filter]; exact h
  cases e : xs.filter p with
  | nil => rw [e] at h2; cases h2
  | cons a r => rw [e] at h2; cases h2; exact ⟨r, rfl⟩
section
variable {P : Program} {w : World} {K : PySem.W.Frag} {mg : Str → Option Value} {base : Heap}
theorem scLSame : FnScope ["board", "model", "lists", "names", "lst", "full", "rows", "name", "place", "ties", "row"] ["board", "model", "lists", "names"] (defScope sLSame) := ⟨rfl, rfl, rfl, by decide +kernel, rfl, by decide +kernel, by decide +kernel⟩
theorem ok_lsame {f fR : Addr} {fd fdR fdLen fdNs fdRo fdPl fdHas fdAt fdGe : FuncData} (F : FnP K "_law_same" sLSame f fd) (S : Brd K)
    (GR : FnOk P w K mg base CX0 1 fR fdR ["model", "lst"] (spLRows K)) (bR : Binds K fdR ["model", "lst"] []) (kR : PySem.W.keepIn K (.ref fR) = true) (gR : mg "_law_rows" = some (.ref fR))
    (GLen : FnOk P w K mg base CX0 1 (ma K (ga K "Board") "__len__") fdLen ["self"] (spLen K)) (bLen : Binds K fdLen ["self"] [])
    (GNs : FnOk P w K mg base CX0 1 (ma K (ga K "Board") "list_names") fdNs ["self"] (spNames K)) (bNs : Binds K fdNs ["self"] [])
    (GRo : FnOk P w K mg base CX0 2 (ma K (ga K "Board") "rows_of") fdRo ["self", "lst"] (spRowsOf K)) (bRo : Binds K fdRo ["self", "lst"] [])
    (GPl : FnOk P w K mg base CX0 2 (ma K (ga K "Board") "places_of") fdPl ["self", "lst"] (spPlacesOf K)) (bPl : Binds K fdPl ["self", "lst"] [])
    (GHas : FnOk P w K mg base CX0 1 (ma K (ga K "Board") "__contains__") fdHas ["self", "x"] (spHas K)) (bHas : Binds K fdHas ["self", "x"] [])
    (GAt : FnOk P w K mg base CX0 2 (ma K (ga K "Board") "at") fdAt ["self", "row"] (spAt K)) (bAt : Binds K fdAt ["self", "row"] [])
    (GGe : FnOk P w K mg base CX0 2 (ma K (ga K "Board") "__getitem__") fdGe ["self", "at"] (spGet K)) (bGe : Binds K fdGe ["self", "at"] []) (fGe : PySem.W.fnIn K (ma K (ga K "Board") "__getitem__") = true)
    (n_sorted : mg "sorted" = none) (n_len : mg "len" = none) : FnOk P w K mg base CX0 4 f fd ["board", "model", "lists", "names"] (spSame K) := by
  refine F.ok scLSame (fun vs H Q E h => ?_) (fun cdv A outer s H vs Q E hr h => ?_)
  · obtain ⟨a, md, L, N, rows, ls, nms, rfl, _⟩ := h
    rfl
  · obtain ⟨a, md, L, N, rows, ls, nms, rfl, hB, hM, hL, hN, hlen, hlsl, hnl, hok, hlo, hno, hnd, hin, k⟩ := h
    have nd := scLSame.nd
    have hu64 := hr.units
    have hu := Nat.lt_of_le_of_lt (Nat.add_le_add_left (by decide : 1 ≤ 64) _) hr.units
    have hr1 := hr.mono (j := 1) (by decide)
    have hr2 := hr.mono (j := 2) (by decide)
    have hr3 := hr.mono (j := 3) (by decide)
    have h1000 : rows.length ≤ 1000 := by omega
    refine ⟨_, PSs.nox (pss_cons (ps_setLc (i := 5) (own := [("lst", 4)]) (g := (gName 4))  rfl nd rfl rfl (sw_true rfl rfl rfl (by decide +kernel)) (pi_list (pv 2)) (blkOk_by (own := [("lst", 4)]) (N := ["board", "model", "lists", "names", "lst", "full", "rows", "name", "place", "ties", "row"]) (sc := defScope sLSame) (by decide +kernel)) (fun _ _ _ _ _ => (pg_name (i := 4) nd rfl (Or.inl rfl))) (fun _ _ _ _ _ => (pts_one (pt_cmpR (show OpR _ _ (rNeD K) from op_neD hu64) (pe_call GR hr1 (by rfl) gR kR bR .nil pass0 (pa_cons (pv 1) (pa_cons (pv 4) pa_nil))) (pe_lst pa_nil) (nomark _)))) (fun _ _ _ _ _ => (pv 4)))
(pss_cons (ps_if (PW.pt (pw_or (pt_cmpR op_ne (pe_callB (call_lenO (S.mth "__len__" (by decide)) GLen hr2 bLen pass0) (by rfl) n_len PySem.boot_len (pa_cons (pv 0) pa_nil)) (pe_callB call_lenD (by rfl) n_len PySem.boot_len (pa_cons (pv 1) pa_nil)) (nomark _)) (pw_or1 (pt_cmpR (op_neD hu64) (pe_meth0 (pv 0) S.cls (S.mth "list_names" (by decide)) GNs hr1 bNs .nil pass0) (pe_callB (cr_sortedDp hu64) (by rfl) n_sorted (by decide +kernel) (pa_cons (pv 5) pa_nil)) (nomark _)))))
(pss_one (ps_ret pe_bl))
pss_nil)
(pss_cons (ps_for PassesOwn.never rfl (pi_list (pv 2)) (pg_name (i := 4) nd rfl (Or.inl rfl))
(pss_cons (ps_set (i := 6) nd rfl (Or.inl rfl) (pe_call GR hr1 (by rfl) gR kR bR .nil pass0 (pa_cons (pv 1) (pa_cons (pv 4) pa_nil))))
(pss_one (ps_if (PW.pt (pw_or (pt_cmpR (op_neD hu64) (pe_meth (pv 0) S.cls (S.mth "rows_of" (by decide)) GRo hr2 bRo .nil pass0 (pa_cons (pv 4) pa_nil)) (pv 6) (nomark _)) (pw_or1 (pt_cmpR (op_neD hu64) (pe_meth (pv 0) S.cls (S.mth "places_of" (by decide)) GPl hr2 bPl .nil pass0 (pa_cons (pv 4) pa_nil)) (pe_lc (own := [("row", 10)]) (g := (gName 10)) (tt := tYes) rfl nd (pi_list (pv 6)) (blkOk_by (own := [("row", 10)]) (N := ["board", "model", "lists", "names", "lst", "full", "rows", "name", "place", "ties", "row"]) (sc := defScope sLSame) (by decide +kernel)) (fun _ _ _ _ _ => (pg_name (i := 10) nd rfl (Or.inl rfl))) (fun _ _ _ _ _ => pts_nil) (fun _ _ _ _ _ => (pe_ix (show IxR _ (rIxT K) from ix_tup) (pe_dget hu (pv 1) (pv 10) (fun _ _ => rfl)) pe_int (fun _ _ => rfl)))) (nomark _)))))
(pss_one (ps_ret pe_bl))
pss_nil))))
(pss_cons (ps_for PassesOwn.never rfl (pi_list (pv 3)) (pg_name (i := 7) nd rfl (Or.inl rfl))
(pss_cons (ps_if (pt_cmpR op_ne (pe_cmpR (op_inO (S.mth "__contains__" (by decide)) GHas hr1 bHas pass0) (pv 7) (pv 0) rfl) (pe_cmp (pc_din hu (pv 7) (pv 1))) (nomark _))
(pss_one (ps_ret pe_bl))
pss_nil)
(pss_one (ps_if (pt_cmp (pc_din hu (pv 7) (pv 1)))
(pss_cons (ps_asg (pe_dget hu (pv 1) (pv 7) (fun _ _ => rfl)) (pg_tup rfl (pgs_cons (pg_name (i := 4) nd rfl (Or.inl rfl)) (pgs_cons (pg_name (i := 8) nd rfl (Or.inr rfl)) pgs_nil))))
(pss_cons (ps_setLc (i := 9) (own := [("row", 10)]) (g := (gName 10))  rfl nd rfl rfl (sw_true rfl rfl rfl (by decide +kernel)) (pi_list (pe_call GR hr1 (by rfl) gR kR bR .nil pass0 (pa_cons (pv 1) (pa_cons (pv 4) pa_nil)))) (blkOk_by (own := [("row", 10)]) (N := ["board", "model", "lists", "names", "lst", "full", "rows", "name", "place", "ties", "row"]) (sc := defScope sLSame) (by decide +kernel)) (fun _ _ _ _ _ => (pg_name (i := 10) nd rfl (Or.inl rfl))) (fun _ _ _ _ _ => (pts_one (pt_cmpR op_eq (pe_ix (show IxR _ (rIxT K) from ix_tup) (pe_dget hu (pv 1) (pv 10) (fun _ _ => rfl)) pe_int (fun _ _ => rfl)) (pv 8) (nomark _)))) (fun _ _ _ _ _ => (pv 10)))
(pss_one (ps_if (PW.pt (pw_or (pt_cmpR (op_neD hu64) (pe_meth (pv 0) S.cls (S.mth "at" (by decide)) GAt hr2 bAt .nil pass0 (pa_cons (pv 7) pa_nil)) (pe_tup (pa_cons (pv 4) (pa_cons (pv 8) pa_nil))) (nomark _)) (pw_or1 (pt_cmpR op_ne (pe_ixO (S.mth "__getitem__" (by decide)) fGe GGe hr3 bGe pass0 (pv 0) (pe_tup (pa_cons (pv 4) (pa_cons (pv 8) pa_nil)))) (pe_ix ix_list (pv 9) pe_int (fun _ _ => rfl)) (nomark _)))))
(pss_one (ps_ret pe_bl))
pss_nil))))
pss_nil))))
(pss_one (ps_ret pe_bl)))))), ?_⟩
    refine ⟨_, rfl, L, rfl, ⟨_, SqL.of hL⟩, fun D nD => ?_⟩
    refine lc_it (walk_list (K := K) (a := L) (xs := ls.map V.str)) (fun i G => G D = some (.lst ((fullL rows (ls.take i)).map V.str)) ∧ Same H G) ⟨upd_same, same_put nD⟩ (fun i G _ h => SqL.of (h.2 _ _ hL)) ?_ ?_
    · rintro i x G' G hi ⟨hD, sG⟩ ⟨rfl, hx⟩
      rw [List.getElem?_map] at hx
      obtain ⟨l, hl, rfl⟩ := Option.map_eq_some_iff.mp hx
      refine ⟨rfl, ?_⟩
      have hfl : (fullL rows (ls.take i)).length ≤ 60 := Nat.le_trans (List.length_filter_le _ _) (by rw [List.length_take]; omega)
      refine ⟨_, rfl, _, rfl, md, rows, l, rfl, hM.same sG, h1000, fun p2 G2 np2 s2 hp2 => ⟨(by show 0 ≤ sizeLine; decide), fun E1 nE1 => ?_⟩⟩
      have s3 := s2.trans (same_put (o := .lst []) nE1)
      have hp3 := same_put (o := .lst []) nE1 _ _ hp2
      have hE1 : upd G2 E1 (.lst []) E1 = some (.lst []) := upd_same
      generalize upd G2 E1 (.lst []) = G3 at s3 hp3 hE1
      refine ⟨_, _, .lst (SqL.of hp3) (dp_strs _), .lst (SqL.of hE1) .nil, strs_shaped (prs_nm hok), rfl, _, rfl, ?_⟩
      rw [ne_nil_eqv, srt_empty, full_at hl]
      by_cases c : prsL rows l = []
      · rw [if_pos c, decide_eq_true c, List.append_nil]
        exact no rfl ⟨s3 _ _ hD, sG.trans s3⟩
      · rw [if_neg c, decide_eq_false c]
        refine yes rfl ⟨_, rfl, _, s3 _ _ hD, (by rw [List.length_map, sizeLine_eq]; omega), ?_, fun y o z => ?_⟩
        · rw [upd_same, List.map_append]
          rfl
        · rw [upd_ne (ne_of_none z nD)]
          exact (sG.trans s3) _ _ z
    rintro G ⟨hD, sG⟩
    rw [List.length_map, List.take_length] at hD
    have hB1 := hB.same sG
    have hM1 := hM.same sG
    have hL1 := sG _ _ hL
    have hN1 := sG _ _ hN
    obtain ⟨dx, d0, kvs0, ha0, _⟩ := id hB1
    obtain ⟨kvm, hmd, hmE, hmN⟩ := id hM1
    have hnes : (!decide (V.int ((rows.length : Nat) : Int) = V.int ((kvm.length : Nat) : Int))) = false := by
      rw [hmE.len, decide_eq_true rfl]
      rfl
    refine ⟨_, rfl, a, rfl, ⟨_, _, ha0⟩, a, rows, rfl, hB1, rows.length, rfl, Nat.lt_of_le_of_lt hlen (by decide), _, rfl, md, kvm, rfl, hmd, rfl, _, rfl, ?_⟩
    rw [hnes]
    refine no rfl ?_
    refine ⟨_, rfl, a, dx, _, rfl, ha0, rfl, a, rows, rfl, hB1, h1000, fun p ns G1 np s1 hp hNm => ?_⟩
    have hE := names_eq hNm hnd hin
    have hfn : ∀ l ∈ fullL rows ls, isNm l = true := fun l hl => hlo l (List.mem_filter.mp hl).1
    refine ⟨_, rfl, D, _, strD, rfl, SqL.of (s1 _ _ hD), fun x hx => ?_, fun a1 h1 a2 h2 => ?_, .inr fun a1 h1 => ?_, fun x hx => ?_, fun p1 np1 => ?_⟩
    · obtain ⟨z, _, rfl⟩ := List.mem_map.mp hx
      exact .str z
    · obtain ⟨x1, hx1, rfl⟩ := List.mem_map.mp h1
      obtain ⟨x2, hx2, rfl⟩ := List.mem_map.mp h2
      obtain ⟨z1, _, rfl⟩ := List.mem_map.mp hx1
      obtain ⟨z2, _, rfl⟩ := List.mem_map.mp hx2
      rfl
    · obtain ⟨x1, hx1, rfl⟩ := List.mem_map.mp h1
      obtain ⟨z1, _, rfl⟩ := List.mem_map.mp hx1
      exact ⟨(fun e => by cases e), fun _ e => by cases e⟩
    · obtain ⟨z, _, rfl⟩ := List.mem_map.mp hx
      show 0 ≤ 60
      decide
    rw [srt_strs, show (fullL rows ls).mergeSort leS = ns from hE.symm]
    have hnn : ∀ l ∈ ns, isNm l = true := fun l hl => hfn l (by rw [hE] at hl; exact List.mem_mergeSort.mp hl)
    have s2 := s1.trans (same_put (o := .lst (ns.map V.str)) np1)
    have hp' := same_put (o := .lst (ns.map V.str)) np1 _ _ hp
    have hp1 : upd G1 p1 (.lst (ns.map V.str)) p1 = some (.lst (ns.map V.str)) := upd_same
    generalize upd G1 p1 (.lst (ns.map V.str)) = G2 at s2 hp' hp1
    have shn := strs_shaped hnn
    refine ⟨_, _, .lst (SqL.of hp') (dp_strs _), .lst (SqL.of hp1) (dp_strs _), shn, shn, _, rfl, ?_⟩
    rw [SeqAt.eqv_refl _ (Bool.and_eq_true_iff.mp shn).1]
    refine no rfl ?_
    have sH2 := sG.trans s2
    have hB2 := hB.same sH2
    have hM2 := hM.same sH2
    have hL2 := sH2 _ _ hL
    have hN2 := sH2 _ _ hN
    clear hp hp' hp1 np np1 hE hnn shn hNm
    refine ⟨_, rfl, L, rfl, ⟨_, SqL.of hL2⟩, ?_⟩
    refine for_it (walk_list (K := K) (a := L) (xs := ls.map V.str)) (fun i σ G => ∃ w4 w6 w7 w8 w9 w10, σ = [some (.ref a), some (.ref md), some (.ref L), some (.ref N), w4, some (.ref D), w6, w7, w8, w9, w10] ∧ Same G2 G)
      ⟨_, _, _, _, _, _, rfl, Same.refl _⟩ (fun _ _ _ _ h => by obtain ⟨_, _, _, _, _, _, _, q⟩ := h; exact SqL.of (q _ _ hL2)) ?_ ?_
    · rintro i x σ G' G hi ⟨w4, w6, w7, w8, w9, w10, rfl, sG⟩ ⟨rfl, hx⟩
      rw [List.getElem?_map] at hx
      obtain ⟨l, hl, rfl⟩ := Option.map_eq_some_iff.mp hx
      dsimp only [gName, List.set]
      have hsl := srt_len rows l
      have hpl := prs_len rows l
      refine ⟨_, rfl, _, rfl, md, rows, l, rfl, hM2.same sG, h1000, fun p2 G3 np2 s3 hp2 => ?_⟩
      dsimp only [gName, List.set]
      have ha3 := (sG.trans s3) _ _ (s2 _ _ ha0)
      refine ⟨_, rfl, a, dx, _, rfl, ha3, rfl, _, rfl, a, rows, l, rfl, hB2.same (sG.trans s3), h1000, fun p3 G4 np3 s4 hp3 => ?_⟩
      have sh := strs_shaped (prs_nm (l := l) hok)
      refine ⟨_, rfl, _, _, .lst (SqL.of hp3) (dp_strs _), .lst (SqL.of (s4 _ _ hp2)) (dp_strs _), sh, sh, _, rfl, ?_⟩
      rw [SeqAt.eqv_refl _ (Bool.and_eq_true_iff.mp sh).1]
      refine no rfl ?_
      refine ⟨_, rfl, a, dx, _, rfl, s4 _ _ ha3, rfl, _, rfl, a, rows, l, rfl, hB2.same ((sG.trans s3).trans s4), h1000, fun p4 G5 np4 s5 hp4 => ?_⟩
      have s24 := ((sG.trans s3).trans s4).trans s5
      have hp25 := s5 _ _ (s4 _ _ hp2)
      refine ⟨_, rfl, p2, rfl, ⟨_, SqL.of hp25⟩, fun D2 nD2 => ?_⟩
      refine lc_it (walk_list (K := K) (a := p2) (xs := ((srtP (prsL rows l)).map (·.2)).map V.str)) (fun i G => G D2 = some (.lst ((((srtP (prsL rows l)).take i).map (·.1)).map V.int)) ∧ Same G5 G) ⟨upd_same, same_put nD2⟩ (fun i G _ h => SqL.of (h.2 _ _ hp25)) ?_ ?_
      · rintro j x G' G6 hj ⟨hA, s6⟩ ⟨rfl, hx⟩
        rw [List.getElem?_map, List.getElem?_map] at hx
        obtain ⟨rn, hq0, rfl⟩ := Option.map_eq_some_iff.mp hx
        obtain ⟨q, hq, rfl⟩ := Option.map_eq_some_iff.mp hq0
        obtain ⟨t, hget, ht⟩ := (hM2.same (s24.trans s6)).find (prs_mem (List.mem_of_getElem? hq))
        refine ⟨rfl, ?_⟩
        dsimp only [tYes]
        rw [if_pos rfl]
        refine ⟨_, rfl, _, rfl, md, _, rfl, hget, t, _, _, _, rfl, rfl, SqT.of ht, rfl, _, hA, (by rw [List.length_map, List.length_map, List.length_take, sizeLine_eq]; omega), ?_, fun y o z => ?_⟩
        · rw [upd_same, List.take_succ, hq, List.map_append, List.map_append]
          rfl
        · rw [upd_ne (ne_of_none z nD2)]
          exact s6 _ _ z
      rintro G6 ⟨hA, s6⟩
      rw [List.length_map, List.length_map, List.take_length] at hA
      have shi := ints_shaped ((srtP (prsL rows l)).map (·.1))
      refine ⟨_, _, .lst (SqL.of (s6 _ _ hp4)) (dp_ints _), .lst (SqL.of hA) (dp_ints _), shi, shi, _, rfl, ?_⟩
      rw [SeqAt.eqv_refl _ (Bool.and_eq_true_iff.mp shi).1]
      refine no rfl ?_
      exact ⟨_, _, _, _, _, _, rfl, s24.trans s6⟩
    rintro σ G ⟨w4, w6, w7, w8, w9, w10, rfl, sG⟩
    refine ⟨_, rfl, N, rfl, ⟨_, SqL.of (sG _ _ hN2)⟩, ?_⟩
    refine for_it (walk_list (K := K) (a := N) (xs := nms.map V.str)) (fun i σ G => ∃ w4 w6 w7 w8 w9 w10, σ = [some (.ref a), some (.ref md), some (.ref L), some (.ref N), w4, some (.ref D), w6, w7, w8, w9, w10] ∧ Same G2 G)
      ⟨_, _, _, _, _, _, rfl, sG⟩ (fun _ _ _ _ h => by obtain ⟨_, _, _, _, _, _, _, q⟩ := h; exact SqL.of (q _ _ hN2)) ?_ ?_
    · clear sG
      rintro i x σ G' G hi ⟨w4, w6, w7, w8, w9, w10, rfl, sG⟩ ⟨rfl, hx⟩
      rw [List.getElem?_map] at hx
      obtain ⟨z, hz, rfl⟩ := Option.map_eq_some_iff.mp hx
      have hzn := hno z (List.mem_of_getElem? hz)
      have hz8 := (nm_inv hzn).2.1
      dsimp only [gName, List.set]
      have ha3 := sG _ _ (s2 _ _ ha0)
      obtain ⟨kvm, hmd, hmE, hmN⟩ := id (hM2.same sG)
      have eany : (valV kvm (Sum.inr z : Key)).isSome = rows.any fun x => decide (x.1 = z) := by
        rw [← hmE.any z]
        unfold valV
        rw [Option.isSome_map, Bool.eq_iff_iff, List.find?_isSome, List.any_eq_true]
      refine ⟨_, rfl, _, rfl, a, rfl, ⟨_, _, ha3⟩, a, rows, z, rfl, hB2.same sG, by omega, _, rfl, _, rfl, _, rfl, md, _, rfl, DGet.k (k := Sum.inr z) hmd, ?_⟩
      rw [eany]
      refine ⟨rfl, _, rfl, ?_⟩
      rw [decide_eq_true rfl]
      refine no rfl ?_
      refine ⟨_, rfl, _, rfl, md, _, rfl, DGet.k (k := Sum.inr z) hmd, _, rfl, ?_⟩
      rw [eany]
      refine ite2' (fun c => ?_) (fun c => ⟨_, _, _, _, _, _, rfl, sG⟩)
      obtain ⟨x0, hx0, ex0⟩ := List.any_eq_true.mp c
      obtain rfl := of_decide_eq_true ex0
      obtain ⟨t, hget, ht⟩ := (hM2.same sG).find hx0
      refine ⟨_, rfl, _, rfl, md, _, rfl, hget, _, _, rfl, SqT.of ht, rfl, _, _, rfl, _, _, rfl, rfl, ?_⟩
      dsimp only [gName, List.set]
      have hsl := srt_len rows x0.2.1
      have hpl := prs_len rows x0.2.1
      have hln := (hok x0 hx0).2
      refine ⟨_, rfl, _, rfl, md, rows, x0.2.1, rfl, hM2.same sG, h1000, fun p5 G6 np5 s6 hp5 => ⟨p5, rfl, ⟨_, SqL.of hp5⟩, fun D3 nD3 => ?_⟩⟩
      have s26 := sG.trans s6
      refine lc_it (walk_list (K := K) (a := p5) (xs := ((srtP (prsL rows x0.2.1)).map (·.2)).map V.str)) (fun i G => G D3 = some (.lst (((((srtP (prsL rows x0.2.1)).take i).filter fun q => decide (q.1 = x0.2.2)).map (·.2)).map V.str)) ∧ Same G6 G) ⟨upd_same, same_put nD3⟩ (fun i G _ h => SqL.of (h.2 _ _ hp5)) ?_ ?_
      · rintro j x G' G7 hj ⟨hA, s7⟩ ⟨rfl, hx⟩
        rw [List.getElem?_map, List.getElem?_map] at hx
        obtain ⟨rn, hq0, rfl⟩ := Option.map_eq_some_iff.mp hx
        obtain ⟨q, hq, rfl⟩ := Option.map_eq_some_iff.mp hq0
        obtain ⟨t2, hget2, ht2⟩ := (hM2.same (s26.trans s7)).find (prs_mem (List.mem_of_getElem? hq))
        have hfl : (((srtP (prsL rows x0.2.1)).take j).filter fun q => decide (q.1 = x0.2.2)).length ≤ 60 := Nat.le_trans (List.length_filter_le _ _) (by rw [List.length_take]; omega)
        have etk : ((srtP (prsL rows x0.2.1)).take (j + 1)).filter (fun q => decide (q.1 = x0.2.2)) = ((srtP (prsL rows x0.2.1)).take j).filter (fun q => decide (q.1 = x0.2.2)) ++ (if decide (q.1 = x0.2.2) = true then [q] else []) := by
          rw [List.take_succ, hq, List.filter_append]
          congr 1
          show List.filter _ [q] = _
          rw [List.filter_cons]
          rfl
        refine ⟨rfl, ?_⟩
        refine ⟨_, rfl, _, rfl, md, _, rfl, hget2, t2, _, _, _, rfl, rfl, SqT.of ht2, rfl, _, rfl, rfl, _, rfl, ?_⟩
        dsimp only
        rw [etk]
        by_cases c2 : q.1 = x0.2.2
        · rw [decide_eq_true c2, if_pos rfl, c2, decide_eq_true rfl, if_pos rfl]
          refine ⟨_, rfl, _, hA, (by rw [List.length_map, List.length_map, sizeLine_eq]; omega), ?_, fun y o z => ?_⟩
          · rw [upd_same, List.map_append, List.map_append]
            rfl
          · rw [upd_ne (ne_of_none z nD3)]
            exact s7 _ _ z
        · rw [if_neg (show ¬ (decide (V.int q.1 = V.int x0.2.2) = true) from fun z => c2 (by have := of_decide_eq_true z; injection this)), if_neg (show ¬ (decide (q.1 = x0.2.2) = true) from fun z => c2 (of_decide_eq_true z)), List.append_nil]
          exact ⟨hA, s7⟩
      rintro G7 ⟨hA, s7⟩
      rw [List.length_map, List.length_map, List.take_length] at hA
      have hfi : ((srtP (prsL rows x0.2.1)).find? fun q => decide (q.1 = x0.2.2)).isSome = true := List.find?_isSome.mpr ⟨_, mem_prs hx0, decide_eq_true rfl⟩
      obtain ⟨q, hq⟩ := Option.isSome_iff_exists.mp hfi
      obtain ⟨r, hr7⟩ := head_filter hq
      rw [hr7] at hA
      have s27 := s26.trans s7
      have ha7 := s27 _ _ (s2 _ _ ha0)
      dsimp only [gName, List.set]
      refine ⟨_, rfl, a, dx, _, rfl, ha7, rfl, _, rfl, a, rows, x0, rfl, hB2.same s27, by omega, hx0, fun t3 ht3 => ?_⟩
      refine ⟨_, rfl, _, rfl, (by show 2 ≤ sizeLine; decide), fun T nT => ?_⟩
      have s8 := same_put (o := .tup [V.str x0.2.1, V.int x0.2.2]) nT
      have hT : upd G7 T (.tup [V.str x0.2.1, V.int x0.2.2]) T = some (.tup [V.str x0.2.1, V.int x0.2.2]) := upd_same
      generalize upd G7 T (.tup [V.str x0.2.1, V.int x0.2.2]) = G8 at s8 hT
      have sht : SeqAt.shaped (.tuple [.str x0.2.1, .int x0.2.2]) = true := by
        unfold SeqAt.shaped
        refine Bool.and_eq_true_iff.mpr ⟨?_, rfl⟩
        show (PyData.strOk x0.2.1 && true) = true
        rw [nm_strOk hln]
        rfl
      have dpt : ∀ t, G8 t = some (.tup [V.str x0.2.1, V.int x0.2.2]) → Dp K G8 (.ref t) (.tuple [.str x0.2.1, .int x0.2.2]) := fun t e => .tup (SqT.of e) (.cons (.str _) (.cons (.int _) .nil))
      refine ⟨_, _, dpt _ (s8 _ _ ht3), dpt _ hT, sht, sht, _, rfl, ?_⟩
      rw [SeqAt.eqv_refl _ (Bool.and_eq_true_iff.mp sht).1]
      refine no rfl ?_
      refine ⟨_, rfl, _, rfl, _, rfl, (by show 2 ≤ sizeLine; decide), fun T2 nT2 => ?_⟩
      have s9 := s8.trans (same_put (o := .tup [V.str x0.2.1, V.int x0.2.2]) nT2)
      have hT2 : upd G8 T2 (.tup [V.str x0.2.1, V.int x0.2.2]) T2 = some (.tup [V.str x0.2.1, V.int x0.2.2]) := upd_same
      generalize upd G8 T2 (.tup [V.str x0.2.1, V.int x0.2.2]) = G9 at s9 hT2
      refine ⟨a, rfl, ⟨_, _, s9 _ _ ha7⟩, a, T2, rows, x0.2.1, x0.2.2, q, rfl, hB2.same (s27.trans s9), SqT.of hT2, h1000, hq, fun G10 s10 => ?_⟩
      refine ⟨_, rfl, D3, _, _, _, rfl, rfl, SqL.of (s10 _ _ (s9 _ _ hA)), atI_zero _ _, ?_⟩
      refine ⟨rfl, _, rfl, ?_⟩
      rw [decide_eq_true rfl]
      refine no rfl ⟨_, _, _, _, _, _, rfl, (s27.trans s9).trans s10⟩
    · rintro σ G ⟨w4, w6, w7, w8, w9, w10, rfl, sG⟩
      exact k _ (sH2.trans sG)
end
end K86

set_option Elab.async false
set_option maxRecDepth 100000
set_option maxHeartbeats 2000000
/-! Bounds and rings, in plain words. -/
namespace KX
open PySem PySem.Spec PyProof.Rows L2
abbrev Bd := Str × Str × Int
/-- a bound, if it is one -/
def bd3 : PyData → Option Bd
  | .tuple [.str u, .str v, .int c] => if (isNm u && (isNm v && !decide (u = v))) = true then some (u, v, c) else none
  | _ => none
def bdD (d : PyData) : Bool := (bd3 d).isSome
def okBd (d : PyData) : Prop := ∀ ds, d = .tuple ds → ds.length ≤ 1000 ∧ ∀ e ∈ ds, okN e
def okRing (d : PyData) : Prop := ∀ ds, d = .list ds ∨ d = .tuple ds → ds.length ≤ 1000 ∧ ∀ e ∈ ds, okBd e
def jb (ts : List Bd) (i : Nat) : Bool :=
  match ts[pred ts.length i]?, ts[i]? with
  | some p, some q => decide (p.2.1 = q.1)
  | _, _ => false
def rgT (ts : List Bd) : Bool := (List.range ts.length).all (jb ts) && decide ((ts.map fun t => t.2.2).sum < 0)
def bdOf (d : PyData) : Bd := (bd3 d).getD (⟨#[]⟩, ⟨#[]⟩, 0)
def rgL (ds : List PyData) : Bool := ds.all bdD && rgT (ds.map bdOf)
def rgD : PyData → Bool
  | .list ds => rgL ds
  | .tuple ds => rgL ds
  | _ => false
theorem rg_nil : rgL [] = false := by
  show (true && ((List.range 0).all _ && decide (([] : List Int).sum < 0))) = false
  rfl
/-- a bound that stands at x -/
def BdAt (K : PySem.W.Frag) (H : Hp) (x : V) (t : Bd) : Prop := ∃ a, x = .ref a ∧ SqT K H a [.str t.1, .str t.2.1, .int t.2.2]
theorem bd3_inv {d : PyData} {t : Bd} (h : bd3 d = some t) : d = .tuple [.str t.1, .str t.2.1, .int t.2.2] ∧ isNm t.1 = true ∧ isNm t.2.1 = true ∧ t.1 ≠ t.2.1 := by
  unfold bd3 at h
  split at h
  · split at h
    · rename_i u v c hc
      cases h
      obtain ⟨h1, h2⟩ := Bool.and_eq_true_iff.mp hc
      obtain ⟨h2, h3⟩ := Bool.and_eq_true_iff.mp h2
      refine ⟨rfl, h1, h2, fun e => ?_⟩
      rw [decide_eq_true e] at h3
      cases h3
    · cases h
  · cases h
theorem dp_tup3 {K : PySem.W.Frag} {H : Hp} {x : V} {u v : Str} {c : Int} (h : Dp K H x (.tuple [.str u, .str v, .int c])) : BdAt K H x (u, v, c) := by
  cases h with
  | tup hS ha =>
    cases ha with
    | cons h1 ha =>
      cases ha with
      | cons h2 ha =>
        cases ha with
        | cons h3 ha =>
          cases ha
          cases h1
          cases h2
          cases h3
          exact ⟨_, rfl, hS⟩
theorem bd_at {K : PySem.W.Frag} {H : Hp} {x : V} {d : PyData} (h : Dp K H x d) (hb : bdD d = true) : BdAt K H x (bdOf d) := by
  unfold bdD at hb
  unfold bdOf
  cases e : bd3 d with
  | none =>
    rw [e] at hb
    cases hb
  | some t =>
    obtain ⟨rfl, _⟩ := bd3_inv e
    exact dp_tup3 h
theorem BdAt.same {K : PySem.W.Frag} {H H' : Hp} {x : V} {t : Bd} (s : Same H H') (h : BdAt K H x t) : BdAt K H' x t := h.imp fun a h => ⟨h.1, sqT_same s h.2⟩
theorem bd_off {d : PyData} (h : isTupD d = false) : bdD d = false := by cases d <;> first | rfl | cases h
theorem bd_len {ds : List PyData} (h : ds.length ≠ 3) : bdD (.tuple ds) = false := by
  unfold bdD
  cases e : bd3 (.tuple ds) with
  | none => rfl
  | some t =>
    have q := PyData.tuple.inj (bd3_inv e).1
    rw [q] at h
    exact absurd rfl h
/-- two texts are not the same one -/
def neS : PyData → PyData → Bool
  | .str u, .str v => !decide (u = v)
  | _, _ => true
/-- what bdD is, part by part -/
theorem bd_parts (a b c : PyData) : bdD (.tuple [a, b, c]) = (nmD a && (nmD b && (neS a b && isIntD c))) := by
  unfold bdD bd3
  cases a <;> try rfl
  rename_i u
  cases b <;> try (show (false : Bool) = (isNm u && (false && _)); cases isNm u <;> rfl)
  rename_i v
  cases c <;> try (show false = (isNm u && (isNm v && (!decide (u = v) && false))); cases isNm u <;> cases isNm v <;> cases decide (u = v) <;> rfl)
  show (if (isNm u && (isNm v && !decide (u = v))) = true then some ((u, v, _) : Bd) else none).isSome = (isNm u && (isNm v && (!decide (u = v) && true)))
  cases isNm u <;> cases isNm v <;> cases decide (u = v) <;> rfl
theorem bds_at {K : PySem.W.Frag} {H : Hp} {xs : List V} {ds : List PyData} {i : Nat} {x : V} (hA : DpAll K H xs ds) (hb : ds.all bdD = true) (h : xs[i]? = some x) : ∃ t, (ds.map bdOf)[i]? = some t ∧ BdAt K H x t := by
  obtain ⟨d, hd, hx⟩ := dpall_at hA h
  refine ⟨bdOf d, ?_, bd_at hx (List.all_eq_true.mp hb d (List.mem_of_getElem? hd))⟩
  rw [List.getElem?_map, hd]
  rfl
theorem jb_eq {ts : List Bd} {i : Nat} {p q : Bd} (hp : ts[pred ts.length i]? = some p) (hq : ts[i]? = some q) : jb ts i = decide (p.2.1 = q.1) := by
  unfold jb
  rw [hp, hq]
/-- what _law_is_round asks of a list of things -/
def okE (e : PyData) : Prop := okBd e ∧ e.canLay0 = true ∧ e.depth ≤ 60
def spRound (K : PySem.W.Frag) : Sp := fun vs H Q _ => ∃ (l : Addr) (xs : List V) (ds : List PyData), vs = [.ref l] ∧ SqL K H l xs ∧ DpAll K H xs ds ∧ ds.length ≤ 1000 ∧ (∀ e ∈ ds, okE e) ∧ ∀ H', Same H H' → Q (.bl (rgL ds)) H'
def spBound (K : PySem.W.Frag) : Sp := fun vs H Q _ => ∃ (x : V) (d : PyData), vs = [x] ∧ Dp K H x d ∧ okBd d ∧ ∀ H', Same H H' → Q (.bl (bdD d)) H'
def spOpp (K : PySem.W.Frag) : Sp := fun vs H Q _ => ∃ (a : Addr) (x y : V) (c : Int), vs = [.ref a] ∧ SqT K H a [x, y, .int c] ∧ ∀ p, H p = none → Q (.ref p) (upd H p (.tup [y, x, .int (-c - 1)]))
def spRing (K : PySem.W.Frag) : Sp := fun vs H Q _ => ∃ (x : V) (d : PyData), vs = [x] ∧ Dp K H x d ∧ okRing d ∧ ∀ H', Same H H' → Q (.bl (rgD d)) H'
/-- a bound's data, its constant not beyond m -/
def BdX (m : Nat) (d : PyData) : Prop := ∃ u v c, d = .tuple [.str u, .str v, .int c] ∧ isNm u = true ∧ isNm v = true ∧ c.natAbs ≤ m
/-- _law_round -/
def spRnd (K : PySem.W.Frag) : Sp := fun vs H Q _ => ∃ (b L : Addr) (n : Int) (zs : List Str), vs = [.ref b, .ref L] ∧ Bag H b n ∧ n < 700000 ∧ L ≠ b ∧ H L = some (.lst (zs.map V.str)) ∧ zs.Nodup ∧ 2 ≤ zs.length ∧ zs.length ≤ 100 ∧ (∀ z ∈ zs, isNm z = true) ∧
  ∀ R rs ds G, H R = none → R ≠ b → Kept b H G → Bag G b (n + 60) → G R = some (.lst rs) → DpAll K G rs ds → 1 ≤ ds.length → ds.length ≤ 8 → (∀ d ∈ ds, BdX (10 ^ 29) d) → Q (.ref R) G
/-- a bound's tuple, made within -/
def BdT (G : Hp) (x : V) (t : Bd) : Prop := ∃ a, x = .ref a ∧ G a = some (.tup [.str t.1, .str t.2.1, .int t.2.2])
theorem BdT.off {G : Hp} {x : V} {t : Bd} {R : Addr} {ys : List V} {o : HO} (h : BdT G x t) (e : G R = some (.lst ys)) : BdT (upd G R o) x t := by
  obtain ⟨a, rfl, ha⟩ := h
  refine ⟨a, rfl, (upd_ne ?_).trans ha⟩
  rintro rfl
  rw [e] at ha
  cases ha
theorem BdT.kept {b : Addr} {n : Int} {G G' : Hp} {x : V} {t : Bd} (h : BdT G x t) (hB : Bag G b n) (k : Kept b G G') : BdT G' x t := by
  obtain ⟨a, rfl, ha⟩ := h
  refine ⟨a, rfl, k a _ ?_ ha⟩
  rintro rfl
  obtain ⟨d, m, c, e, _⟩ := hB
  rw [e] at ha
  cases ha
theorem BdT.same {G G' : Hp} {x : V} {t : Bd} (h : BdT G x t) (k : Same G G') : BdT G' x t := h.imp fun a h => ⟨h.1, k _ _ h.2⟩
def bdX (t : Bd) : PyData := .tuple [.str t.1, .str t.2.1, .int t.2.2]
theorem bts_dp {K : PySem.W.Frag} {G : Hp} : ∀ {xs : List V} {ts : List Bd}, Paired (BdT G) xs ts → DpAll K G xs (ts.map bdX)
  | _, _, .nil => .nil
  | _, _, .cons h r => by
    obtain ⟨a, rfl, ha⟩ := h
    exact .cons (.tup (SqT.of ha) (.cons (.str _) (.cons (.str _) (.cons (.int _) .nil)))) (bts_dp r)
theorem pair_imp {α β : Type} {P Q : α → β → Prop} (h : ∀ x y, P x y → Q x y) : ∀ {xs : List α} {ys : List β}, Paired P xs ys → Paired Q xs ys
  | _, _, .nil => .nil
  | _, _, .cons a r => .cons (h _ _ a) (pair_imp h r)
theorem pair_snoc {α β : Type} {P : α → β → Prop} {x : α} {y : β} (h : P x y) : ∀ {xs : List α} {ys : List β}, Paired P xs ys → Paired P (xs ++ [x]) (ys ++ [y])
  | _, _, .nil => .cons h .nil
  | _, _, .cons a r => .cons a (pair_snoc h r)
theorem pair_len {α β : Type} {P : α → β → Prop} : ∀ {xs : List α} {ys : List β}, Paired P xs ys → xs.length = ys.length
  | _, _, .nil => rfl
  | _, _, .cons _ r => congrArg (· + 1) (pair_len r)
theorem cut_from {α : Type} (xs : List V) (i : Nat) (h : i ≤ xs.length) : cutV xs (some (i : Int)) none = xs.drop i := by
  unfold cutV
  rw [HT.sIx_none, HT.sIx_nat, Nat.min_eq_left h]
  refine List.take_of_length_le ?_
  rw [List.length_drop]
  exact Nat.le_refl _
end KX

set_option Elab.async false
set_option maxRecDepth 100000
set_option maxHeartbeats 2000000
/-! Small odd things: scalars, and lists and tuples of a few of them. -/
namespace KX
open PySem PySem.Spec PyProof.Rows L2
def ScD (m : Nat) : PyData → Prop
  | .none => True
  | .bool _ => True
  | .int i => i.natAbs ≤ m
  | .str z => z.length ≤ 100 ∧ ∀ c ∈ tlc z, c < 1000
  | _ => False
def ElX (m : Nat) (d : PyData) : Prop := ScD m d ∨ ∃ ds, ((d = .list ds ∧ ∃ z r, ds = .str z :: r) ∨ d = .tuple ds) ∧ ds.length ≤ 6 ∧ ∀ e ∈ ds, ScD m e
theorem ScD.mono {m m' : Nat} {d : PyData} (h : m ≤ m') (q : ScD m d) : ScD m' d := by
  cases d <;> first | exact q | exact Nat.le_trans q h
theorem ElX.mono {m m' : Nat} {d : PyData} (h : m ≤ m') (q : ElX m d) : ElX m' d := by
  rcases q with q | ⟨ds, e, hl, q⟩
  · exact .inl (q.mono h)
  · exact .inr ⟨ds, e, hl, fun x hx => (q x hx).mono h⟩
theorem nm_sc {m : Nat} {z : Str} (h : isNm z = true) : ScD m (.str z) := by
  obtain ⟨h1, h2, h3⟩ := nm_inv h
  refine ⟨by omega, fun c hc => ?_⟩
  have q := h3 c hc
  unfold isLet at q
  have := of_decide_eq_true (Bool.and_eq_true_iff.mp q).2
  exact Nat.lt_of_le_of_lt this (by decide)
theorem BdX.el {m : Nat} {d : PyData} (h : BdX m d) : ElX m d := by
  obtain ⟨u, v, c, rfl, hu, hv, hc⟩ := h
  refine .inr ⟨_, .inr rfl, by show 3 ≤ 6; decide, fun e he => ?_⟩
  rcases List.mem_cons.mp he with rfl | he
  · exact nm_sc hu
  rcases List.mem_cons.mp he with rfl | he
  · exact nm_sc hv
  rw [List.mem_singleton.mp he]
  exact hc
theorem sc_okN {m : Nat} {d : PyData} (h : ScD m d) : okN d := by
  rintro z rfl
  have := h.1
  omega
theorem str_ok {z : Str} (h : z.length ≤ 100 ∧ ∀ c ∈ tlc z, c < 1000) : PyData.canLay0 (.str z) = true := by
  show z.cps.all (· < 0x110000) = true
  rw [← Array.all_toList]
  exact List.all_eq_true.mpr fun c hc => decide_eq_true (Nat.lt_trans (h.2 c hc) (by decide))
theorem sc_lay {m : Nat} {d : PyData} (h : ScD m d) : d.canLay0 = true ∧ d.depth ≤ 0 := by
  cases d with
  | none => exact ⟨rfl, Nat.le_refl _⟩
  | bool => exact ⟨rfl, Nat.le_refl _⟩
  | int => exact ⟨rfl, Nat.le_refl _⟩
  | str z => exact ⟨str_ok h, Nat.le_refl _⟩
  | list => exact False.elim h
  | tuple => exact False.elim h
  | dict => exact False.elim h
theorem ElX.okE {m : Nat} {d : PyData} (h : ElX m d) : okE d := by
  rcases h with h | ⟨ds, e, hl, q⟩
  · refine ⟨fun ds e => ?_, (sc_lay h).1, Nat.le_trans (sc_lay h).2 (by decide)⟩
    subst e
    exact False.elim h
  · obtain ⟨l1, l2⟩ := lay_all (k := 0) fun x hx => sc_lay (q x hx)
    rcases e with ⟨rfl, _⟩ | rfl
    · exact ⟨fun es e => (nomatch e), l1, by show PyData.depthAll ds + 1 ≤ 60; omega⟩
    · refine ⟨fun es e => ?_, l1, by show PyData.depthAll ds + 1 ≤ 60; omega⟩
      cases e
      exact ⟨by omega, fun x hx => sc_okN (q x hx)⟩
theorem sc_small {m : Nat} {d : PyData} (hm : m < 10 ^ 40) (h : ScD m d) : Small d 0 1002 := by
  cases d with
  | none => exact ⟨rfl, rfl, Nat.le_refl _, by show ("None" : Str).length ≤ 1002; decide⟩
  | bool b => exact ⟨rfl, rfl, Nat.le_refl _, by cases b <;> (show (_ : Str).length ≤ 1002; decide)⟩
  | int i =>
    have hi : i.natAbs < 10 ^ 40 := Nat.lt_of_le_of_lt h hm
    refine ⟨decide_eq_true ?_, rfl, Nat.le_refl _, ?_⟩
    · have h2 : i.natAbs < 2 ^ 140 := Nat.lt_trans hi (by decide)
      exact Nat.lt_trans (PySem.Flt.log2_lt_of (by decide) h2) (by decide)
    · have q := int_text_length_le10 (k := 40) (by decide) hi
      show (Str.ofString (toString i)).length ≤ 1002
      rw [PySem.ofString_length]
      omega
  | str z =>
    refine ⟨rfl, rfl, Nat.le_refl _, ?_⟩
    have q := PySem.StrLaws.reprText_len z fun c hc => Nat.lt_trans (h.2 c hc) (by decide)
    have := h.1
    show (reprText z).length ≤ 1002
    omega
  | list => exact False.elim h
  | tuple => exact False.elim h
  | dict => exact False.elim h
theorem piled_le {m : Nat} : ∀ {ts : List Str}, (∀ t ∈ ts, t.length ≤ m) → piled ts ≤ ts.length * (m + 2)
  | [], _ => Nat.zero_le _
  | t :: r, h => by
    have h1 := h t List.mem_cons_self
    have h2 := piled_le (ts := r) fun u hu => h u (List.mem_cons_of_mem _ hu)
    rw [List.length_cons, Nat.succ_mul]
    simp only [piled, List.map_cons, List.sum_cons] at h2 ⊢
    omega
theorem tupleText_le {m : Nat} {ts : List Str} (h : ∀ t ∈ ts, t.length ≤ m) : (tupleText ts).length ≤ ts.length * (m + 2) + 4 := by
  unfold tupleText
  have e1 : (("(" : String) : Str).length = 1 := by decide
  have e2 : ((if ts.length == 1 then ",)" else ")" : String) : Str).length ≤ 2 := by split <;> decide
  rw [Str.length_append, Str.length_append]
  cases ts with
  | nil =>
    have : (Str.join ", " ([] : List Str)).length = 0 := rfl
    omega
  | cons x r =>
    have q := join_length_add (x :: r) (by simp)
    have p := piled_le h
    omega
theorem small_tuple {k n m : Nat} {ds : List PyData} (h : ∀ d ∈ ds, Small d k n) (hm : ds.length * (n + 2) + 4 ≤ m) : Small (.tuple ds) (k + 1) m := by
  obtain ⟨h1, h2, h3⟩ := small_all h
  refine ⟨h1, h2, Nat.succ_le_succ h3, Nat.le_trans (tupleText_le (m := n) fun t ht => ?_) (by rw [shownAll_len]; exact hm)⟩
  obtain ⟨d, hd, rfl⟩ := shownAll_mem ht
  exact (h d hd).ln
theorem Small.mono {d : PyData} {k k' n n' : Nat} (h : Small d k n) (hk : k ≤ k') (hn : n ≤ n') : Small d k' n' := ⟨h.sh, h.nd, Nat.le_trans h.dp hk, Nat.le_trans h.ln hn⟩
theorem ElX.small {m : Nat} {d : PyData} (hm : m < 10 ^ 40) (h : ElX m d) : Small d 1 6100 := by
  rcases h with h | ⟨ds, e, hl, q⟩
  · exact (sc_small hm h).mono (by decide) (by decide)
  · have hs : ∀ e ∈ ds, Small e 0 1002 := fun e he => sc_small hm (q e he)
    have hb : ds.length * (1002 + 2) ≤ 6 * 1004 := Nat.mul_le_mul_right _ hl
    rcases e with ⟨rfl, _⟩ | rfl
    · exact small_list hs (by omega)
    · exact small_tuple hs (by omega)
/-- what _law_changed makes -/
def spChg (K : PySem.W.Frag) : Sp := fun vs H Q _ => ∃ (b R L : Addr) (n : Int) (rs : List V) (ds : List PyData) (zs : List Str) (m : Nat), vs = [.ref b, .ref R, .ref L] ∧ Bag H b n ∧ n < 700000 ∧ R ≠ b ∧ L ≠ b ∧ H R = some (.lst rs) ∧ DpAll K H rs ds ∧ 1 ≤ ds.length ∧ ds.length ≤ 100 ∧ (∀ d ∈ ds, BdX m d) ∧
  H L = some (.lst (zs.map V.str)) ∧ 1 ≤ zs.length ∧ zs.length ≤ 100 ∧ (∀ z ∈ zs, isNm z = true) ∧
  ∀ F fs es G, H F = none → F ≠ b → Kept b H G → Bag G b (n + 3) → G F = some (.lst fs) → DpAll K G fs es → es.length ≤ 2 * ds.length → (∀ e ∈ es, ElX (m + 10 ^ 29) e) → Q (.ref F) G
theorem sc_any {K : PySem.W.Frag} {G G' : Hp} {m : Nat} {v : V} {d : PyData} (h : ScD m d) (q : Dp K G v d) : Dp K G' v d := by
  cases q with
  | non => exact .non
  | bl b => exact .bl b
  | int i => exact .int i
  | str x => exact .str x
  | lst => exact False.elim h
  | tup => exact False.elim h
theorem sc_anys {K : PySem.W.Frag} {G G' : Hp} {m : Nat} : ∀ {vs : List V} {ds : List PyData}, (∀ e ∈ ds, ScD m e) → DpAll K G vs ds → DpAll K G' vs ds
  | _, _, _, .nil => .nil
  | _, _, h, .cons a r => .cons (sc_any (h _ List.mem_cons_self) a) (sc_anys (fun e he => h e (List.mem_cons_of_mem _ he)) r)
/-- such a thing stands while all but the bag stands -/
theorem el_kept {K : PySem.W.Frag} {G G' : Hp} {b : Addr} {n : Int} {m : Nat} {v : V} {d : PyData} (hB : Bag G b n) (k : Kept b G G') (h : ElX m d) (q : Dp K G v d) : Dp K G' v d := by
  obtain ⟨bd, bm, bc, eb, _⟩ := hB
  rcases h with h | ⟨ds, e, hl, hs⟩
  · exact sc_any h q
  · rcases e with ⟨rfl, z, r, rfl⟩ | rfl
    · cases q with
      | lst hS hA =>
        refine .lst ?_ (sc_anys hs hA)
        cases hA with
        | cons h1 _ =>
          cases h1
          have hne : ∀ {a : Addr} {u : HO}, G a = some u → (∀ xs, u = .lst (.int bd :: xs) → False) → a ≠ b := by
            rintro a u h1 h2 rfl
            rw [eb] at h1
            exact h2 _ (Option.some.inj h1).symm
          rcases hS with (h | ⟨o2, h⟩) | h
          · exact .inl (.inl (k _ _ (hne h (fun _ z => nomatch z)) h))
          · exact .inl (.inr ⟨o2, k _ _ (hne h (fun _ z => nomatch z)) h⟩)
          · exact .inr h
    · cases q with
      | tup hS hA =>
        refine .tup ?_ (sc_anys hs hA)
        have hne : ∀ {a : Addr} {u : HO}, G a = some u → (∀ xs, u ≠ .lst xs) → a ≠ b := by
          rintro a u h1 h2 rfl
          rw [eb] at h1
          exact h2 _ (Option.some.inj h1).symm
        rcases hS with (h | ⟨o2, h⟩) | h
        · exact .inl (.inl (k _ _ (hne h (fun _ z => nomatch z)) h))
        · exact .inl (.inr ⟨o2, k _ _ (hne h (fun _ z => nomatch z)) h⟩)
        · exact .inr h
theorem els_kept {K : PySem.W.Frag} {G G' : Hp} {b : Addr} {n : Int} {m : Nat} (hB : Bag G b n) (k : Kept b G G') : ∀ {vs : List V} {ds : List PyData}, (∀ e ∈ ds, ElX m e) → DpAll K G vs ds → DpAll K G' vs ds
  | _, _, _, .nil => .nil
  | _, _, h, .cons a r => .cons (el_kept hB k (h _ List.mem_cons_self) a) (els_kept hB k (fun e he => h e (List.mem_cons_of_mem _ he)) r)
theorem el_bd {m : Nat} {d : PyData} (h : ElX m d) (q : bdD d = true) : BdX m d := by
  unfold bdD at q
  cases e : bd3 d with
  | none => rw [e] at q; cases q
  | some t =>
    obtain ⟨rfl, h1, h2, _⟩ := bd3_inv e
    refine ⟨t.1, t.2.1, t.2.2, rfl, h1, h2, ?_⟩
    rcases h with h | ⟨ds, e2, _, hs⟩
    · exact False.elim h
    · rcases e2 with ⟨e2, _⟩ | e2
      · cases e2
      · cases e2
        exact hs (.int t.2.2) (by simp)
end KX

set_option Elab.async false
set_option maxRecDepth 100000
set_option maxHeartbeats 2000000
/-! repr of data of any form; things: drawn odd objects, names and whole numbers. -/
namespace KX
open PySem PySem.Spec PyProof.Rows L2
def rReprD (K : PySem.W.Frag) : List V → Hp → VK → Prop := fun xs H Q => ∃ (v : V) (d : PyData), xs = [v] ∧ Dp K H v d ∧ Small d 8 sizeLine ∧ Q (.str d.shown) H
theorem call_reprD {X : Cx} (hg : X.A.guards = some []) (hu : X.A.units + 10 < cLine) : CallR X (.builtin "repr") (rReprD X.K) := by
  intro pins s σ H xs us Q I r h
  obtain ⟨v, d, rfl, hd, hs, q⟩ := h
  cases hd with
  | lst a b => exact call_repr hg hu pins s σ H _ us Q I r ⟨_, _, rfl, .lst a b, hs.sh, hs.nd, hs.dp, hs.ln, q⟩
  | tup a b => exact call_repr hg hu pins s σ H _ us Q I r ⟨_, _, rfl, .tup a b, hs.sh, hs.nd, hs.dp, hs.ln, q⟩
  | non =>
    obtain ⟨u, rfl, ru⟩ := vals1 r
    cases ru
    exact PySem.P.repr_of_none ⟨.str _, H, I.tok _, ⟨_, rfl⟩, q⟩
  | bl b =>
    obtain ⟨u, rfl, ru⟩ := vals1 r
    cases ru
    exact PySem.P.repr_of_bool ⟨.str _, H, I.tok _, ⟨_, by cases b <;> rfl⟩, q⟩
  | int i =>
    obtain ⟨u, rfl, t, rfl⟩ := vals1 r
    exact PySem.P.repr_of_int (of_decide_eq_true hs.sh) ⟨.str _, H, I.tok _, ⟨_, rfl⟩, q⟩
  | str x =>
    obtain ⟨u, rfl, t, rfl⟩ := vals1 r
    exact PySem.P.repr_of_str (hsz := hs.ln) ⟨.str _, H, I.tok _, ⟨_, rfl⟩, q⟩
/-- a thing: a scalar, or one of the odd lists and tuples -/
def ThV (m : Nat) (H : Hp) : V → PyData → Prop := fun v d =>
  (ScD m d ∧ ((v = .non ∧ d = .none) ∨ (∃ b, v = .bl b ∧ d = .bool b) ∨ (∃ i, v = .int i ∧ d = .int i) ∨ ∃ z, v = .str z ∧ d = .str z)) ∨
  (∃ p, v = .ref p ∧ H p = some (.lst [.str "a"]) ∧ d = .list [.str "a"]) ∨ (∃ p, v = .ref p ∧ H p = some (.tup [.str "a", .int 1]) ∧ d = .tuple [.str "a", .int 1]) ∨
  (∃ p, v = .ref p ∧ H p = some (.lst []) ∧ d = .list []) ∨ (∃ p, v = .ref p ∧ H p = some (.tup []) ∧ d = .tuple []) ∨
  (∃ p q, v = .ref p ∧ H p = some (.lst [.ref q]) ∧ H q = some (.lst [.int 1]) ∧ d = .list [.list [.int 1]])
/-- what odd lists and tuples are on the heap -/
def OddO (o : HO) : Prop := o = .lst [.str "a"] ∨ o = .tup [.str "a", .int 1] ∨ o = .lst [] ∨ o = .tup [] ∨ o = .lst [.int 1] ∨ ∃ q, o = .lst [.ref q]
section
variable {m : Nat} {K : PySem.W.Frag} {H G : Hp} {v : V} {d : PyData}
theorem ThV.keep (h : ThV m H v d) (k : ∀ p o, OddO o → H p = some o → G p = some o) : ThV m G v d := by
  rcases h with h | ⟨p, e, hp, ed⟩ | ⟨p, e, hp, ed⟩ | ⟨p, e, hp, ed⟩ | ⟨p, e, hp, ed⟩ | ⟨p, q, e, hp, hq, ed⟩
  · exact .inl h
  · exact .inr (.inl ⟨p, e, k _ _ (.inl rfl) hp, ed⟩)
  · exact .inr (.inr (.inl ⟨p, e, k _ _ (.inr (.inl rfl)) hp, ed⟩))
  · exact .inr (.inr (.inr (.inl ⟨p, e, k _ _ (.inr (.inr (.inl rfl))) hp, ed⟩)))
  · exact .inr (.inr (.inr (.inr (.inl ⟨p, e, k _ _ (.inr (.inr (.inr (.inl rfl)))) hp, ed⟩))))
  · exact .inr (.inr (.inr (.inr (.inr ⟨p, q, e, k _ _ (.inr (.inr (.inr (.inr (.inr ⟨q, rfl⟩))))) hp, k _ _ (.inr (.inr (.inr (.inr (.inl rfl))))) hq, ed⟩))))
theorem ThV.same (h : ThV m H v d) (s : Same H G) : ThV m G v d := h.keep fun p o _ e => s p o e
/-- all but one object stands, and that is none of them -/
theorem ThV.but {b : Addr} (h : ThV m H v d) (k : Kept b H G) (hb : ∀ o, OddO o → H b ≠ some o) : ThV m G v d :=
  h.keep fun p o ho e => k p o (fun z => hb o ho (z ▸ e)) e
theorem ThV.mono {m' : Nat} (h : ThV m H v d) (hm : m ≤ m') : ThV m' H v d := by
  rcases h with ⟨h1, h2⟩ | h
  · exact .inl ⟨h1.mono hm, h2⟩
  · exact .inr h
theorem ThV.dp (h : ThV m H v d) : Dp K H v d := by
  rcases h with ⟨_, ⟨rfl, rfl⟩ | ⟨b, rfl, rfl⟩ | ⟨i, rfl, rfl⟩ | ⟨z, rfl, rfl⟩⟩ | ⟨p, rfl, hp, rfl⟩ | ⟨p, rfl, hp, rfl⟩ | ⟨p, rfl, hp, rfl⟩ | ⟨p, rfl, hp, rfl⟩ | ⟨p, q, rfl, hp, hq, rfl⟩
  · exact .non
  · exact .bl b
  · exact .int i
  · exact .str z
  · exact .lst (SqL.of hp) (.cons (.str _) .nil)
  · exact .tup (SqT.of hp) (.cons (.str _) (.cons (.int _) .nil))
  · exact .lst (SqL.of hp) .nil
  · exact .tup (SqT.of hp) .nil
  · exact .lst (SqL.of hp) (.cons (.lst (SqL.of hq) (.cons (.int _) .nil)) .nil)
theorem ThV.small (h : ThV m H v d) (hm : m < 10 ^ 40) : Small d 8 2000 := by
  rcases h with ⟨h, _⟩ | ⟨_, _, _, rfl⟩ | ⟨_, _, _, rfl⟩ | ⟨_, _, _, rfl⟩ | ⟨_, _, _, rfl⟩ | ⟨_, _, _, _, _, rfl⟩
  · exact (sc_small hm h).mono (by decide) (by decide)
  all_goals exact ⟨by decide +kernel, by decide +kernel, by decide +kernel, by decide +kernel⟩
theorem ThV.okN (h : ThV m H v d) : okN d := by
  rcases h with ⟨h, _⟩ | ⟨_, _, _, rfl⟩ | ⟨_, _, _, rfl⟩ | ⟨_, _, _, rfl⟩ | ⟨_, _, _, rfl⟩ | ⟨_, _, _, _, _, rfl⟩
  · exact sc_okN h
  all_goals exact fun z e => nomatch e
theorem ThV.shaped (h : ThV m H v d) : SeqAt.shaped d = true := by
  rcases h with ⟨h, _⟩ | ⟨_, _, _, rfl⟩ | ⟨_, _, _, rfl⟩ | ⟨_, _, _, rfl⟩ | ⟨_, _, _, rfl⟩ | ⟨_, _, _, _, _, rfl⟩
  · obtain ⟨h1, h2⟩ := sc_lay h
    exact Bool.and_eq_true_iff.mpr ⟨h1, decide_eq_true (Nat.le_trans h2 (by decide))⟩
  all_goals decide +kernel
end
end KX

set_option Elab.async false
set_option maxRecDepth 100000
set_option maxHeartbeats 1000000
/-! The refusals of a board. -/
namespace K86
open PySem PySem.Spec PyProof.Rows L2 He KX StX
abbrev sNRI : Stmt := inClass (top 7) 0
abbrev sNPI : Stmt := inClass (top 8) 0
abbrev sBNI : Stmt := inClass (top 9) 0
abbrev sBPI : Stmt := inClass (top 10) 0
abbrev big : Nat := 10 ^ 31
def spX1 (C : Addr) (f : Str) : Sp := fun vs H Q _ => ∃ (a : Addr) (x : V) (H0 : Hp), vs = [.ref a, x] ∧ H = upd H0 a (exo a C none) ∧ H0 a = none ∧
  ∀ d H', H0 d = none → d ≠ a → H' a = some (exo a C (some d)) → H' d = some (exd d [(f, x)]) → (∀ y, y ≠ a → y ≠ d → H' y = H0 y) → Q .non H'
def spX2 (C : Addr) (f g : Str) : Sp := fun vs H Q _ => ∃ (a : Addr) (x y : V) (H0 : Hp), vs = [.ref a, x, y] ∧ H = upd H0 a (exo a C none) ∧ H0 a = none ∧
  ∀ d H', H0 d = none → d ≠ a → H' a = some (exo a C (some d)) → H' d = some (exd d [(g, y), (f, x)]) → (∀ y, y ≠ a → y ≠ d → H' y = H0 y) → Q .non H'
/-- what is raised: all that was there stands, and the exception's own dict -/
def Raised (C : Addr) (H : Hp) (fs : List (Str × V)) (E : XK) : Prop := ∀ d H', Same H H' → H' d = some (.xd fs) → E (.ref C) (some d) H'
theorem raised_at {C : Addr} {H J : Hp} {fs : List (Str × V)} {E : XK} (h : Raised C H fs E) (s : Same H J) {e d : Addr} {H' : Hp} (he : J e = none) (hd : J d = none) (hne : d ≠ e) (h3 : ∀ y, y ≠ e → y ≠ d → H' y = J y) : E (.ref C) (some d) (upd (del H' e) d (.xd fs)) := by
  refine h d _ (fun b o q => ?_) upd_same
  have q1 := s _ _ q
  have nb : b ≠ d := ne_of_none q1 hd
  have ne : b ≠ e := ne_of_none q1 he
  rw [upd_ne nb, del_ne ne, h3 b ne nb]
  exact q1
def prsD (rows : List Rw) : PyData → List Pr
  | .str l => prsL rows l
  | _ => []
theorem eqv_str (x : Str) (d : PyData) : PyData.eqv (.str x) d = match d with | .str l => decide (x = l) | _ => false := by
  cases d with
  | str l =>
    show (x == l) = decide (x = l)
    by_cases c : x = l
    · rw [decide_eq_true c, beq_iff_eq.mpr c]
    · rw [decide_eq_false c, beq_eq_false_iff_ne.mpr c]
  | _ => rfl
theorem prsD_snoc {rows : List Rw} {i : Nat} {rn ln : Str} {pn : Int} (d : PyData) (h : rows[i]? = some (rn, ln, pn)) : prsD (rows.take (i + 1)) d = prsD (rows.take i) d ++ (if PyData.eqv (.str ln) d = true then [(pn, rn)] else []) := by
  rw [eqv_str]
  cases d with
  | str l =>
    show prsL _ l = prsL _ l ++ _
    unfold prsL
    rw [flt_take h, List.map_append]
    dsimp only
    split <;> rfl
  | _ => rfl
theorem prsD_len (rows : List Rw) (d : PyData) : (prsD rows d).length ≤ rows.length := by
  cases d with
  | str l => exact Nat.le_trans (Nat.le_of_eq (List.length_map ..)) (List.length_filter_le _ _)
  | _ => exact Nat.zero_le _
theorem shp_str {z : Str} (h : z.length ≤ 100 ∧ ∀ c ∈ tlc z, c < 1000) : SeqAt.shaped (.str z) = true := Bool.and_eq_true_iff.mpr ⟨str_ok h, decide_eq_true (by show 0 ≤ 64; decide)⟩
def spPairsD (K : PySem.W.Frag) : Sp := fun vs H Q _ => ∃ (a : Addr) (rows : List Rw) (x : V) (d : PyData), vs = [.ref a, x] ∧ BdAt K H a rows ∧ rows.length ≤ 1000 ∧ (∀ y ∈ rows, isNm y.2.1 = true) ∧ ThV big H x d ∧ ∀ p xs H', H p = none → Same H H' → H' p = some (.lst xs) → Paired (PrAt H') xs (srtP (prsD rows d)) → Q (.ref p) H'
def isRow (rows : List Rw) : PyData → Bool
  | .str r => rows.any fun x => decide (x.1 = r)
  | _ => false
def spHasD (K : PySem.W.Frag) : Sp := fun vs H Q _ => ∃ (a : Addr) (rows : List Rw) (x : V) (d : PyData), vs = [.ref a, x] ∧ BdAt K H a rows ∧ ThV big H x d ∧ Q (.bl (isRow rows d)) H
def spSetR (K : PySem.W.Frag) : Sp := fun vs H Q E => ∃ (a t : Addr) (rows : List Rw) (x y z : V) (dx dy dz : PyData), vs = [.ref a, .ref t, z] ∧ BdAt K H a rows ∧ SqT K H t [x, y] ∧ rows.length ≤ 1000 ∧ ThV big H x dx ∧ ThV big H y dy ∧ ThV big H z dz ∧
  (nmD dx = false → Raised (ga K "BadName") H [("name", x)] E) ∧ (nmD dx = true → isIntD dy = false → Raised (ga K "BadPlace") H [("place", y)] E) ∧ (nmD dx = true → isIntD dy = true → nmD dz = false → Raised (ga K "BadName") H [("name", z)] E) ∧
  ∀ l p r, dx = .str l → dy = .int p → dz = .str r → isNm l = true → isNm r = true → ∀ H', Kept a H H' → BdAt K H' a (putR rows r l p) → BdNew K H H' a → Q .non H'
def foundD (rows : List Rw) (dx dy : PyData) : Option Pr := match dy with
  | .int p => (srtP (prsD rows dx)).find? fun x => decide (x.1 = p)
  | _ => none
def spGetR (K : PySem.W.Frag) : Sp := fun vs H Q E => ∃ (a t : Addr) (rows : List Rw) (x y : V) (dx dy : PyData), vs = [.ref a, .ref t] ∧ BdAt K H a rows ∧ SqT K H t [x, y] ∧ rows.length ≤ 1000 ∧ (∀ y ∈ rows, isNm y.2.1 = true) ∧ ThV big H x dx ∧ ThV big H y dy ∧
  (∀ q, foundD rows dx dy = some q → ∀ H', Same H H' → Q (.str q.2) H') ∧ (foundD rows dx dy = none → Raised (ga K "NoPlace") H [("place", y), ("lst", x)] E)
def spMiss (K : PySem.W.Frag) : Sp := fun vs H Q E => ∃ (a : Addr) (rows : List Rw) (x : V) (d : PyData), vs = [.ref a, x] ∧ BdAt K H a rows ∧ ThV big H x d ∧ isRow rows d = false ∧ Raised (ga K "NoRow") H [("row", x)] E
section
variable {P : Program} {w : World} {K : PySem.W.Frag} {mg : Str → Option Value} {base : Heap}
theorem scNRI : FnScope ["self", "row"] ["self", "row"] (defScope sNRI) := ⟨rfl, rfl, rfl, by decide +kernel, rfl, by decide +kernel, by decide +kernel⟩
theorem scBNI : FnScope ["self", "name"] ["self", "name"] (defScope sBNI) := ⟨rfl, rfl, rfl, by decide +kernel, rfl, by decide +kernel, by decide +kernel⟩
theorem scBPI : FnScope ["self", "place"] ["self", "place"] (defScope sBPI) := ⟨rfl, rfl, rfl, by decide +kernel, rfl, by decide +kernel, by decide +kernel⟩
theorem scNPI : FnScope ["self", "lst", "place"] ["self", "lst", "place"] (defScope sNPI) := ⟨rfl, rfl, rfl, by decide +kernel, rfl, by decide +kernel, by decide +kernel⟩
theorem ok_nri {f : Addr} {fd : FuncData} (F : FunD K "__init__" "NoRow.__init__" (defArgs sNRI) (defBody sNRI) (defScope sNRI) [] [] f fd) (B : ErNR K) : FnOk P w K mg base CX0 1 f fd ["self", "row"] (spX1 (ga K "NoRow") "row") := by
  refine F.ok scNRI (fun vs H Q E h => ?_) (fun cdv A outer s H vs Q E hr h => ?_)
  · obtain ⟨a, x, H0, rfl, _⟩ := h
    rfl
  · obtain ⟨a, x, H0, rfl, rfl, ha, k⟩ := h
    refine ⟨_, PSs.nox (pss_one (ps_st (pv 0) (pv 1))), ?_⟩
    refine ⟨_, rfl, _, rfl, a, _, _, _, rfl, B.T, bsL, B.no _ List.mem_cons_self, .inl ⟨upd_same, fun d hd hda => ?_⟩⟩
    exact k d _ ((upd_ne hda).symm.trans hd) hda upd_same ((upd_ne hda).trans upd_same) (fun x n1 n2 => (upd_ne n1).trans ((upd_ne n2).trans (upd_ne n1)))
theorem ok_bni {f : Addr} {fd : FuncData} (F : FunD K "__init__" "BadName.__init__" (defArgs sBNI) (defBody sBNI) (defScope sBNI) [] [] f fd) (B : ErBN K) : FnOk P w K mg base CX0 1 f fd ["self", "name"] (spX1 (ga K "BadName") "name") := by
  refine F.ok scBNI (fun vs H Q E h => ?_) (fun cdv A outer s H vs Q E hr h => ?_)
  · obtain ⟨a, x, H0, rfl, _⟩ := h
    rfl
  · obtain ⟨a, x, H0, rfl, rfl, ha, k⟩ := h
    refine ⟨_, PSs.nox (pss_one (ps_st (pv 0) (pv 1))), ?_⟩
    refine ⟨_, rfl, _, rfl, a, _, _, _, rfl, B.T, bsV, B.no _ List.mem_cons_self, .inl ⟨upd_same, fun d hd hda => ?_⟩⟩
    exact k d _ ((upd_ne hda).symm.trans hd) hda upd_same ((upd_ne hda).trans upd_same) (fun x n1 n2 => (upd_ne n1).trans ((upd_ne n2).trans (upd_ne n1)))
theorem ok_bpi {f : Addr} {fd : FuncData} (F : FunD K "__init__" "BadPlace.__init__" (defArgs sBPI) (defBody sBPI) (defScope sBPI) [] [] f fd) (B : ErBP K) : FnOk P w K mg base CX0 1 f fd ["self", "place"] (spX1 (ga K "BadPlace") "place") := by
  refine F.ok scBPI (fun vs H Q E h => ?_) (fun cdv A outer s H vs Q E hr h => ?_)
  · obtain ⟨a, x, H0, rfl, _⟩ := h
    rfl
  · obtain ⟨a, x, H0, rfl, rfl, ha, k⟩ := h
    refine ⟨_, PSs.nox (pss_one (ps_st (pv 0) (pv 1))), ?_⟩
    refine ⟨_, rfl, _, rfl, a, _, _, _, rfl, B.T, bsV, B.no _ List.mem_cons_self, .inl ⟨upd_same, fun d hd hda => ?_⟩⟩
    exact k d _ ((upd_ne hda).symm.trans hd) hda upd_same ((upd_ne hda).trans upd_same) (fun x n1 n2 => (upd_ne n1).trans ((upd_ne n2).trans (upd_ne n1)))
theorem ok_npi {f : Addr} {fd : FuncData} (F : FunD K "__init__" "NoPlace.__init__" (defArgs sNPI) (defBody sNPI) (defScope sNPI) [] [] f fd) (B : ErNP K) : FnOk P w K mg base CX0 1 f fd ["self", "lst", "place"] (spX2 (ga K "NoPlace") "lst" "place") := by
  refine F.ok scNPI (fun vs H Q E h => ?_) (fun cdv A outer s H vs Q E hr h => ?_)
  · obtain ⟨a, x, y, H0, rfl, _⟩ := h
    rfl
  · obtain ⟨a, x, y, H0, rfl, rfl, ha, k⟩ := h
    refine ⟨_, PSs.nox (pss_cons (ps_st (pv 0) (pv 1)) (pss_one (ps_st (pv 0) (pv 2)))), ?_⟩
    refine ⟨_, rfl, _, rfl, a, _, _, _, rfl, B.T, bsL, B.no _ List.mem_cons_self, .inl ⟨upd_same, fun d hd hda => ?_⟩⟩
    refine ⟨_, rfl, _, rfl, a, _, _, _, rfl, B.T, bsL, B.no _ (List.mem_cons_of_mem _ List.mem_cons_self), .inr ⟨d, _, upd_same, (upd_ne hda).trans upd_same, (by show 1 ≤ 900; decide), ?_⟩⟩
    exact k d _ ((upd_ne hda).symm.trans hd) hda ((upd_ne hda.symm).trans upd_same) upd_same (fun x n1 n2 => (upd_ne n2).trans ((upd_ne n1).trans ((upd_ne n2).trans (upd_ne n1))))
end
end K86

set_option Elab.async false
set_option maxRecDepth 100000
set_option maxHeartbeats 2000000
namespace K86
open PySem PySem.Spec PyProof.Rows L2 He KX StX
theorem prsD_nil (d : PyData) : prsD [] d = [] := by cases d <;> rfl
section
variable {P : Program} {w : World} {K : PySem.W.Frag} {mg : Str → Option Value} {base : Heap}
theorem ok_pairsD {f : Addr} {fd : FuncData} (F : MtP K "_pairs" "Board._pairs" sBPairs f fd) (S : Brd K) (n_sorted : mg "sorted" = none) : FnOk P w K mg base CX0 1 f fd ["self", "lst"] (spPairsD K) := by
  refine F.ok scBPairs (fun vs H Q E h => ?_) (fun cdv A outer s H vs Q E hr h => ?_)
  · obtain ⟨a, rows, v, dl, rfl, _⟩ := h
    rfl
  · obtain ⟨a, rows, xv, dl, rfl, hB, hlen, hnm, hx, k⟩ := h
    have nd := scBPairs.nd
    have hu := hr.units
    refine ⟨_, PSs.nox (pss_one (ps_ret (pe_callB (cr_sortedDp hu) (by rfl) n_sorted (by decide +kernel) (pa_cons (pe_lock (pe_lc (own := [("row", 2), ("spot", 3)]) (g := (gTup K 2 (gCons (gName 2) (gCons (gName 3) gNil))))  rfl nd (pi_items (pe_fld (pv 0) rfl)) (blkOk_by (own := [("row", 2), ("spot", 3)]) (N := ["self", "lst", "row", "spot"]) (sc := defScope sBPairs) (by decide +kernel)) (fun _ _ _ _ _ => (pg_tup rfl (pgs_cons (pg_name (i := 2) nd rfl (Or.inl rfl) (.inr rfl)) (pgs_cons (pg_name (i := 3) nd rfl (Or.inl rfl) (.inr rfl)) pgs_nil)))) (fun _ _ _ _ _ => (pts_one (pt_cmpR (show OpR _ _ (rEqD K) from op_eqD hu) (pe_ix (show IxR _ (rIxT K) from ix_tup) (pv 3) pe_int (fun _ _ => rfl)) (pv 1) (nomark _)))) (fun _ _ _ _ _ => (pe_tup (pa_cons (pe_ix (show IxR _ (rIxT K) from ix_tup) (pv 3) pe_int (fun _ _ => rfl)) (pa_cons (pv 2) pa_nil)))))) pa_nil)))), ?_⟩
    obtain ⟨dx, d, kvs, ha, hd, hE, hN⟩ := hB
    refine ⟨d, _, hd, trivial, fun od => ?_⟩
    have had : a ≠ d := fun e => by rw [e, hd] at ha; cases ha
    refine ⟨_, rfl, a, _, dx, _, _, rfl, (upd_ne had).trans ha, S.cls, S.noat, rfl, d, od, kvs, rfl, upd_same, fun D nD => ?_⟩
    have sHf : ∀ x o, x ≠ d → H x = some o → upd H d (.frz od (.dK kvs)) x = some o := fun x o n e => (upd_ne n).trans e
    have fd0 : upd H d (.frz od (.dK kvs)) d = some (.frz od (.dK kvs)) := upd_same
    have hE2 : Paired (Ent (upd H d (.frz od (.dK kvs)))) kvs rows := pr_imp (fun kv x z => ⟨z.k, z.v.imp fun t h => ⟨h.1, sHf _ _ (fun e => by rw [e, hd] at h; cases h.2) h.2⟩⟩) hE
    have back : ∀ G, Same (upd H d (.frz od (.dK kvs))) G → Same H (upd G d (.dK kvs)) := fun G sG x o e => by
      by_cases hx : x = d
      · subst hx
        rw [hd] at e
        rw [upd_same]
        exact e
      · rw [upd_ne hx]
        exact sG _ _ (sHf _ _ hx e)
    generalize upd H d (.frz od (.dK kvs)) = Hf at nD sHf fd0 hE2 back ⊢
    refine lc_it (walk_items (d := d) (o := od) (kvs := kvs)) (fun i G => ∃ xs, G D = some (.lst xs) ∧ Paired (PrAt G) xs (prsD (rows.take i) dl) ∧ Same Hf G) ⟨[], upd_same, (by show Paired _ [] (prsD [] dl); rw [prsD_nil]; exact .nil), same_put nD⟩ (fun i G _ h => by obtain ⟨_, _, _, q⟩ := h; exact q _ _ fd0) ?_ ?_
    · rintro i x G' G hi ⟨xs, hD, hP, sG⟩ y
      obtain ⟨T, u, v, rfl, nT, rfl, hu', hv'⟩ := y
      obtain ⟨kv, hkv, hu2⟩ := Option.map_eq_some_iff.mp hu'
      obtain ⟨kv2, hkv2, hv2⟩ := Option.map_eq_some_iff.mp hv'
      rw [hkv] at hkv2
      obtain rfl := Option.some.inj hkv2
      obtain ⟨rw_, hrw, hent⟩ := pr_at hE2 hkv
      obtain ⟨rn, ln, pn⟩ := rw_
      obtain ⟨key, val⟩ := kv
      have ek : key = .inr rn := hent.k
      obtain ⟨t, et, ht⟩ := hent.v
      dsimp only at hu2 hv2 et ht
      subst ek
      subst et
      subst hv2
      obtain rfl : u = V.str rn := hu2.symm
      have sT := same_put (o := .tup [V.str rn, V.ref t]) nT
      have hT : upd G' T (.tup [V.str rn, V.ref t]) T = some (.tup [V.str rn, V.ref t]) := upd_same
      generalize upd G' T (.tup [V.str rn, V.ref t]) = G2 at sT hT
      have ht2 : G2 t = some (.tup [V.str ln, V.int pn]) := sT _ _ (sG _ _ ht)
      have hD2 := sT _ _ hD
      have hP2 : Paired (PrAt G2) xs (prsD (rows.take i) dl) := pr_imp (fun _ _ z => z.same sT) hP
      have sG2 := sG.trans sT
      have etk := prsD_snoc dl hrw
      have hx2 : ThV big G2 xv dl := ((hx.keep fun p o ho e => sHf p o (fun z => by rw [z, hd] at e; cases e; rcases ho with h | h | h | h | h | ⟨q, h⟩ <;> cases h) e).same sG).same sT
      have shl : SeqAt.shaped (.str ln) = true := shp_str (nm_sc (m := 0) (hnm _ (List.mem_of_getElem? hrw)))
      refine ⟨_, _, rfl, SqT.of hT, rfl, _, _, rfl, _, _, rfl, rfl, rfl, ?_⟩
      refine ⟨_, rfl, t, _, _, _, rfl, rfl, SqT.of ht2, rfl, _, rfl, ?_⟩
      refine ⟨_, _, Dp.str ln, hx2.dp, shl, hx2.shaped, _, rfl, ?_⟩
      by_cases c : PyData.eqv (.str ln) dl = true
      · rw [if_pos c] at etk
        rw [if_pos c]
        refine ⟨_, rfl, t, _, _, _, rfl, rfl, SqT.of ht2, rfl, _, rfl, (by show 2 ≤ sizeLine; decide), fun T2 nT2 => ?_⟩
        have sT2 := same_put (o := .tup [V.int pn, V.str rn]) nT2
        have hT2 : upd G2 T2 (.tup [V.int pn, V.str rn]) T2 = some (.tup [V.int pn, V.str rn]) := upd_same
        generalize upd G2 T2 (.tup [V.int pn, V.str rn]) = G3 at sT2 hT2
        have hxl : xs.length ≤ 1000 := by
          rw [Paired.length hP2]
          exact Nat.le_trans (prsD_len _ _) (by rw [List.length_take]; omega)
        have sF : Same Hf (upd G3 D (.lst (xs ++ [V.ref T2]))) := fun x o e => by
          rw [upd_ne (ne_of_none e nD)]
          exact sT2 _ _ (sG2 _ _ e)
        have dD : ∀ t zs, G3 t = some (.tup zs) → t ≠ D := fun t zs e e2 => by
          rw [e2, sT2 _ _ hD2] at e
          cases e
        refine ⟨xs, sT2 _ _ hD2, (by rw [sizeLine_eq]; omega), xs ++ [V.ref T2], upd_same, ?_, sF⟩
        rw [etk]
        exact pr_app (pr_imp (fun _ _ z => z.imp fun t h => ⟨h.1, (upd_ne (dD _ _ (sT2 _ _ h.2))).trans (sT2 _ _ h.2)⟩) hP2) (.cons ⟨T2, rfl, (upd_ne (dD _ _ hT2)).trans hT2⟩ .nil)
      · rw [if_neg c, List.append_nil] at etk
        rw [if_neg c]
        rw [etk]
        exact ⟨xs, hD2, hP2, sG2⟩
    · rintro G ⟨xs, hD, hP, sG⟩
      refine ⟨sG _ _ fd0, ?_⟩
      rw [hE.len, List.take_length] at hP
      have hb := back G sG
      have nDd : D ≠ d := fun e => by rw [e, fd0] at nD; cases nD
      have hD2 : upd G d (.dK kvs) D = some (.lst xs) := (upd_ne nDd).trans hD
      have hP2 : Paired (PrAt (upd G d (.dK kvs))) xs (prsD rows dl) := pr_imp (fun x q z => z.imp fun t h => ⟨h.1, (upd_ne (fun e => by rw [e, sG _ _ fd0] at h; cases h.2)).trans h.2⟩) hP
      generalize upd G d (.dK kvs) = G2 at hb hD2 hP2
      have hxl : xs.length ≤ 1000 := by
        rw [Paired.length hP2]
        exact Nat.le_trans (prsD_len _ _) hlen
      refine ⟨D, xs, datP G2, rfl, SqL.of hD2, fun x hx => ?_, ?_, ?_, fun x hx => ?_, fun p np => ?_⟩
      · obtain ⟨q, _, hq⟩ := pr_mem hP2 x hx
        rw [datP_of hq]
        exact dp_pr hq
      · intro a1 h1 a2 h2
        obtain ⟨x1, hx1, rfl⟩ := List.mem_map.mp h1
        obtain ⟨x2, hx2, rfl⟩ := List.mem_map.mp h2
        obtain ⟨q1, _, hq1⟩ := pr_mem hP2 x1 hx1
        obtain ⟨q2, _, hq2⟩ := pr_mem hP2 x2 hx2
        rw [datP_of hq1, datP_of hq2]
        rfl
      · refine .inl fun a1 h1 => ?_
        obtain ⟨x1, hx1, rfl⟩ := List.mem_map.mp h1
        obtain ⟨q1, _, hq1⟩ := pr_mem hP2 x1 hx1
        exact ⟨_, _, datP_of hq1⟩
      · obtain ⟨q1, _, hq1⟩ := pr_mem hP2 x hx
        rw [datP_of hq1]
        show 1 ≤ 60
        decide
      · have sp := same_put (o := .lst (srtD (datP G2) xs)) np
        exact k p _ _ (free_same hb np) (hb.trans sp) upd_same (pr_imp (fun _ _ z => z.same sp) (srt_pr (fun x y z => datP_of z) hP2))
end
end K86

set_option Elab.async false
set_option maxRecDepth 100000
set_option maxHeartbeats 2000000
namespace K86
open PySem PySem.Spec PyProof.Rows L2 He KX StX
section
variable {P : Program} {w : World} {K : PySem.W.Frag} {mg : Str → Option Value} {base : Heap}
theorem ok_hasD {f : Addr} {fd : FuncData} (F : MtP K "__contains__" "Board.__contains__" sBHas f fd) (S : Brd K) (n_isinstance : mg "isinstance" = none) (n_str : mg "str" = none) : FnOk P w K mg base CX0 1 f fd ["self", "x"] (spHasD K) := by
  refine F.ok scBHas (fun vs H Q E h => ?_) (fun cdv A outer s H vs Q E hr h => ?_)
  · obtain ⟨a, rows, x, d, rfl, _⟩ := h
    rfl
  · obtain ⟨a, rows, x, dd, rfl, hB, hx, k⟩ := h
    have nd := scBHas.nd
    have hu := Nat.lt_of_le_of_lt (Nat.add_le_add_left (by decide : 1 ≤ 64) _) hr.units
    refine ⟨_, PSs.nox (pss_one (ps_ret (pe_and (pe_callB call_isi (by rfl) n_isinstance (by decide +kernel) (pa_cons (pv 1) (pa_cons (pe_bltn (v := .ty "str") (by rfl) n_str (by decide +kernel) rfl) pa_nil))) (pe_one (pe_cmp (pc_din hu (pv 1) (pe_fld (pv 0) rfl))))))), ?_⟩
    obtain ⟨dx, d, kvs, ha, hd, hE, hN⟩ := hB
    have hdp := hx.dp (K := K)
    refine ⟨_, rfl, _, _, _, _, _, rfl, .ty _, dp_ty hdp, kit_str dd, ?_⟩
    cases hdp with
    | str r =>
      refine ⟨true, rfl, yes rfl ⟨_, rfl, _, rfl, a, _, dx, _, _, rfl, ha, S.cls, S.noat, rfl, d, _, rfl, DGet.k (k := Sum.inr r) hd, ?_⟩⟩
      have e : (valV kvs (Sum.inr r : Key)).isSome = rows.any fun x => decide (x.1 = r) := by
        rw [← hE.any r]
        unfold valV
        rw [Option.isSome_map, Bool.eq_iff_iff, List.find?_isSome, List.any_eq_true]
      rw [e]
      exact k
    | _ => exact ⟨false, rfl, no rfl k⟩
theorem ok_setR {f fN fI : Addr} {fd fdN fdI fdE fdE2 : FuncData} (F : MtP K "__setitem__" "Board.__setitem__" sBSet f fd) (S : Brd K)
    (GN : FnOk P w K mg base CX0 1 fN fdN ["thing"] (spName K)) (bN : Binds K fdN ["thing"] []) (kN : PySem.W.keepIn K (.ref fN) = true) (gN : mg "is_name" = some (.ref fN))
    (GI : FnOk P w K mg base CX0 1 fI fdI ["thing"] (spInt K)) (bI : Binds K fdI ["thing"] []) (kI : PySem.W.keepIn K (.ref fI) = true) (gI : mg "is_integer" = some (.ref fI))
    (BN : ErBN K) (BP : ErBP K) (FE : FunD K "__init__" "BadName.__init__" (defArgs sBNI) (defBody sBNI) (defScope sBNI) [] [] (ma K (ga K "BadName") "__init__") fdE) (FE2 : FunD K "__init__" "BadPlace.__init__" (defArgs sBPI) (defBody sBPI) (defScope sBPI) [] [] (ma K (ga K "BadPlace") "__init__") fdE2)
    (gBN : mg "BadName" = some (.ref (ga K "BadName"))) (gBP : mg "BadPlace" = some (.ref (ga K "BadPlace"))) : FnOk P w K mg base (L2N.CX P w) 3 f fd ["self", "at", "worth"] (spSetR K) := by
  have GE : FnOk P w K mg base CX0 1 (ma K (ga K "BadName") "__init__") fdE ["self", "name"] (spX1 (ga K "BadName") "name") := ok_bni FE BN
  have bE : Binds K fdE ["self", "name"] [] := FE.bindsN fun _ _ _ _ _ _ us hl => match us, hl with | [_, _], _ => rfl
  have GE2 : FnOk P w K mg base CX0 1 (ma K (ga K "BadPlace") "__init__") fdE2 ["self", "place"] (spX1 (ga K "BadPlace") "place") := ok_bpi FE2 BP
  have bE2 : Binds K fdE2 ["self", "place"] [] := FE2.bindsN fun _ _ _ _ _ _ us hl => match us, hl with | [_, _], _ => rfl
  refine F.ok scBSet (fun vs H Q E h => ?_) (fun cdv A outer s H vs Q E hr h => ?_)
  · obtain ⟨a, t, rows, x, y, z, dx, dy, dz, rfl, _⟩ := h
    rfl
  · obtain ⟨a, t, rows, x, y, z, dx, dy, dz, rfl, hB, hT, hlen, hx, hy, hz, k1, k2, k3, k⟩ := h
    have nd := scBSet.nd
    have hr1 := hr.mono (j := 1) (by decide)
    refine ⟨_, (by exact (pss_cons (ps_asg (pv 1) (pg_tup rfl (pgs_cons (pg_name (i := 3) nd rfl (Or.inl rfl)) (pgs_cons (pg_name (i := 4) nd rfl (Or.inl rfl)) pgs_nil))))
(pss_cons (ps_if (pt_not (pt_val (by exact (pe_call GN hr1 (by rfl) gN kN bN .nil pass0 (pa_cons (pv 3) pa_nil)))))
(pss_one (L2N.ps_raise rfl (L2N.takes_of rfl rfl rfl rfl) (by exact (pmk_x BN.T BN.ty bsV BN.iC BN.fn GE hr bE pass0 rfl gBN (pa_cons (pv 3) pa_nil)))))
pss_nil)
(pss_cons (ps_if (pt_not (pt_val (by exact (pe_call GI hr1 (by rfl) gI kI bI .nil pass0 (pa_cons (pv 4) pa_nil)))))
(pss_one (L2N.ps_raise rfl (L2N.takes_of rfl rfl rfl rfl) (by exact (pmk_x BP.T BP.ty bsV BP.iC BP.fn GE2 hr bE2 pass0 rfl gBP (pa_cons (pv 4) pa_nil)))))
pss_nil)
(pss_cons (ps_if (pt_not (pt_val (by exact (pe_call GN hr1 (by rfl) gN kN bN .nil pass0 (pa_cons (pv 2) pa_nil)))))
(pss_one (L2N.ps_raise rfl (L2N.takes_of rfl rfl rfl rfl) (by exact (pmk_x BN.T BN.ty bsV BN.iC BN.fn GE hr bE pass0 rfl gBN (pa_cons (pv 2) pa_nil)))))
pss_nil)
(pss_one (ps_fld (pv 0) (pe_dispMK (pe_fld (pv 0) rfl) (pv 2) (pe_tup (pa_cons (pv 3) (pa_cons (pv 4) pa_nil)))) rfl))))))), ?_⟩
    refine ⟨_, rfl, _, _, rfl, hT, rfl, _, _, rfl, _, _, rfl, rfl, ?_⟩
    dsimp only [gName, List.set]
    refine ⟨_, rfl, x, dx, rfl, hx.dp, hx.okN, fun H1 s1 => ⟨_, rfl, ?_⟩⟩
    cases c1 : nmD dx with
    | false => exact yes rfl ⟨_, rfl, (by show 1 ≤ 1000; decide), fun e he => ⟨e, _, H1, rfl, rfl, he, fun d H' hd hde h1 h2 h3 => ⟨rfl, d, _, h1, h2, hd, raised_at (k1 c1) s1 he hd hde h3⟩⟩⟩
    | true =>
    refine no rfl ?_
    refine ⟨_, rfl, y, dy, rfl, (hy.same s1).dp, _, rfl, ?_⟩
    cases c2 : isIntD dy with
    | false => exact yes rfl ⟨_, rfl, (by show 1 ≤ 1000; decide), fun e he => ⟨e, _, H1, rfl, rfl, he, fun d H' hd hde h1 h2 h3 => ⟨rfl, d, _, h1, h2, hd, raised_at (k2 c1 c2) s1 he hd hde h3⟩⟩⟩
    | true =>
    refine no rfl ?_
    refine ⟨_, rfl, z, dz, rfl, (hz.same s1).dp, hz.okN, fun H2 s2 => ⟨_, rfl, ?_⟩⟩
    cases c3 : nmD dz with
    | false => exact yes rfl ⟨_, rfl, (by show 1 ≤ 1000; decide), fun e he => ⟨e, _, H2, rfl, rfl, he, fun d H' hd hde h1 h2 h3 => ⟨rfl, d, _, h1, h2, hd, raised_at (k3 c1 c2 c3) (s1.trans s2) he hd hde h3⟩⟩⟩
    | true =>
    refine no rfl ?_
    obtain ⟨l, rfl, hl'⟩ : ∃ l, dx = .str l ∧ isNm l = true := by cases dx <;> first | exact ⟨_, rfl, c1⟩ | cases c1
    obtain ⟨p, rfl⟩ : ∃ p, dy = .int p := by cases dy <;> first | exact ⟨_, rfl⟩ | cases c2
    obtain ⟨r, rfl, hr'⟩ : ∃ r, dz = .str r ∧ isNm r = true := by cases dz <;> first | exact ⟨_, rfl, c3⟩ | cases c3
    obtain rfl : x = V.str l := by cases hx.dp (K := K); rfl
    obtain rfl : y = V.int p := by cases hy.dp (K := K); rfl
    obtain rfl : z = V.str r := by cases hz.dp (K := K); rfl
    have k := k l p r rfl rfl rfl hl' hr'
    obtain ⟨dx0, d, kvs, ha, hd, hE, hN⟩ := hB.same (s1.trans s2)
    have hml := mergeK_nil (keys_nodup hE hN)
    refine fun p1 np1 => ⟨_, rfl, a, _, dx0, _, _, rfl, same_put np1 _ _ ha, S.cls, S.noat, rfl, d, kvs, rfl, fun e => ?_, upd_same, same_put np1 _ _ hd, fun q nq => ?_⟩
    · exact absurd (e ▸ np1) (by rw [hd]; simp)
    rw [hml] at nq ⊢
    have g1 : Same H2 (upd (upd H2 p1 (.dK [])) p1 (.dK kvs)) := fun x o e => by
      have hx : x ≠ p1 := ne_of_none e np1
      rw [upd_ne hx, upd_ne hx]
      exact e
    have gp : upd (upd H2 p1 (.dK [])) p1 (.dK kvs) p1 = some (.dK kvs) := upd_same
    generalize upd (upd H2 p1 (.dK [])) p1 (.dK kvs) = G1 at nq g1 gp ⊢
    have hpq : p1 ≠ q := ne_of_none gp nq
    have g2 := same_put (o := .dK []) nq
    have gq : upd G1 q (.dK []) q = some (.dK []) := upd_same
    refine ⟨_, rfl, _, rfl, _, rfl, (by show 2 ≤ sizeLine; decide), fun T nT => ?_⟩
    have g3 := same_put (o := .tup [V.str l, V.int p]) nT
    have gT : upd (upd G1 q (.dK [])) T (.tup [V.str l, V.int p]) T = some (.tup [V.str l, V.int p]) := upd_same
    have gp3 := g3 _ _ (g2 _ _ gp)
    have gq3 := g3 _ _ gq
    have g13 : Same H2 (upd (upd G1 q (.dK [])) T (.tup [V.str l, V.int p])) := (g1.trans g2).trans g3
    have nTp : p1 ≠ T := ne_of_none (g2 _ _ gp) nT
    have nTq : q ≠ T := ne_of_none gq nT
    generalize upd (upd G1 q (.dK [])) T (.tup [V.str l, V.int p]) = G3 at g13 gT gp3 gq3
    have nap : a ≠ p1 := fun e => by rw [e] at ha; rw [ha] at np1; cases np1
    have haq : a ≠ q := fun e => by rw [← e] at nq; rw [g1 _ _ ha] at nq; cases nq
    have haT : a ≠ T := fun e => by
      have := g2 _ _ (g1 _ _ ha)
      rw [e, nT] at this
      cases this
    have hlen2 : kvs.length + 1 ≤ sizeLine := by rw [hE.len, sizeLine_eq]; omega
    refine ⟨.inr r, rfl, hpq, gp3, gq3, hlen2, _, rfl, a, _, dx0, [("_spots", V.ref d)], rfl, ?_, S.cls, S.noat, (by show 1 < 1000; decide), ?_⟩
    · rw [upd_ne nap, upd_ne haq]
      exact g13 _ _ ha
    have kF : Kept a H2 (upd (upd (upd G3 q (.dK [(.inr r, V.ref T)])) p1 (.dK (mergeK kvs [(.inr r, V.ref T)]))) a (.ins (ga K "Board") dx0 [("_spots", V.ref p1)])) := fun x o nx e => by
      have h1 : x ≠ p1 := ne_of_none e np1
      have h2 : x ≠ q := ne_of_none (g1 _ _ e) nq
      rw [upd_ne nx, upd_ne h1, upd_ne h2]
      exact g13 _ _ e
    refine k _ (fun x o nx e => kF x o nx ((s1.trans s2) x o e)) ?_ (fun dx0' d' e => ?_)
    rotate_left
    · rw [upd_same] at e
      cases e
      exact free_same (s1.trans s2) np1
    refine ⟨dx0, p1, putK kvs (.inr r) (V.ref T), upd_same, ?_, ?_, putR_names rows r l p hN⟩
    · rw [upd_ne nap.symm, upd_same]
      rfl
    · have hn : ∀ zs, H2 a ≠ some (.tup zs) := fun zs e => by
        rw [ha] at e
        cases e
      refine Ents.put (pr_imp (fun _ _ z => z.kept kF hn) hE) ?_
      rw [upd_ne haT.symm, upd_ne nTp.symm, upd_ne nTq.symm]
      exact gT
theorem ok_getR {f fI : Addr} {fd fdI fdPs fdE : FuncData} (F : MtP K "__getitem__" "Board.__getitem__" sBGet f fd) (S : Brd K)
    (GI : FnOk P w K mg base CX0 1 fI fdI ["thing"] (spInt K)) (bI : Binds K fdI ["thing"] []) (kI : PySem.W.keepIn K (.ref fI) = true) (gI : mg "is_integer" = some (.ref fI))
    (GPs : FnOk P w K mg base CX0 1 (ma K (ga K "Board") "_pairs") fdPs ["self", "lst"] (spPairsD K)) (bPs : Binds K fdPs ["self", "lst"] [])
    (NP : ErNP K) (FE : FunD K "__init__" "NoPlace.__init__" (defArgs sNPI) (defBody sNPI) (defScope sNPI) [] [] (ma K (ga K "NoPlace") "__init__") fdE) (gNP : mg "NoPlace" = some (.ref (ga K "NoPlace"))) : FnOk P w K mg base (L2N.CX P w) 3 f fd ["self", "at"] (spGetR K) := by
  have GE : FnOk P w K mg base CX0 1 (ma K (ga K "NoPlace") "__init__") fdE ["self", "lst", "place"] (spX2 (ga K "NoPlace") "lst" "place") := ok_npi FE NP
  have bE : Binds K fdE ["self", "lst", "place"] [] := FE.bindsN fun _ _ _ _ _ _ us hl => match us, hl with | [_, _, _], _ => rfl
  refine F.ok scBGet (fun vs H Q E h => ?_) (fun cdv A outer s H vs Q E hr h => ?_)
  · obtain ⟨a, t, rows, x, y, dx, dy, rfl, _⟩ := h
    rfl
  · obtain ⟨a, t, rows, x, y, dx, dy, rfl, hB, hT, hlen, hnm, hx, hy, kq, ke⟩ := h
    have nd := scBGet.nd
    have hr1 := hr.mono (j := 1) (by decide)
    refine ⟨_, (by exact (pss_cons (ps_asg (pv 1) (pg_tup rfl (pgs_cons (pg_name (i := 2) nd rfl (Or.inl rfl)) (pgs_cons (pg_name (i := 3) nd rfl (Or.inl rfl)) pgs_nil))))
(pss_cons (ps_if (pt_val (by exact (pe_call GI hr1 (by rfl) gI kI bI .nil pass0 (pa_cons (pv 3) pa_nil))))
(pss_one (ps_for (passes_of rfl) rfl (pi_list (by exact (pe_meth (pv 0) S.cls (S.mth "_pairs" (by decide)) GPs hr1 bPs .nil pass0 (pa_cons (pv 2) pa_nil)))) (pg_tup rfl (pgs_cons (pg_name (i := 4) nd rfl (Or.inl rfl)) (pgs_cons (pg_name (i := 5) nd rfl (Or.inl rfl)) pgs_nil)))
(by exact (pss_one (ps_if (pt_cmpR op_eq (pv 4) (pv 3) (nomark _))
(pss_one (ps_ret (pv 5)))
pss_nil)))))
pss_nil)
(pss_one (L2N.ps_raise rfl (L2N.takes_of rfl rfl rfl rfl) (by exact (pmk_x NP.T NP.ty bsL NP.iC NP.fn GE hr bE pass0 rfl gNP (pa_cons (pv 2) (pa_cons (pv 3) pa_nil))))))))), ?_⟩
    refine ⟨_, rfl, _, _, rfl, hT, rfl, _, _, rfl, _, _, rfl, rfl, ?_⟩
    dsimp only [gName, List.set]
    have out : ∀ J, Same H J → foundD rows dx dy = none → ∀ e, J e = none → ∀ d H', J d = none → d ≠ e → (∀ y, y ≠ e → y ≠ d → H' y = J y) → E (.ref (ga K "NoPlace")) (some d) (upd (del H' e) d (.xd [("place", y), ("lst", x)])) := fun J sJ hno e he d H' hd hde h3 => raised_at (ke hno) sJ he hd hde h3
    refine ⟨_, rfl, y, dy, rfl, hy.dp, _, rfl, ?_⟩
    cases c2 : isIntD dy with
    | false =>
      have hno : foundD rows dx dy = none := by cases dy <;> first | rfl | cases c2
      exact no rfl ⟨_, rfl, _, rfl, (by show 2 ≤ 1000; decide), fun e he => ⟨e, _, _, H, rfl, rfl, he, fun d H' hd hde h1 h2 h3 => ⟨rfl, d, _, h1, h2, hd, out H (.refl _) hno e he d H' hd hde h3⟩⟩⟩
    | true =>
    obtain ⟨p, rfl⟩ : ∃ p, dy = .int p := by cases dy <;> first | exact ⟨_, rfl⟩ | cases c2
    obtain rfl : y = V.int p := by cases hy.dp (K := K); rfl
    refine yes rfl ?_
    obtain ⟨dx0, d, kvs, ha, hd, hE, hN⟩ := id hB
    refine ⟨_, rfl, a, dx0, _, rfl, ha, rfl, _, rfl, a, rows, x, dx, rfl, hB, hlen, hnm, hx, fun p1 zs G1 np s1 hp hP => ⟨p1, rfl, ⟨_, SqL.of hp⟩, ?_⟩⟩
    refine for_it (walk_list (K := K) (a := p1) (xs := zs)) (fun i σ G => ∃ v4 v5, σ = [some (.ref a), some (.ref t), some x, some (.int p), v4, v5] ∧ G1 = G ∧ ∀ y ∈ (srtP (prsD rows dx)).take i, decide (y.1 = p) = false)
      ⟨none, none, rfl, rfl, by simp⟩ (fun _ _ _ _ h => by obtain ⟨_, _, _, rfl, _⟩ := h; exact SqL.of hp) ?_ ?_
    · rintro i x0 σ G' G hi ⟨v4, v5, rfl, rfl, hno⟩ ⟨rfl, hx0⟩
      obtain ⟨y, hy, T, rfl, ht⟩ := pr_at hP hx0
      refine ⟨_, _, rfl, SqT.of ht, rfl, _, _, rfl, _, _, rfl, rfl, ?_⟩
      dsimp only [gName, List.set]
      refine ⟨_, rfl, _, rfl, rfl, _, rfl, ?_⟩
      dsimp only
      by_cases c : y.1 = p
      · rw [if_pos (by rw [c]; exact decide_eq_true rfl)]
        exact ⟨_, rfl, kq y (find_at (p := fun x : Pr => decide (x.1 = p)) hy (decide_eq_true c) hno) _ s1⟩
      · rw [if_neg (fun z => c (by have := of_decide_eq_true z; injection this))]
        exact ⟨_, _, rfl, rfl, take_next hy (decide_eq_false c) hno⟩
    · rintro σ G ⟨v4, v5, rfl, rfl, hno⟩
      rw [Paired.length hP, List.take_length] at hno
      exact ⟨_, rfl, _, rfl, (by show 2 ≤ 1000; decide), fun e he => ⟨e, _, _, G1, rfl, rfl, he, fun d H' hd hde h1 h2 h3 => ⟨rfl, d, _, h1, h2, hd, out G1 s1 (find_no hno) e he d H' hd hde h3⟩⟩⟩
theorem ok_atR {f : Addr} {fd fdHas fdE : FuncData} (F : MtP K "at" "Board.at" sBAt f fd) (S : Brd K)
    (GHas : FnOk P w K mg base CX0 1 (ma K (ga K "Board") "__contains__") fdHas ["self", "x"] (spHasD K)) (bHas : Binds K fdHas ["self", "x"] [])
    (NR : ErNR K) (FE : FunD K "__init__" "NoRow.__init__" (defArgs sNRI) (defBody sNRI) (defScope sNRI) [] [] (ma K (ga K "NoRow") "__init__") fdE) (gNR : mg "NoRow" = some (.ref (ga K "NoRow"))) : FnOk P w K mg base (L2N.CX P w) 3 f fd ["self", "row"] (spMiss K) := by
  have GE : FnOk P w K mg base CX0 1 (ma K (ga K "NoRow") "__init__") fdE ["self", "row"] (spX1 (ga K "NoRow") "row") := ok_nri FE NR
  have bE : Binds K fdE ["self", "row"] [] := FE.bindsN fun _ _ _ _ _ _ us hl => match us, hl with | [_, _], _ => rfl
  refine F.ok scBAt (fun vs H Q E h => ?_) (fun cdv A outer s H vs Q E hr h => ?_)
  · obtain ⟨a, rows, x, d, rfl, _⟩ := h
    rfl
  · obtain ⟨a, rows, x, dd, rfl, hB, hx, hno, k⟩ := h
    have nd := scBAt.nd
    have hr1 := hr.mono (j := 1) (by decide)
    refine ⟨_, (by exact (pss_cons (ps_if (pt_cmpR (op_notInO (S.mth "__contains__" (by decide)) GHas hr1 bHas pass0) (pv 1) (pv 0) rfl)
(pss_one (L2N.ps_raise rfl (L2N.takes_of rfl rfl rfl rfl) (by exact (pmk_x NR.T NR.ty bsL NR.iC NR.fn GE hr bE pass0 rfl gNR (pa_cons (pv 1) pa_nil)))))
pss_nil)
(pss_one ps_never))), ?_⟩
    obtain ⟨dx, d, kvs, ha, hd, hE, hN⟩ := id hB
    refine ⟨_, rfl, _, rfl, a, rfl, ⟨_, _, ha⟩, a, rows, x, dd, rfl, hB, hx, _, rfl, ?_⟩
    rw [hno]
    exact ⟨_, rfl, yes rfl ⟨_, rfl, (by show 1 ≤ 1000; decide), fun e he => ⟨e, _, H, rfl, rfl, he, fun d H' hd hde h1 h2 h3 => ⟨rfl, d, _, h1, h2, hd, raised_at k (.refl _) he hd hde h3⟩⟩⟩⟩
theorem ok_dropR {f : Addr} {fd fdHas fdE : FuncData} (F : MtP K "drop" "Board.drop" sBDrop f fd) (S : Brd K)
    (GHas : FnOk P w K mg base CX0 1 (ma K (ga K "Board") "__contains__") fdHas ["self", "x"] (spHasD K)) (bHas : Binds K fdHas ["self", "x"] [])
    (NR : ErNR K) (FE : FunD K "__init__" "NoRow.__init__" (defArgs sNRI) (defBody sNRI) (defScope sNRI) [] [] (ma K (ga K "NoRow") "__init__") fdE) (gNR : mg "NoRow" = some (.ref (ga K "NoRow"))) : FnOk P w K mg base (L2N.CX P w) 3 f fd ["self", "row"] (spMiss K) := by
  have GE : FnOk P w K mg base CX0 1 (ma K (ga K "NoRow") "__init__") fdE ["self", "row"] (spX1 (ga K "NoRow") "row") := ok_nri FE NR
  have bE : Binds K fdE ["self", "row"] [] := FE.bindsN fun _ _ _ _ _ _ us hl => match us, hl with | [_, _], _ => rfl
  refine F.ok scBDrop (fun vs H Q E h => ?_) (fun cdv A outer s H vs Q E hr h => ?_)
  · obtain ⟨a, rows, x, d, rfl, _⟩ := h
    rfl
  · obtain ⟨a, rows, x, dd, rfl, hB, hx, hno, k⟩ := h
    have nd := scBDrop.nd
    have hr1 := hr.mono (j := 1) (by decide)
    refine ⟨_, (by exact (pss_cons (ps_if (pt_cmpR (op_notInO (S.mth "__contains__" (by decide)) GHas hr1 bHas pass0) (pv 1) (pv 0) rfl)
(pss_one (L2N.ps_raise rfl (L2N.takes_of rfl rfl rfl rfl) (by exact (pmk_x NR.T NR.ty bsL NR.iC NR.fn GE hr bE pass0 rfl gNR (pa_cons (pv 1) pa_nil)))))
pss_nil)
(pss_one ps_never))), ?_⟩
    obtain ⟨dx, d, kvs, ha, hd, hE, hN⟩ := id hB
    refine ⟨_, rfl, _, rfl, a, rfl, ⟨_, _, ha⟩, a, rows, x, dd, rfl, hB, hx, _, rfl, ?_⟩
    rw [hno]
    exact ⟨_, rfl, yes rfl ⟨_, rfl, (by show 1 ≤ 1000; decide), fun e he => ⟨e, _, H, rfl, rfl, he, fun d H' hd hde h1 h2 h3 => ⟨rfl, d, _, h1, h2, hd, raised_at k (.refl _) he hd hde h3⟩⟩⟩⟩
end
end K86

set_option Elab.async false
set_option maxRecDepth 100000
set_option maxHeartbeats 1000000
/-! The text of a thing is a text that may stand in data. -/
namespace KX
open PySem PySem.Spec PyProof.Rows L2
theorem char_lt (c : Char) : c.toNat < 0x110000 := by
  have h := c.valid
  show c.val.toNat < 0x110000
  rcases h with h | ⟨_, h⟩
  · exact Nat.lt_trans h (by decide)
  · exact h
theorem hex_lt (w c : Nat) : ∀ x ∈ List.replicate (w - ((Nat.toDigits 16 c).map Char.toNat).length) 48 ++ (Nat.toDigits 16 c).map Char.toNat, x < 0x110000 := by
  intro x hx
  rcases List.mem_append.mp hx with hx | hx
  · rw [List.eq_of_mem_replicate hx]
    decide
  · obtain ⟨d, _, rfl⟩ := List.mem_map.mp hx
    exact char_lt d
theorem reprChar_lt {q c : Nat} (hc : c < 0x110000) : ∀ x ∈ PySem.Builtin.Str.reprChar q c, x < 0x110000 := by
  have two : ∀ a b : Nat, a < 0x110000 → b < 0x110000 → ∀ x ∈ [a, b], x < 0x110000 := fun a b ha hb x hx => by
    rcases List.mem_cons.mp hx with rfl | hx
    · exact ha
    · rw [List.mem_singleton.mp hx]; exact hb
  have app : ∀ {xs ys : List Nat}, (∀ x ∈ xs, x < 0x110000) → (∀ x ∈ ys, x < 0x110000) → ∀ x ∈ xs ++ ys, x < 0x110000 := fun h1 h2 x hx => (List.mem_append.mp hx).elim (h1 x) (h2 x)
  unfold PySem.Builtin.Str.reprChar
  dsimp only
  split
  · exact two _ _ (by decide) hc
  split
  · exact two _ _ (by decide) (by decide)
  split
  · exact two _ _ (by decide) (by decide)
  split
  · exact two _ _ (by decide) (by decide)
  split
  · exact fun x hx => by rw [List.mem_singleton.mp hx]; exact hc
  split
  · exact app (two _ _ (by decide) (by decide)) (hex_lt _ _)
  split
  · exact app (two _ _ (by decide) (by decide)) (hex_lt _ _)
  · exact app (two _ _ (by decide) (by decide)) (hex_lt _ _)
theorem fold_lt (q : Nat) : ∀ (l : List Nat) (acc : Array Nat), (∀ c ∈ l, c < 0x110000) → (∀ c ∈ acc.toList, c < 0x110000) → ∀ c ∈ (l.foldl (fun out c => out ++ (PySem.Builtin.Str.reprChar q c).toArray) acc).toList, c < 0x110000
  | [], _, _, h => h
  | c :: r, acc, hl, h => fold_lt q r _ (fun d hd => hl d (List.mem_cons_of_mem _ hd)) fun d hd => by
    rw [Array.toList_append] at hd
    rcases List.mem_append.mp hd with hd | hd
    · exact h d hd
    · exact reprChar_lt (hl c List.mem_cons_self) d hd
theorem repr_ok {x : Str} (hx : ∀ c ∈ tlc x, c < 1000) : PyData.strOk (reprText x) = true := by
  have hq : reprQuote x < 0x110000 := by unfold reprQuote; split <;> decide
  unfold PyData.strOk reprText
  rw [← Array.all_toList, List.all_eq_true]
  intro c hc
  refine decide_eq_true ?_
  rw [Array.toList_push] at hc
  rcases List.mem_append.mp hc with hc | hc
  · rw [← Array.foldl_toList] at hc
    exact fold_lt _ _ _ (fun c hc => Nat.lt_trans (hx c hc) (by decide)) (fun c hc => by rw [List.mem_singleton.mp (show c ∈ [reprQuote x] from hc)]; exact hq) c hc
  · rw [List.mem_singleton.mp hc]
    exact hq
theorem int_ok (i : Int) : PyData.strOk (PyData.int i).shown = true := by
  unfold PyData.strOk
  rw [← Array.all_toList, List.all_eq_true]
  intro c hc
  refine decide_eq_true ?_
  by_cases d : 127 < c
  · exact absurd hc (shown_int_free' ⟨by omega, .inr (by omega)⟩ i)
  · omega
theorem ThV.text {m : Nat} {H : Hp} {v : V} {d : PyData} (h : ThV m H v d) : PyData.strOk d.shown = true := by
  rcases h with ⟨h, ⟨_, rfl⟩ | ⟨b, _, rfl⟩ | ⟨i, _, rfl⟩ | ⟨z, _, rfl⟩⟩ | ⟨_, _, _, rfl⟩ | ⟨_, _, _, rfl⟩ | ⟨_, _, _, rfl⟩ | ⟨_, _, _, rfl⟩ | ⟨_, _, _, _, _, rfl⟩
  · decide +kernel
  · cases b <;> decide +kernel
  · exact int_ok i
  · exact repr_ok h.2
  all_goals decide +kernel
end KX

set_option Elab.async false
set_option maxRecDepth 100000
set_option maxHeartbeats 2000000
/-! try with several handlers, each `except X as n`, one of which takes what is raised. -/
namespace KX
open PySem PySem.Spec PyProof.Rows L2 L2N
abbrev Hdl := Value × (Addr → Value → Option Addr → TS)
/-- behind a suite the name is gone -/
def gone (i : Nat) (D : Ends) : Ends := { nx := fun σ H => D.nx (σ.set i none) H, rt := D.rt, bk := fun σ H => D.bk (σ.set i none) H, ct := fun σ H => D.ct (σ.set i none) H }
def wAss (K : PySem.W.Frag) (i : Nat) (D : Ends) : List Hdl → WX
  | [] => fun _ _ _ _ => False
  | h :: r => fun cls d σ H => ∃ b, PySem.W.exmOne K cls h.1 = some b ∧ (b = true → ∀ a, H a = none → h.2 a cls d (gone i D) (σ.set i (some (.ref a))) H) ∧ (b = false → wAss K i D r cls d σ H)
inductive HdsAs (X : Cx) (n : Str) : List ExceptHandler → List Hdl → Prop
  | nil : HdsAs X n [] []
  | cons {x : Str} {c : Value} {ts : Addr → Value → Option Addr → TS} {b : Stmt} {bs : List Stmt} {p q : Pos} {hs : List ExceptHandler} {l : List Hdl} (nm : L2.Names X x c)
      (su : ∀ (a : Addr) (oe : Obj) (cls : Value) (d : Option Addr) (pn : List (Addr × Obj)), Zn cls d oe → (∃ vs, oe.data = .fields vs) → PSs (X.suite a ((a, oe) :: pn)) (b :: bs) (ts a cls d)) (r : HdsAs X n hs l) :
      HdsAs X n (.ExceptHandler (some (.Name x p)) (some n) (b :: bs) q :: hs) ((c, ts) :: l)
section
variable {X : Cx} {n : Str} {i : Nat} {body : List Stmt} {h₀ : ExceptHandler} {hds : List ExceptHandler} {l : List Hdl} {pos : Pos} {tb : WX → TS}
theorem ps_try_ass (hs : X.stack = X.env :: X.outer) (hf : X.env.frame = some X.env.locals) (hN : X.N.Nodup) (hi : X.N[i]? = some n) (hln : X.env.kindOf n = some .local)
    (hb : ∀ (W : WX) (pn : List (Addr × Obj)) (xe : Value → Shared → Prop), L2N.Takes (X.tr pn xe) W → PassesOwn (model X.prog X.w) X.A X.env xe → PSs (X.tr pn xe) body (tb W))
    (hh : HdsAs X n (h₀ :: hds) l) : PS X (.Try body (h₀ :: hds) [] [] pos) (fun D σ H => tb (wAss X.K i D l) D σ H) := by
  refine ⟨fun pins s σ H D I h => ?_⟩
  have ok := I.ok
  have hfr : X.A.frames = some (X.env :: X.outer) := by rw [ok.frames, hs]
  refine wpAny_Try_except (wpAny_mono ((hb (wAss X.K i D l) (X.pn ++ pins) (fun e s₁ => wpAny (model X.prog X.w) X.A (noteFrame e X.env) (fun _ s₂ => wpAny (model X.prog X.w) X.A (setFlight e none) (fun _ s₃ =>
    wpAny (model X.prog X.w) X.A (handleBy e X.env (h₀ :: hds)) (SP X pins D) X.xe s₃) X.xe s₂) X.xe s₁) (fun u s' xx => ?_) PassesOwn.looking).run [] s σ H D (I.toTry _) h) (fun f s1 hsp => ?_) (fun e s1 he => he))
  case refine_2 =>
    cases f with
    | next => exact wpAny_execs_nil (let ⟨σ', H', J', q⟩ := hsp; ⟨σ', H', J'.ofTry ok, q⟩)
    | brk => exact let ⟨σ', H', J', q⟩ := hsp; ⟨σ', H', J'.ofTry ok, q⟩
    | cont => exact let ⟨σ', H', J', q⟩ := hsp; ⟨σ', H', J'.ofTry ok, q⟩
    | ret u => exact let ⟨v, σ', H', J', r, q⟩ := hsp; ⟨v, σ', H', J'.ofTry ok, r, q⟩
  case refine_1 =>
    obtain ⟨a, B, sI, pins', σ', H', cls, d, rfl, J', nb, up, sky, na, os, ag, w⟩ := xx
    have J : Inv X pins σ' H' sI := J'.ofTry ok
    show wpAny (model X.prog X.w) X.A (noteFrame (.ref a) X.env) _ _ _
    refine Sky.land Zn.steady hfr hf (by rw [← hs]; exact sky) fun h3 fl3 up3 => ?_
    have J3 : Inv X pins σ' H' { s' with heap := h3 } := J.landed nb fl3.1 (up.trans up3) os ag
    obtain ⟨oe3, vs3, he3, hz3, hd3⟩ := fl3.there
    have nfr : a ∉ frs (X.env :: X.outer) := fun hm => by
      obtain ⟨_, o', e', hnf⟩ := fl3.2.2.1.mem hm
      rw [he3] at e'
      cases e'
      exact hnf _ hd3
    have nL : a ≠ X.env.locals := fun z => nfr (List.mem_filterMap.mpr ⟨X.env, List.mem_cons_self, by rw [hf, z]⟩)
    have nF : a ∉ X.fs := fun hm => by
      obtain ⟨e, he, q⟩ := List.mem_filterMap.mp hm
      exact nfr (List.mem_filterMap.mpr ⟨e, List.mem_cons_of_mem _ he, q⟩)
    have S3 := J3.suite he3 hd3 na nL nF
    suffices go : ∀ {hs' : List ExceptHandler} {l' : List Hdl}, HdsAs X n hs' l' → wAss X.K i D l' cls d σ' H' → wpAny (model X.prog X.w) X.A (handleBy (.ref a) X.env hs') (SP X pins D) X.xe { s' with heap := h3 } from go hh w
    intro hs' l' hk
    induction hk with
    | nil => exact fun w => w.elim
    | @cons x c ts b0 bs p q hs2 l2 nm su r ih =>
      rintro ⟨b, hb1, hyes, hno⟩
      refine wpAny_handleBy_cons (codeAny_handlers_test ?_) (by intro q; cases q)
      have LT : PySem.W.Looks (model X.prog X.w) h3 (typeOf (.ref a)) cls := fun A Q E s k q => wpAny_typeOf_ref (k _ _ he3) (by rw [hz3.1]; exact q)
      have LM := PySem.W.exm_one (M := model X.prog X.w) (J3.kIn) LT hb1
      have name : ∀ {Q : Value → Shared → Prop} {E : Value → Shared → Prop}, Q c { s' with heap := h3 } → wpAny (model X.prog X.w) (X.A.mark (some (.ref a))) (eval (.Name x p) X.env) Q E { s' with heap := h3 } := fun {Q E} q => by
        obtain ⟨hg, hdbg, hm | ⟨hm, hv, hnn⟩⟩ := nm
        · exact ld_glob (X := X.suite a ((a, oe3) :: (X.pn ++ pins))) S3 hg hm q hdbg
        · exact ld_blt (X := X.suite a ((a, oe3) :: (X.pn ++ pins))) S3 hg hm hv q hnn hdbg
      refine name (LM.here ?_)
      cases b with
      | false => exact ih (hno rfl)
      | true =>
        refine codeAny_handlers_suite_as (HandSPX.lands_againZ fl3 fun h4 fl4 up4 => ?_)
        have J4 : Inv X pins σ' H' { s' with heap := h4 } := J.landed nb fl4.1 ((up.trans up3).trans up4) os ag
        obtain ⟨oe4, vs4, he4, hz4, hd4⟩ := fl4.there
        refine store_ok (X := X.suite a ((a, oe4) :: (X.pn ++ pins))) (v := .ref a) (J4.suite he4 hd4 na nL nF) hN hi (.inl hln) rfl (fun s5 S5 => ?_) (.inr hln)
        refine wpAny_mono ((su a oe4 cls d (X.pn ++ pins) hz4 ⟨_, hd4⟩).run [] s5 _ H' _ S5 (hyes rfl a na)) (fun f s6 hsp => ?_) (fun _ _ z => False.elim z)
        have fin : ∀ {σ6 : L2.St} {H6 : Hp} {Q : Shared → Prop}, Inv (X.suite a ((a, oe4) :: (X.pn ++ pins))) [] σ6 H6 s6 → (∀ s7, Inv X pins (σ6.set i none) H6 s7 → Q s7) →
            wpAny (model X.prog X.w) X.A (do bindName X.env n .none; unbindBehindTheSuite X.env n q) (fun _ s7 => Q s7) X.xe s6 := fun {σ6 H6 Q} S6 hq => gone_ok (S6.unsuite ok) hN hi hln hq
        cases f with
        | next => exact let ⟨σ6, H6, S6, q6⟩ := hsp; fin S6 fun s7 J7 => ⟨_, _, J7, q6⟩
        | brk => exact let ⟨σ6, H6, S6, q6⟩ := hsp; fin S6 fun s7 J7 => ⟨_, _, J7, q6⟩
        | cont => exact let ⟨σ6, H6, S6, q6⟩ := hsp; fin S6 fun s7 J7 => ⟨_, _, J7, q6⟩
        | ret u => exact let ⟨v6, σ6, H6, S6, r6, q6⟩ := hsp; fin S6 fun s7 J7 => ⟨_, _, _, J7, r6, q6⟩
end
end KX

set_option Elab.async false
set_option maxRecDepth 100000
set_option maxHeartbeats 2000000
namespace K86
open PySem PySem.Spec PyProof.Rows L2 He KX StX
abbrev sLOdd : Stmt := top 22
abbrev sLIn : Stmt := top 23
abbrev sLRfs : Stmt := top 28
def spLOdd : Sp := fun vs H Q _ => ∃ (b : Addr) (n : Int), vs = [.ref b] ∧ Bag H b n ∧ n < 700000 ∧ ∀ v d H', ThV 1 H' v d → nmD d = false → isIntD d = false → Kept b H H' → Bag H' b (n + 1) → Q v H'
/-- what the law asks of a writing: what is told of the refusal -/
def refD (dx dy dz : PyData) : Option (Str × Str) := if nmD dx = true then (if isIntD dy = true then (if nmD dz = true then none else some ("name", dz.shown)) else some ("place", dy.shown)) else some ("name", dx.shown)
/-- None, or a pair of texts -/
def Told (H : Hp) (o : Option (Str × Str)) (Q : VK) : Prop := match o with
  | none => ∀ H', Same H H' → Q .non H'
  | some c => ∀ p H', Same H H' → H' p = some (.tup [.str c.1, .str c.2]) → Q (.ref p) H'
def spLRfs : Sp := fun vs H Q _ => ∃ (x y z : V) (dx dy dz : PyData), vs = [x, y, z] ∧ ThV big H x dx ∧ ThV big H y dy ∧ ThV big H z dz ∧ Told H (refD dx dy dz) Q
section
variable {P : Program} {w : World} {K : PySem.W.Frag} {mg : Str → Option Value} {base : Heap}
theorem scLOdd : FnScope ["bag"] ["bag"] (defScope sLOdd) := ⟨rfl, rfl, rfl, by decide +kernel, rfl, by decide +kernel, by decide +kernel⟩
theorem scLRfs : FnScope ["lst", "place", "row"] ["lst", "place", "row"] (defScope sLRfs) := ⟨rfl, rfl, rfl, by decide +kernel, rfl, by decide +kernel, by decide +kernel⟩
theorem big_small {H : Hp} {v : V} {d : PyData} (h : ThV big H v d) : Small d 8 sizeLine := (h.small (by decide)).mono (by decide) (by rw [sizeLine_eq]; decide)
theorem scLIn : FnScope ["thing", "letter"] ["thing"] (defScope sLIn) := ⟨rfl, rfl, rfl, by decide +kernel, rfl, by decide +kernel, by decide +kernel⟩
theorem ok_lin {f : Addr} {fd : FuncData} (F : FnP K "_law_is_name" sLIn f fd) (gI : mg "isinstance" = none) (gS : mg "str" = none) (gL : mg "len" = none) (gA : mg "all" = none) : FnOk P w K mg base CX0 1 f fd ["thing"] (spName K) := by
  refine F.ok scLIn (fun vs H Q E h => ?_) (fun cdv A outer s H vs Q E hr h => ?_)
  · obtain ⟨x, t, rfl, _⟩ := h
    rfl
  · obtain ⟨x, d, rfl, hk, ho, k⟩ := h
    have nd := scLIn.nd
    refine ⟨_, PSs.nox (pss_cons (ps_if (PW.pt (pw_or (pt_not (pt_val (pe_callB call_isi (by rfl) gI (by decide +kernel) (pa_cons (pv 0) (pa_cons (pe_bltn (v := .ty "str") (by rfl) gS (by decide +kernel) rfl) pa_nil)))))
        (pw_or (pt_cmpR op_lt (pe_callB call_len_str (by rfl) gL PySem.boot_len (pa_cons (pv 0) pa_nil)) pe_int (nomark _)) (pw_or1 (pt_cmpR op_gt (pe_callB call_len_str (by rfl) gL PySem.boot_len (pa_cons (pv 0) pa_nil)) pe_int (nomark _)))))) (pss_one (ps_ret pe_bl)) pss_nil)
      (pss_one (ps_ret (pe_callB (cr_all rfl) (by rfl) gA (by decide +kernel) (pa_cons (pe_lc (own := [("letter", 1)]) (g := gName 1) (tt := tYes) rfl nd (pi_str (pv 0)) (blkOk_by (own := [("letter", 1)]) (N := ["thing", "letter"]) (sc := defScope sLIn) (by decide +kernel))
        (fun _ _ _ _ _ => pg_name (i := 1) nd rfl (Or.inl rfl)) (fun _ _ _ _ _ => pts_nil) (fun _ _ _ _ _ => pe_cmpR op_in_sign (pv 1) pe_str rfl)) pa_nil))))), ?_⟩
    refine ⟨_, rfl, _, _, _, _, _, rfl, .ty _, dp_ty hk, kit_str d, _, rfl, ?_⟩
    by_cases hs : isStrD d = true
    · obtain ⟨z, rfl⟩ : ∃ z, d = .str z := by cases d <;> first | exact ⟨_, rfl⟩ | cases hs
      have hz := ho z rfl
      cases hk with
      | str =>
        have hzl : z.length ≤ sizeLine := by rw [sizeLine_eq]; omega
        refine ⟨_, rfl, _, rfl, hzl, _, _, rfl, rfl, _, rfl, ite2' (fun c1 => ?_) (fun c1 => ?_)⟩
        · have e := nm_short (z := z) (by have := of_decide_eq_true c1; omega)
          have q := k H (Same.refl H)
          rw [show nmD (.str z) = isNm z from rfl, e] at q
          exact q
        · have n1 : ¬ z.length < 1 := by have := of_decide_eq_false c1; omega
          refine ⟨_, rfl, _, rfl, hzl, _, _, rfl, rfl, _, rfl, ite2' (fun c2 => ?_) (fun c2 => ?_)⟩
          · have e := nm_long (z := z) (by have := of_decide_eq_true c2; omega)
            have q := k H (Same.refl H)
            rw [show nmD (.str z) = isNm z from rfl, e] at q
            exact q
          · have n2 : ¬ z.length > 8 := by have := of_decide_eq_false c2; omega
            refine ⟨_, rfl, z, rfl, fun D nD => ?_⟩
            refine lc_it (walk_str (z := z)) (fun i G => G D = some (.lst (((z.cps.toList.take i).map isLet).map V.bl)) ∧ Same H G) ⟨upd_same, same_put nD⟩ (fun _ _ _ _ => trivial) ?_ ?_
            · rintro i x G' G hi ⟨hD, s1⟩ ⟨rfl, c, hc, rfl⟩
              refine ⟨rfl, ?_⟩
              dsimp only [tYes]
              rw [if_pos rfl]
              have hcl : z.cps.toList[i]? = some c := by rw [Array.getElem?_toList]; exact hc
              have fin : ∃ acc, G D = some (.lst acc) ∧ acc.length < sizeLine ∧ ((upd G D (.lst (acc ++ [V.bl (isLet c)]))) D = some (.lst (((z.cps.toList.take (i + 1)).map isLet).map V.bl)) ∧ Same H (upd G D (.lst (acc ++ [V.bl (isLet c)])))) := by
                refine ⟨_, hD, ?_, ?_, fun y o e => ?_⟩
                · rw [List.length_map, List.length_map, List.length_take, sizeLine_eq]
                  have e1 : z.cps.toList.length ≤ 1000 := by rw [Array.length_toList]; exact hz
                  exact Nat.lt_of_le_of_lt (Nat.min_le_right _ _) (by omega)
                · rw [upd_same, take_at hcl, List.map_append, List.map_append]
                  rfl
                · rw [upd_ne (ne_of_none e nD)]
                  exact s1 _ _ e
              refine ⟨_, rfl, c, _, rfl, rfl, ?_⟩
              rw [mem_letters]
              exact fin
            · rintro G ⟨hD, s1⟩
              have hsz : z.cps.toList.take z.cps.size = z.cps.toList := by rw [← Array.length_toList, List.take_length]
              rw [hsz] at hD
              refine ⟨D, z.cps.toList.map isLet, rfl, SqL.of hD, ?_⟩
              have q := k G s1
              rw [show nmD (.str z) = isNm z from rfl, nm_mid n1 n2] at q
              have e : (z.cps.toList.map isLet).all id = z.cps.toList.all isLet := by rw [List.all_map]; rfl
              rw [e]
              exact q
    · have e : isStrD d = false := Bool.eq_false_iff.mpr hs
      rw [e]
      have q := k H (Same.refl H)
      rw [nm_off e] at q
      exact q
theorem ok_lodd {f fO : Addr} {fd fdO : FuncData} (F : FnP K "_law_odd" sLOdd f fd) (GO : FnOk P w K mg base CX0 2 fO fdO ["bag", "some"] (spOf K)) (bO : Binds K fdO ["bag", "some"] []) (kO : PySem.W.keepIn K (.ref fO) = true) (gO : mg "_law_of" = some (.ref fO)) : FnOk P w K mg base CX0 3 f fd ["bag"] spLOdd := by
  refine F.ok scLOdd (fun vs H Q E h => ?_) (fun cdv A outer s H vs Q E hr h => ?_)
  · obtain ⟨b, n, rfl, _⟩ := h
    rfl
  · obtain ⟨b, n, rfl, hB, hn, k⟩ := h
    have nd := scLOdd.nd
    refine ⟨_, PSs.nox (pss_one (ps_ret (pe_call GO hr (by rfl) gO kO bO .nil pass0 (pa_cons (pv 0) (pa_cons (pe_lst (pa_cons pe_str (pa_cons pe_str (pa_cons pe_str (pa_cons pe_str (pa_cons pe_str (pa_cons pe_non (pa_cons pe_bl (pa_cons pe_bl (pa_cons (pe_lst (pa_cons pe_str pa_nil)) (pa_cons (pe_tup (pa_cons pe_str (pa_cons pe_int pa_nil))) (pa_cons (pe_lst pa_nil) (pa_cons (pe_tup pa_nil) (pa_cons pe_str (pa_cons (pe_lst (pa_cons (pe_lst (pa_cons pe_int pa_nil)) pa_nil)) pa_nil))))))))))))))) pa_nil))))), ?_⟩
    refine ⟨_, rfl, ?_⟩
    have sc : ∀ {G : Hp} {v : V} {d : PyData}, ScD 1 d → ((v = .non ∧ d = .none) ∨ (∃ b, v = .bl b ∧ d = .bool b) ∨ (∃ i, v = .int i ∧ d = .int i) ∨ ∃ z, v = .str z ∧ d = .str z) → ThV 1 G v d := fun h1 h2 => .inl ⟨h1, h2⟩
    have st : ∀ {G : Hp} (z : Str), (z.length ≤ 100 ∧ ∀ c ∈ tlc z, c < 1000) → ThV 1 G (.str z) (.str z) := fun z h => .inl ⟨h, .inr (.inr (.inr ⟨z, rfl, rfl⟩))⟩
    refine ⟨(by show 1 ≤ sizeLine; decide), fun T1 n1 => ?_⟩
    have s1 := same_put (o := .lst [.str "a"]) n1
    have f1 : upd H T1 (.lst [.str "a"]) T1 = some (.lst [.str "a"]) := upd_same
    generalize upd H T1 (.lst [.str "a"]) = H1 at s1 f1
    refine ⟨(by show 2 ≤ sizeLine; decide), fun T2 n2 => ?_⟩
    have s2 := same_put (o := .tup [.str "a", .int 1]) n2
    have f2 : upd H1 T2 (.tup [.str "a", .int 1]) T2 = some (.tup [.str "a", .int 1]) := upd_same
    replace f1 := s2 _ _ f1
    replace s1 := s1.trans s2
    generalize upd H1 T2 (.tup [.str "a", .int 1]) = H2 at s1 f1 f2
    refine ⟨(by show 0 ≤ sizeLine; decide), fun T3 n3 => ?_⟩
    have s2 := same_put (o := .lst []) n3
    have f3 : upd H2 T3 (.lst []) T3 = some (.lst []) := upd_same
    replace f1 := s2 _ _ f1
    replace f2 := s2 _ _ f2
    replace s1 := s1.trans s2
    generalize upd H2 T3 (.lst []) = H3 at s1 f1 f2 f3
    refine ⟨(by show 0 ≤ sizeLine; decide), fun T4 n4 => ?_⟩
    have s2 := same_put (o := .tup []) n4
    have f4 : upd H3 T4 (.tup []) T4 = some (.tup []) := upd_same
    replace f1 := s2 _ _ f1
    replace f2 := s2 _ _ f2
    replace f3 := s2 _ _ f3
    replace s1 := s1.trans s2
    generalize upd H3 T4 (.tup []) = H4 at s1 f1 f2 f3 f4
    refine ⟨(by show 1 ≤ sizeLine; decide), fun T5 n5 => ?_⟩
    have s2 := same_put (o := .lst [.int 1]) n5
    have f5 : upd H4 T5 (.lst [.int 1]) T5 = some (.lst [.int 1]) := upd_same
    replace f1 := s2 _ _ f1
    replace f2 := s2 _ _ f2
    replace f3 := s2 _ _ f3
    replace f4 := s2 _ _ f4
    replace s1 := s1.trans s2
    generalize upd H4 T5 (.lst [.int 1]) = H5 at s1 f1 f2 f3 f4 f5
    refine ⟨(by show 1 ≤ sizeLine; decide), fun T6 n6 => ?_⟩
    have s2 := same_put (o := .lst [.ref T5]) n6
    have f6 : upd H5 T6 (.lst [.ref T5]) T6 = some (.lst [.ref T5]) := upd_same
    replace f1 := s2 _ _ f1
    replace f2 := s2 _ _ f2
    replace f3 := s2 _ _ f3
    replace f4 := s2 _ _ f4
    replace f5 := s2 _ _ f5
    replace s1 := s1.trans s2
    generalize upd H5 T6 (.lst [.ref T5]) = H6 at s1 f1 f2 f3 f4 f5 f6
    refine ⟨(by show 14 ≤ sizeLine; decide), fun T7 n7 => ?_⟩
    have s2 := same_put (o := .lst [.str "", .str "abcdefghi", .str "aB", .str "a b", .str "x1", .non, .bl true, .bl false, .ref T1, .ref T2, .ref T3, .ref T4, .str "\n", .ref T6]) n7
    have f7 : upd H6 T7 (.lst [.str "", .str "abcdefghi", .str "aB", .str "a b", .str "x1", .non, .bl true, .bl false, .ref T1, .ref T2, .ref T3, .ref T4, .str "\n", .ref T6]) T7 = some (.lst [.str "", .str "abcdefghi", .str "aB", .str "a b", .str "x1", .non, .bl true, .bl false, .ref T1, .ref T2, .ref T3, .ref T4, .str "\n", .ref T6]) := upd_same
    replace f1 := s2 _ _ f1
    replace f2 := s2 _ _ f2
    replace f3 := s2 _ _ f3
    replace f4 := s2 _ _ f4
    replace f5 := s2 _ _ f5
    replace f6 := s2 _ _ f6
    replace s1 := s1.trans s2
    obtain ⟨db, mb, cb, eb, hb⟩ := id hB
    have n7' : T7 ≠ b := by
      rintro rfl
      exact absurd (s1 _ _ eb) (by rw [f7]; intro z; cases z)
    generalize upd H6 T7 (.lst [.str "", .str "abcdefghi", .str "aB", .str "a b", .str "x1", .non, .bl true, .bl false, .ref T1, .ref T2, .ref T3, .ref T4, .str "\n", .ref T6]) = J at s1 f1 f2 f3 f4 f5 f6 f7
    have eJ := s1 _ _ eb
    have ne : ∀ {x : Addr} {o : HO}, J x = some o → (o = .lst [.int db, .int mb, .int cb] → False) → x ≠ b := by
      rintro x o h1 h2 rfl
      rw [eJ] at h1
      exact h2 (Option.some.inj h1).symm
    refine ⟨b, T7, n, _, rfl, ⟨db, mb, cb, eJ, hb⟩, by omega, n7', SqL.of f7, (by show 0 < 14; decide), (by show 14 ≤ 1000; decide), fun i x H' hx bu hB' => ?_⟩
    have kk : Kept b H H' := fun y o ny e => bu.kept y o ny (s1 _ _ e)
    have g1 := bu.kept _ _ (ne f1 (fun z => by cases z)) f1
    have g2 := bu.kept _ _ (ne f2 (fun z => by cases z)) f2
    have g3 := bu.kept _ _ (ne f3 (fun z => by cases z)) f3
    have g4 := bu.kept _ _ (ne f4 (fun z => by cases z)) f4
    have g5 := bu.kept _ _ (ne f5 (fun z => by cases z)) f5
    have g6 := bu.kept _ _ (ne f6 (fun z => by cases z)) f6
    have hm := List.mem_of_getElem? hx
    simp only [List.mem_cons, List.not_mem_nil, or_false] at hm
    rcases hm with rfl | rfl | rfl | rfl | rfl | rfl | rfl | rfl | rfl | rfl | rfl | rfl | rfl | rfl
    · exact k _ _ _ (st "" (by decide +kernel)) (by decide +kernel) rfl kk hB'
    · exact k _ _ _ (st "abcdefghi" (by decide +kernel)) (by decide +kernel) rfl kk hB'
    · exact k _ _ _ (st "aB" (by decide +kernel)) (by decide +kernel) rfl kk hB'
    · exact k _ _ _ (st "a b" (by decide +kernel)) (by decide +kernel) rfl kk hB'
    · exact k _ _ _ (st "x1" (by decide +kernel)) (by decide +kernel) rfl kk hB'
    · exact k _ .none _ (sc trivial (.inl ⟨rfl, rfl⟩)) rfl rfl kk hB'
    · exact k _ (.bool true) _ (sc trivial (.inr (.inl ⟨true, rfl, rfl⟩))) rfl rfl kk hB'
    · exact k _ (.bool false) _ (sc trivial (.inr (.inl ⟨false, rfl, rfl⟩))) rfl rfl kk hB'
    · exact k _ _ _ (.inr (.inl ⟨T1, rfl, g1, rfl⟩)) rfl rfl kk hB'
    · exact k _ _ _ (.inr (.inr (.inl ⟨T2, rfl, g2, rfl⟩))) rfl rfl kk hB'
    · exact k _ _ _ (.inr (.inr (.inr (.inl ⟨T3, rfl, g3, rfl⟩)))) rfl rfl kk hB'
    · exact k _ _ _ (.inr (.inr (.inr (.inr (.inl ⟨T4, rfl, g4, rfl⟩))))) rfl rfl kk hB'
    · exact k _ _ _ (st "\n" (by decide +kernel)) (by decide +kernel) rfl kk hB'
    · exact k _ _ _ (.inr (.inr (.inr (.inr (.inr ⟨T6, T5, rfl, g6, g5, rfl⟩))))) rfl rfl kk hB'

theorem ok_lrfs {f fN : Addr} {fd fdN : FuncData} (F : FnP K "_law_refusal" sLRfs f fd) (GN : FnOk P w K mg base CX0 1 fN fdN ["thing"] (spName K)) (bN : Binds K fdN ["thing"] []) (kN : PySem.W.keepIn K (.ref fN) = true) (gN : mg "_law_is_name" = some (.ref fN))
    (n_isinstance : mg "isinstance" = none) (n_int : mg "int" = none) (n_bool : mg "bool" = none) (n_repr : mg "repr" = none) : FnG P w K mg base CX0 2 f fd ["lst", "place", "row"] spLRfs := by
  refine fnG_ok F scLRfs (fun vs H Q E h => ?_) (fun cdv A outer s H vs Q E gg hr h => ?_)
  · obtain ⟨x, y, z, dx, dy, dz, rfl, _⟩ := h
    rfl
  · obtain ⟨x, y, z, dx, dy, dz, rfl, hx, hy, hz, k⟩ := h
    have nd := scLRfs.nd
    have hu := hr.units
    have hr1 := hr.mono (j := 1) (by decide)
    refine ⟨_, PSs.nox (pss_cons (ps_if (pt_not (pt_val (pe_call GN hr1 (by rfl) gN kN bN .nil pass0 (pa_cons (pv 0) pa_nil))))
(pss_one (ps_ret (pe_tup (pa_cons pe_str (pa_cons (pe_callB (call_reprD gg (Nat.lt_of_le_of_lt (Nat.add_le_add_left (by decide) _) hu)) (by rfl) n_repr (by decide +kernel) (pa_cons (pv 0) pa_nil)) pa_nil)))))
pss_nil)
(pss_cons (ps_if (PW.pt (pw_or (pt_not (pt_val (pe_callB call_isi (by rfl) n_isinstance (by decide +kernel) (pa_cons (pv 1) (pa_cons (pe_bltn (v := .ty "int") (by rfl) n_int (by decide +kernel) rfl) pa_nil))))) (pw_or1 (pt_val (pe_callB call_isi (by rfl) n_isinstance (by decide +kernel) (pa_cons (pv 1) (pa_cons (pe_bltn (v := .ty "bool") (by rfl) n_bool (by decide +kernel) rfl) pa_nil)))))))
(pss_one (ps_ret (pe_tup (pa_cons pe_str (pa_cons (pe_callB (call_reprD gg (Nat.lt_of_le_of_lt (Nat.add_le_add_left (by decide) _) hu)) (by rfl) n_repr (by decide +kernel) (pa_cons (pv 1) pa_nil)) pa_nil)))))
pss_nil)
(pss_one (ps_ret (pe_ifExp (pt_val (pe_call GN hr1 (by rfl) gN kN bN .nil pass0 (pa_cons (pv 2) pa_nil))) pe_non (pe_tup (pa_cons pe_str (pa_cons (pe_callB (call_reprD gg (Nat.lt_of_le_of_lt (Nat.add_le_add_left (by decide) _) hu)) (by rfl) n_repr (by decide +kernel) (pa_cons (pv 2) pa_nil)) pa_nil)))))))), ?_⟩
    have tup : ∀ (J : Hp) (c : Str) (d : PyData), refD dx dy dz = some (c, d.shown) → Same H J → 2 ≤ sizeLine ∧ ∀ p, J p = none → Q (.ref p) (upd J p (.tup [.str c, .str d.shown])) := fun J c d e sJ => by
      rw [e] at k
      exact ⟨by decide, fun p np => k p _ (sJ.trans (same_put np)) upd_same⟩
    refine ⟨_, rfl, x, dx, rfl, hx.dp, hx.okN, fun H1 s1 => ⟨_, rfl, ?_⟩⟩
    cases c1 : nmD dx with
    | false =>
      have e : refD dx dy dz = some (("name" : Str), dx.shown) := by unfold refD; rw [if_neg (by rw [c1]; decide)]
      exact yes rfl ⟨_, rfl, _, dx, rfl, (hx.same s1).dp, big_small hx, tup H1 _ dx e s1⟩
    | true =>
    refine no rfl ?_
    refine ⟨_, rfl, _, _, _, _, _, rfl, .ty _, dp_ty (hy.same s1).dp, kit_int dy, _, rfl, ?_⟩
    have hyd : isIntD dy = false → refD dx dy dz = some (("place" : Str), dy.shown) := fun c => by unfold refD; rw [if_pos c1, if_neg (by rw [c]; decide)]
    have off : isIntD dy = false → 2 ≤ sizeLine ∧ ∀ p, H1 p = none → Q (.ref p) (upd H1 p (.tup [.str "place", .str dy.shown])) := fun c => tup H1 _ dy (hyd c) s1
    cases ci : isIntD dy with
    | false =>
      cases cb : isBoolD dy with
      | false => exact yes rfl (yes rfl ⟨_, rfl, _, dy, rfl, (hy.same s1).dp, big_small hy, off ci⟩)
      | true => exact no rfl ⟨_, rfl, _, _, _, _, _, rfl, .ty _, dp_ty (hy.same s1).dp, kit_bool dy, _, rfl, (by rw [cb]; exact yes rfl ⟨_, rfl, _, dy, rfl, (hy.same s1).dp, big_small hy, off ci⟩)⟩
    | true =>
      have cb : isBoolD dy = false := by cases dy <;> first | rfl | cases ci
      refine no rfl ⟨_, rfl, _, _, _, _, _, rfl, .ty _, dp_ty (hy.same s1).dp, kit_bool dy, _, rfl, ?_⟩
      rw [cb]
      refine no rfl ?_
      refine ⟨_, rfl, z, dz, rfl, (hz.same s1).dp, hz.okN, fun H2 s2 => ⟨_, rfl, ?_⟩⟩
      cases c3 : nmD dz with
      | true =>
        have e : refD dx dy dz = none := by unfold refD; rw [if_pos c1, if_pos ci, if_pos c3]
        rw [e] at k
        exact yes rfl (k H2 (s1.trans s2))
      | false =>
        have e : refD dx dy dz = some (("name" : Str), dz.shown) := by unfold refD; rw [if_pos c1, if_pos ci, if_neg (by rw [c3]; decide)]
        exact no rfl ⟨_, rfl, z, dz, rfl, ((hz.same s1).same s2).dp, big_small hz, tup H2 _ dz e (s1.trans s2)⟩
end
end K86

set_option Elab.async false
set_option maxRecDepth 100000
set_option maxHeartbeats 2000000
namespace K86
open PySem PySem.Spec PyProof.Rows L2 L2H He KX StX
abbrev sLCls : Stmt := top 24
def spCls (e d : Addr) (ans : Str) : Sp := fun vs H Q _ => vs = [.ref e] ∧ (∃ fs, H d = some (.xd fs)) ∧ Q (.str ans) H
section
variable {P : Program} {w : World} {K : PySem.W.Frag} {mg : Str → Option Value} {base : Heap}
theorem scLCls : FnScope ["e", "is_place", "is_missing"] ["e"] (defScope sLCls) := ⟨rfl, rfl, rfl, by decide +kernel, rfl, by decide +kernel, by decide +kernel⟩
theorem ok_clsBN {f d : Addr} {fd : FuncData} {p : Addr × Obj} (F : FnP K "_law_class" sLCls f fd) (B : ErBN K) (hz : Zc (.ref (ga K "BadName")) (some d) p.2) (hf : ∃ vs, p.2.data = .fields vs)
    (gPlaceError : mg "PlaceError" = some (.ref (ga K "PlaceError"))) (gMissingError : mg "MissingError" = some (.ref (ga K "MissingError"))) (gBadName : mg "BadName" = some (.ref (ga K "BadName"))) (gBadPlace : mg "BadPlace" = some (.ref (ga K "BadPlace"))) (gNoRow : mg "NoRow" = some (.ref (ga K "NoRow"))) (gNoPlace : mg "NoPlace" = some (.ref (ga K "NoPlace"))) (n_isinstance : mg "isinstance" = none) (n_ValueError : mg "ValueError" = none) (n_LookupError : mg "LookupError" = none) : FnP0 p P w K mg base CX0 1 f fd ["e"] (spCls p.1 d "name") := by
  refine fnP0_ok F scLCls (fun vs H Q E h => ?_) (fun cdv A outer s H vs Q E hot hr h => ?_)
  · obtain ⟨rfl, _⟩ := h
    rfl
  · obtain ⟨rfl, ⟨fs, hd⟩, k⟩ := h
    have nd := scLCls.nd
    have hp : (p.1, p.2) ∈ (cxH CX0 P w K mg base ["e", "is_place", "is_missing"] "_law_class" (defScope sLCls) f cdv A outer s H E p).pn := List.mem_cons_self
    have kP := B.kO ("PlaceError", true) (by simp)
    have kM := B.kO ("MissingError", false) (by simp)
    have kV := B.kB ("ValueError", true) (by simp)
    have kL := B.kB ("LookupError", false) (by simp)
    have k5 := B.kO ("BadName", true) (by simp)
    have k6 := B.kO ("BadPlace", false) (by simp)
    refine ⟨_, (by exact (pss_cons (ps_set (i := 1) nd rfl (Or.inl rfl) (pe_and (pe_callB (call_isEdG (a := p.1) (oe := p.2) hp B.T B.sp B.tk hz hf) (by rfl) n_isinstance (by decide +kernel) (pa_cons (pv 0) (pa_cons (pe_glob (v := .ref (ga K "PlaceError")) rfl gPlaceError rfl) pa_nil))) (pe_one (pe_callB (call_isEdG (a := p.1) (oe := p.2) hp B.T B.sp B.tk hz hf) (by rfl) n_isinstance (by decide +kernel) (pa_cons (pv 0) (pa_cons (pe_bltn (v := .ty "ValueError") (by rfl) n_ValueError (by decide +kernel) rfl) pa_nil))))))
(pss_cons (ps_set (i := 2) nd rfl (Or.inl rfl) (pe_and (pe_callB (call_isEdG (a := p.1) (oe := p.2) hp B.T B.sp B.tk hz hf) (by rfl) n_isinstance (by decide +kernel) (pa_cons (pv 0) (pa_cons (pe_glob (v := .ref (ga K "MissingError")) rfl gMissingError rfl) pa_nil))) (pe_one (pe_callB (call_isEdG (a := p.1) (oe := p.2) hp B.T B.sp B.tk hz hf) (by rfl) n_isinstance (by decide +kernel) (pa_cons (pv 0) (pa_cons (pe_bltn (v := .ty "LookupError") (by rfl) n_LookupError (by decide +kernel) rfl) pa_nil))))))
(pss_cons (ps_if (PW.pt (pw_and (pt_val (pv 1)) (pw_and1 (pt_not (pt_val (pe_callB (call_isEdG (a := p.1) (oe := p.2) hp B.T B.sp B.tk hz hf) (by rfl) n_isinstance (by decide +kernel) (pa_cons (pv 0) (pa_cons (pe_bltn (v := .ty "LookupError") (by rfl) n_LookupError (by decide +kernel) rfl) pa_nil))))))))
(pss_one (ps_ret (pe_ifExp (PW.pt (pw_and (pt_val (pe_callB (call_isEdG (a := p.1) (oe := p.2) hp B.T B.sp B.tk hz hf) (by rfl) n_isinstance (by decide +kernel) (pa_cons (pv 0) (pa_cons (pe_glob (v := .ref (ga K "BadName")) rfl gBadName rfl) pa_nil)))) (pw_and1 (pt_not (pt_val (pe_callB (call_isEdG (a := p.1) (oe := p.2) hp B.T B.sp B.tk hz hf) (by rfl) n_isinstance (by decide +kernel) (pa_cons (pv 0) (pa_cons (pe_glob (v := .ref (ga K "BadPlace")) rfl gBadPlace rfl) pa_nil)))))))) pe_str pe_str)))
pss_nil)
(pss_cons (ps_if (PW.pt (pw_and (pt_val (pv 2)) (pw_and1 (pt_not (pt_val (pe_callB (call_isEdG (a := p.1) (oe := p.2) hp B.T B.sp B.tk hz hf) (by rfl) n_isinstance (by decide +kernel) (pa_cons (pv 0) (pa_cons (pe_bltn (v := .ty "ValueError") (by rfl) n_ValueError (by decide +kernel) rfl) pa_nil))))))))
(pss_one (ps_ret (pe_ifExp (PW.pt (pw_and (pt_val (pe_callB (call_isEdG (a := p.1) (oe := p.2) hp B.T B.sp B.tk hz hf) (by rfl) n_isinstance (by decide +kernel) (pa_cons (pv 0) (pa_cons (pe_glob (v := .ref (ga K "NoRow")) rfl gNoRow rfl) pa_nil)))) (pw_and1 (pt_not (pt_val (pe_callB (call_isEdG (a := p.1) (oe := p.2) hp B.T B.sp B.tk hz hf) (by rfl) n_isinstance (by decide +kernel) (pa_cons (pv 0) (pa_cons (pe_glob (v := .ref (ga K "NoPlace")) rfl gNoPlace rfl) pa_nil)))))))) pe_str pe_str)))
pss_nil)
(pss_one (ps_ret pe_str))))))), ?_⟩
    refine ⟨_, rfl, ⟨_, hd⟩, _, _, _, rfl, (fun _ r => r), kP, ?_⟩
    refine ⟨_, rfl, yes rfl ⟨_, rfl, ⟨_, hd⟩, _, _, _, rfl, (fun _ r => r), kV, ?_⟩⟩
    refine ⟨_, rfl, ⟨_, hd⟩, _, _, _, rfl, (fun _ r => r), kM, ?_⟩
    refine ⟨_, rfl, no rfl ?_⟩
    refine ⟨_, rfl, _, rfl, yes rfl ?_⟩
    refine ⟨_, rfl, ⟨_, hd⟩, _, _, _, rfl, (fun _ r => r), kL, _, rfl, ?_⟩
    refine yes rfl ?_
    refine ⟨_, rfl, ⟨_, hd⟩, _, _, _, rfl, (fun _ r => r), k5, _, rfl, yes rfl ?_⟩
    refine ⟨_, rfl, ⟨_, hd⟩, _, _, _, rfl, (fun _ r => r), k6, _, rfl, ?_⟩
    exact yes rfl k
theorem ok_clsBP {f d : Addr} {fd : FuncData} {p : Addr × Obj} (F : FnP K "_law_class" sLCls f fd) (B : ErBP K) (hz : Zc (.ref (ga K "BadPlace")) (some d) p.2) (hf : ∃ vs, p.2.data = .fields vs)
    (gPlaceError : mg "PlaceError" = some (.ref (ga K "PlaceError"))) (gMissingError : mg "MissingError" = some (.ref (ga K "MissingError"))) (gBadName : mg "BadName" = some (.ref (ga K "BadName"))) (gBadPlace : mg "BadPlace" = some (.ref (ga K "BadPlace"))) (gNoRow : mg "NoRow" = some (.ref (ga K "NoRow"))) (gNoPlace : mg "NoPlace" = some (.ref (ga K "NoPlace"))) (n_isinstance : mg "isinstance" = none) (n_ValueError : mg "ValueError" = none) (n_LookupError : mg "LookupError" = none) : FnP0 p P w K mg base CX0 1 f fd ["e"] (spCls p.1 d "place") := by
  refine fnP0_ok F scLCls (fun vs H Q E h => ?_) (fun cdv A outer s H vs Q E hot hr h => ?_)
  · obtain ⟨rfl, _⟩ := h
    rfl
  · obtain ⟨rfl, ⟨fs, hd⟩, k⟩ := h
    have nd := scLCls.nd
    have hp : (p.1, p.2) ∈ (cxH CX0 P w K mg base ["e", "is_place", "is_missing"] "_law_class" (defScope sLCls) f cdv A outer s H E p).pn := List.mem_cons_self
    have kP := B.kO ("PlaceError", true) (by simp)
    have kM := B.kO ("MissingError", false) (by simp)
    have kV := B.kB ("ValueError", true) (by simp)
    have kL := B.kB ("LookupError", false) (by simp)
    have k5 := B.kO ("BadName", false) (by simp)
    have k6 := B.kO ("BadPlace", true) (by simp)
    refine ⟨_, (by exact (pss_cons (ps_set (i := 1) nd rfl (Or.inl rfl) (pe_and (pe_callB (call_isEdG (a := p.1) (oe := p.2) hp B.T B.sp B.tk hz hf) (by rfl) n_isinstance (by decide +kernel) (pa_cons (pv 0) (pa_cons (pe_glob (v := .ref (ga K "PlaceError")) rfl gPlaceError rfl) pa_nil))) (pe_one (pe_callB (call_isEdG (a := p.1) (oe := p.2) hp B.T B.sp B.tk hz hf) (by rfl) n_isinstance (by decide +kernel) (pa_cons (pv 0) (pa_cons (pe_bltn (v := .ty "ValueError") (by rfl) n_ValueError (by decide +kernel) rfl) pa_nil))))))
(pss_cons (ps_set (i := 2) nd rfl (Or.inl rfl) (pe_and (pe_callB (call_isEdG (a := p.1) (oe := p.2) hp B.T B.sp B.tk hz hf) (by rfl) n_isinstance (by decide +kernel) (pa_cons (pv 0) (pa_cons (pe_glob (v := .ref (ga K "MissingError")) rfl gMissingError rfl) pa_nil))) (pe_one (pe_callB (call_isEdG (a := p.1) (oe := p.2) hp B.T B.sp B.tk hz hf) (by rfl) n_isinstance (by decide +kernel) (pa_cons (pv 0) (pa_cons (pe_bltn (v := .ty "LookupError") (by rfl) n_LookupError (by decide +kernel) rfl) pa_nil))))))
(pss_cons (ps_if (PW.pt (pw_and (pt_val (pv 1)) (pw_and1 (pt_not (pt_val (pe_callB (call_isEdG (a := p.1) (oe := p.2) hp B.T B.sp B.tk hz hf) (by rfl) n_isinstance (by decide +kernel) (pa_cons (pv 0) (pa_cons (pe_bltn (v := .ty "LookupError") (by rfl) n_LookupError (by decide +kernel) rfl) pa_nil))))))))
(pss_one (ps_ret (pe_ifExp (PW.pt (pw_and (pt_val (pe_callB (call_isEdG (a := p.1) (oe := p.2) hp B.T B.sp B.tk hz hf) (by rfl) n_isinstance (by decide +kernel) (pa_cons (pv 0) (pa_cons (pe_glob (v := .ref (ga K "BadName")) rfl gBadName rfl) pa_nil)))) (pw_and1 (pt_not (pt_val (pe_callB (call_isEdG (a := p.1) (oe := p.2) hp B.T B.sp B.tk hz hf) (by rfl) n_isinstance (by decide +kernel) (pa_cons (pv 0) (pa_cons (pe_glob (v := .ref (ga K "BadPlace")) rfl gBadPlace rfl) pa_nil)))))))) pe_str pe_str)))
pss_nil)
(pss_cons (ps_if (PW.pt (pw_and (pt_val (pv 2)) (pw_and1 (pt_not (pt_val (pe_callB (call_isEdG (a := p.1) (oe := p.2) hp B.T B.sp B.tk hz hf) (by rfl) n_isinstance (by decide +kernel) (pa_cons (pv 0) (pa_cons (pe_bltn (v := .ty "ValueError") (by rfl) n_ValueError (by decide +kernel) rfl) pa_nil))))))))
(pss_one (ps_ret (pe_ifExp (PW.pt (pw_and (pt_val (pe_callB (call_isEdG (a := p.1) (oe := p.2) hp B.T B.sp B.tk hz hf) (by rfl) n_isinstance (by decide +kernel) (pa_cons (pv 0) (pa_cons (pe_glob (v := .ref (ga K "NoRow")) rfl gNoRow rfl) pa_nil)))) (pw_and1 (pt_not (pt_val (pe_callB (call_isEdG (a := p.1) (oe := p.2) hp B.T B.sp B.tk hz hf) (by rfl) n_isinstance (by decide +kernel) (pa_cons (pv 0) (pa_cons (pe_glob (v := .ref (ga K "NoPlace")) rfl gNoPlace rfl) pa_nil)))))))) pe_str pe_str)))
pss_nil)
(pss_one (ps_ret pe_str))))))), ?_⟩
    refine ⟨_, rfl, ⟨_, hd⟩, _, _, _, rfl, (fun _ r => r), kP, ?_⟩
    refine ⟨_, rfl, yes rfl ⟨_, rfl, ⟨_, hd⟩, _, _, _, rfl, (fun _ r => r), kV, ?_⟩⟩
    refine ⟨_, rfl, ⟨_, hd⟩, _, _, _, rfl, (fun _ r => r), kM, ?_⟩
    refine ⟨_, rfl, no rfl ?_⟩
    refine ⟨_, rfl, _, rfl, yes rfl ?_⟩
    refine ⟨_, rfl, ⟨_, hd⟩, _, _, _, rfl, (fun _ r => r), kL, _, rfl, ?_⟩
    refine yes rfl ?_
    refine ⟨_, rfl, ⟨_, hd⟩, _, _, _, rfl, (fun _ r => r), k5, _, rfl, no rfl ?_⟩
    exact k
theorem ok_clsNR {f d : Addr} {fd : FuncData} {p : Addr × Obj} (F : FnP K "_law_class" sLCls f fd) (B : ErNR K) (hz : Zc (.ref (ga K "NoRow")) (some d) p.2) (hf : ∃ vs, p.2.data = .fields vs)
    (gPlaceError : mg "PlaceError" = some (.ref (ga K "PlaceError"))) (gMissingError : mg "MissingError" = some (.ref (ga K "MissingError"))) (gBadName : mg "BadName" = some (.ref (ga K "BadName"))) (gBadPlace : mg "BadPlace" = some (.ref (ga K "BadPlace"))) (gNoRow : mg "NoRow" = some (.ref (ga K "NoRow"))) (gNoPlace : mg "NoPlace" = some (.ref (ga K "NoPlace"))) (n_isinstance : mg "isinstance" = none) (n_ValueError : mg "ValueError" = none) (n_LookupError : mg "LookupError" = none) : FnP0 p P w K mg base CX0 1 f fd ["e"] (spCls p.1 d "row") := by
  refine fnP0_ok F scLCls (fun vs H Q E h => ?_) (fun cdv A outer s H vs Q E hot hr h => ?_)
  · obtain ⟨rfl, _⟩ := h
    rfl
  · obtain ⟨rfl, ⟨fs, hd⟩, k⟩ := h
    have nd := scLCls.nd
    have hp : (p.1, p.2) ∈ (cxH CX0 P w K mg base ["e", "is_place", "is_missing"] "_law_class" (defScope sLCls) f cdv A outer s H E p).pn := List.mem_cons_self
    have kP := B.kO ("PlaceError", false) (by simp)
    have kM := B.kO ("MissingError", true) (by simp)
    have kV := B.kB ("ValueError", false) (by simp)
    have kL := B.kB ("LookupError", true) (by simp)
    have k5 := B.kO ("NoRow", true) (by simp)
    have k6 := B.kO ("NoPlace", false) (by simp)
    refine ⟨_, (by exact (pss_cons (ps_set (i := 1) nd rfl (Or.inl rfl) (pe_and (pe_callB (call_isEdG (a := p.1) (oe := p.2) hp B.T B.sp B.tk hz hf) (by rfl) n_isinstance (by decide +kernel) (pa_cons (pv 0) (pa_cons (pe_glob (v := .ref (ga K "PlaceError")) rfl gPlaceError rfl) pa_nil))) (pe_one (pe_callB (call_isEdG (a := p.1) (oe := p.2) hp B.T B.sp B.tk hz hf) (by rfl) n_isinstance (by decide +kernel) (pa_cons (pv 0) (pa_cons (pe_bltn (v := .ty "ValueError") (by rfl) n_ValueError (by decide +kernel) rfl) pa_nil))))))
(pss_cons (ps_set (i := 2) nd rfl (Or.inl rfl) (pe_and (pe_callB (call_isEdG (a := p.1) (oe := p.2) hp B.T B.sp B.tk hz hf) (by rfl) n_isinstance (by decide +kernel) (pa_cons (pv 0) (pa_cons (pe_glob (v := .ref (ga K "MissingError")) rfl gMissingError rfl) pa_nil))) (pe_one (pe_callB (call_isEdG (a := p.1) (oe := p.2) hp B.T B.sp B.tk hz hf) (by rfl) n_isinstance (by decide +kernel) (pa_cons (pv 0) (pa_cons (pe_bltn (v := .ty "LookupError") (by rfl) n_LookupError (by decide +kernel) rfl) pa_nil))))))
(pss_cons (ps_if (PW.pt (pw_and (pt_val (pv 1)) (pw_and1 (pt_not (pt_val (pe_callB (call_isEdG (a := p.1) (oe := p.2) hp B.T B.sp B.tk hz hf) (by rfl) n_isinstance (by decide +kernel) (pa_cons (pv 0) (pa_cons (pe_bltn (v := .ty "LookupError") (by rfl) n_LookupError (by decide +kernel) rfl) pa_nil))))))))
(pss_one (ps_ret (pe_ifExp (PW.pt (pw_and (pt_val (pe_callB (call_isEdG (a := p.1) (oe := p.2) hp B.T B.sp B.tk hz hf) (by rfl) n_isinstance (by decide +kernel) (pa_cons (pv 0) (pa_cons (pe_glob (v := .ref (ga K "BadName")) rfl gBadName rfl) pa_nil)))) (pw_and1 (pt_not (pt_val (pe_callB (call_isEdG (a := p.1) (oe := p.2) hp B.T B.sp B.tk hz hf) (by rfl) n_isinstance (by decide +kernel) (pa_cons (pv 0) (pa_cons (pe_glob (v := .ref (ga K "BadPlace")) rfl gBadPlace rfl) pa_nil)))))))) pe_str pe_str)))
pss_nil)
(pss_cons (ps_if (PW.pt (pw_and (pt_val (pv 2)) (pw_and1 (pt_not (pt_val (pe_callB (call_isEdG (a := p.1) (oe := p.2) hp B.T B.sp B.tk hz hf) (by rfl) n_isinstance (by decide +kernel) (pa_cons (pv 0) (pa_cons (pe_bltn (v := .ty "ValueError") (by rfl) n_ValueError (by decide +kernel) rfl) pa_nil))))))))
(pss_one (ps_ret (pe_ifExp (PW.pt (pw_and (pt_val (pe_callB (call_isEdG (a := p.1) (oe := p.2) hp B.T B.sp B.tk hz hf) (by rfl) n_isinstance (by decide +kernel) (pa_cons (pv 0) (pa_cons (pe_glob (v := .ref (ga K "NoRow")) rfl gNoRow rfl) pa_nil)))) (pw_and1 (pt_not (pt_val (pe_callB (call_isEdG (a := p.1) (oe := p.2) hp B.T B.sp B.tk hz hf) (by rfl) n_isinstance (by decide +kernel) (pa_cons (pv 0) (pa_cons (pe_glob (v := .ref (ga K "NoPlace")) rfl gNoPlace rfl) pa_nil)))))))) pe_str pe_str)))
pss_nil)
(pss_one (ps_ret pe_str))))))), ?_⟩
    refine ⟨_, rfl, ⟨_, hd⟩, _, _, _, rfl, (fun _ r => r), kP, ?_⟩
    refine ⟨_, rfl, no rfl ?_⟩
    refine ⟨_, rfl, ⟨_, hd⟩, _, _, _, rfl, (fun _ r => r), kM, ?_⟩
    refine ⟨_, rfl, yes rfl ⟨_, rfl, ⟨_, hd⟩, _, _, _, rfl, (fun _ r => r), kL, ?_⟩⟩
    refine ⟨_, rfl, _, rfl, no rfl ?_⟩
    refine ⟨_, rfl, _, rfl, yes rfl ?_⟩
    refine ⟨_, rfl, ⟨_, hd⟩, _, _, _, rfl, (fun _ r => r), kV, _, rfl, ?_⟩
    refine yes rfl ?_
    refine ⟨_, rfl, ⟨_, hd⟩, _, _, _, rfl, (fun _ r => r), k5, _, rfl, yes rfl ?_⟩
    refine ⟨_, rfl, ⟨_, hd⟩, _, _, _, rfl, (fun _ r => r), k6, _, rfl, ?_⟩
    exact yes rfl k
theorem ok_clsNP {f d : Addr} {fd : FuncData} {p : Addr × Obj} (F : FnP K "_law_class" sLCls f fd) (B : ErNP K) (hz : Zc (.ref (ga K "NoPlace")) (some d) p.2) (hf : ∃ vs, p.2.data = .fields vs)
    (gPlaceError : mg "PlaceError" = some (.ref (ga K "PlaceError"))) (gMissingError : mg "MissingError" = some (.ref (ga K "MissingError"))) (gBadName : mg "BadName" = some (.ref (ga K "BadName"))) (gBadPlace : mg "BadPlace" = some (.ref (ga K "BadPlace"))) (gNoRow : mg "NoRow" = some (.ref (ga K "NoRow"))) (gNoPlace : mg "NoPlace" = some (.ref (ga K "NoPlace"))) (n_isinstance : mg "isinstance" = none) (n_ValueError : mg "ValueError" = none) (n_LookupError : mg "LookupError" = none) : FnP0 p P w K mg base CX0 1 f fd ["e"] (spCls p.1 d "none") := by
  refine fnP0_ok F scLCls (fun vs H Q E h => ?_) (fun cdv A outer s H vs Q E hot hr h => ?_)
  · obtain ⟨rfl, _⟩ := h
    rfl
  · obtain ⟨rfl, ⟨fs, hd⟩, k⟩ := h
    have nd := scLCls.nd
    have hp : (p.1, p.2) ∈ (cxH CX0 P w K mg base ["e", "is_place", "is_missing"] "_law_class" (defScope sLCls) f cdv A outer s H E p).pn := List.mem_cons_self
    have kP := B.kO ("PlaceError", false) (by simp)
    have kM := B.kO ("MissingError", true) (by simp)
    have kV := B.kB ("ValueError", false) (by simp)
    have kL := B.kB ("LookupError", true) (by simp)
    have k5 := B.kO ("NoRow", false) (by simp)
    have k6 := B.kO ("NoPlace", true) (by simp)
    refine ⟨_, (by exact (pss_cons (ps_set (i := 1) nd rfl (Or.inl rfl) (pe_and (pe_callB (call_isEdG (a := p.1) (oe := p.2) hp B.T B.sp B.tk hz hf) (by rfl) n_isinstance (by decide +kernel) (pa_cons (pv 0) (pa_cons (pe_glob (v := .ref (ga K "PlaceError")) rfl gPlaceError rfl) pa_nil))) (pe_one (pe_callB (call_isEdG (a := p.1) (oe := p.2) hp B.T B.sp B.tk hz hf) (by rfl) n_isinstance (by decide +kernel) (pa_cons (pv 0) (pa_cons (pe_bltn (v := .ty "ValueError") (by rfl) n_ValueError (by decide +kernel) rfl) pa_nil))))))
(pss_cons (ps_set (i := 2) nd rfl (Or.inl rfl) (pe_and (pe_callB (call_isEdG (a := p.1) (oe := p.2) hp B.T B.sp B.tk hz hf) (by rfl) n_isinstance (by decide +kernel) (pa_cons (pv 0) (pa_cons (pe_glob (v := .ref (ga K "MissingError")) rfl gMissingError rfl) pa_nil))) (pe_one (pe_callB (call_isEdG (a := p.1) (oe := p.2) hp B.T B.sp B.tk hz hf) (by rfl) n_isinstance (by decide +kernel) (pa_cons (pv 0) (pa_cons (pe_bltn (v := .ty "LookupError") (by rfl) n_LookupError (by decide +kernel) rfl) pa_nil))))))
(pss_cons (ps_if (PW.pt (pw_and (pt_val (pv 1)) (pw_and1 (pt_not (pt_val (pe_callB (call_isEdG (a := p.1) (oe := p.2) hp B.T B.sp B.tk hz hf) (by rfl) n_isinstance (by decide +kernel) (pa_cons (pv 0) (pa_cons (pe_bltn (v := .ty "LookupError") (by rfl) n_LookupError (by decide +kernel) rfl) pa_nil))))))))
(pss_one (ps_ret (pe_ifExp (PW.pt (pw_and (pt_val (pe_callB (call_isEdG (a := p.1) (oe := p.2) hp B.T B.sp B.tk hz hf) (by rfl) n_isinstance (by decide +kernel) (pa_cons (pv 0) (pa_cons (pe_glob (v := .ref (ga K "BadName")) rfl gBadName rfl) pa_nil)))) (pw_and1 (pt_not (pt_val (pe_callB (call_isEdG (a := p.1) (oe := p.2) hp B.T B.sp B.tk hz hf) (by rfl) n_isinstance (by decide +kernel) (pa_cons (pv 0) (pa_cons (pe_glob (v := .ref (ga K "BadPlace")) rfl gBadPlace rfl) pa_nil)))))))) pe_str pe_str)))
pss_nil)
(pss_cons (ps_if (PW.pt (pw_and (pt_val (pv 2)) (pw_and1 (pt_not (pt_val (pe_callB (call_isEdG (a := p.1) (oe := p.2) hp B.T B.sp B.tk hz hf) (by rfl) n_isinstance (by decide +kernel) (pa_cons (pv 0) (pa_cons (pe_bltn (v := .ty "ValueError") (by rfl) n_ValueError (by decide +kernel) rfl) pa_nil))))))))
(pss_one (ps_ret (pe_ifExp (PW.pt (pw_and (pt_val (pe_callB (call_isEdG (a := p.1) (oe := p.2) hp B.T B.sp B.tk hz hf) (by rfl) n_isinstance (by decide +kernel) (pa_cons (pv 0) (pa_cons (pe_glob (v := .ref (ga K "NoRow")) rfl gNoRow rfl) pa_nil)))) (pw_and1 (pt_not (pt_val (pe_callB (call_isEdG (a := p.1) (oe := p.2) hp B.T B.sp B.tk hz hf) (by rfl) n_isinstance (by decide +kernel) (pa_cons (pv 0) (pa_cons (pe_glob (v := .ref (ga K "NoPlace")) rfl gNoPlace rfl) pa_nil)))))))) pe_str pe_str)))
pss_nil)
(pss_one (ps_ret pe_str))))))), ?_⟩
    refine ⟨_, rfl, ⟨_, hd⟩, _, _, _, rfl, (fun _ r => r), kP, ?_⟩
    refine ⟨_, rfl, no rfl ?_⟩
    refine ⟨_, rfl, ⟨_, hd⟩, _, _, _, rfl, (fun _ r => r), kM, ?_⟩
    refine ⟨_, rfl, yes rfl ⟨_, rfl, ⟨_, hd⟩, _, _, _, rfl, (fun _ r => r), kL, ?_⟩⟩
    refine ⟨_, rfl, _, rfl, no rfl ?_⟩
    refine ⟨_, rfl, _, rfl, yes rfl ?_⟩
    refine ⟨_, rfl, ⟨_, hd⟩, _, _, _, rfl, (fun _ r => r), kV, _, rfl, ?_⟩
    refine yes rfl ?_
    refine ⟨_, rfl, ⟨_, hd⟩, _, _, _, rfl, (fun _ r => r), k5, _, rfl, no rfl ?_⟩
    exact k
end
end K86

set_option Elab.async false
set_option maxRecDepth 100000
set_option maxHeartbeats 2000000
/-! o.m(..) in a try: what it raises may be told by the slots at that moment. -/
namespace KX
open PySem PySem.Spec PyProof.Rows L2
def tMethS (C : Addr) (m : Str) (sp : Sp) (E : L2.St → XK) (ta : TE) (t : TA) : TE := fun σ H Q => ta σ H fun x H1 => ∃ a dx fs, x = .ref a ∧ H1 a = some (.ins C dx fs) ∧ fs.lookup m = none ∧ t σ H1 fun vs H2 => sp (x :: vs) H2 Q (E σ)
section
variable {X : Cx} {CX : CXT} {k : Nat} {f C : Addr} {fd : FuncData} {ps : List Str} {sp : Sp} {E : L2.St → XK} {m : Str} {p pos apos : Pos} {e o : Expr} {es : List Expr} {ta : TE} {t : TA}
theorem pe_methE {pl : Sem Bool} (he : PE X o ta) (c : Cls X.K C) (hm : Meth X.K C m f) (F : FnOk X.prog X.w X.K X.mg X.base CX k f fd ps sp) (hr : Room k X.A) (hb : Binds X.K fd ps []) (hx : ∀ σ, PassesAt CX X σ (E σ)) (ha : PA X (e :: es) t)
    (hst : starEach (e :: es) X.env = (false, eval e X.env) :: starEach es X.env := by rfl) (hpl : (backTo pos (starEach es X.env)).any (·.1) = false := by rfl)
    (ht : eval (.Call (.Attribute o m apos) (e :: es) [] pos) X.env = (do
      let ov ← eval o X.env
      standAt apos.atName
      let (f, first) ← holding [ov] (getMethod ov m pl)
      callWith pos f first (backTo pos (starEach (e :: es) X.env)) (backToKw pos (keywordEach [] X.env))) := by rfl) :
    PE X (.Call (.Attribute o m apos) (e :: es) [] pos) (tMethS C m sp E ta t) := by
  refine ⟨fun pins s σ H Q I h => ?_⟩
  refine PySem.W.methodCall_KW (pl := pl) (thn (he.run pins s σ H _ I h) fun u s1 ⟨x, H1, I1, rx, a, dx, fs, ex, ea, l, q⟩ => ?_) ht
  subst ex
  obtain rfl : u = Value.ref a := rx
  refine getmeth_ok I1 ea c hm l ?_
  refine PySem.W.callWith_K (first := [.ref a]) (h₀ := X.base) I.ok.mod.kin hm.kp (thn (ha.run pos pins s1 σ H1 _ I1 q) fun us s2 ⟨vs, H2, I2, r, q2⟩ => ⟨I2.kIn, ?_⟩) hst hpl
  exact run_fnS (us := .ref a :: us) (vs := .ref a :: vs) F hr hb (hx σ) I2 (.cons rfl r) q2
theorem pe_methE0 {pl : Sem Bool} (he : PE X o ta) (c : Cls X.K C) (hm : Meth X.K C m f) (F : FnOk X.prog X.w X.K X.mg X.base CX k f fd ps sp) (hr : Room k X.A) (hb : Binds X.K fd ps []) (hx : ∀ σ, PassesAt CX X σ (E σ))
    (ht : eval (.Call (.Attribute o m apos) [] [] pos) X.env = (do
      let ov ← eval o X.env
      standAt apos.atName
      let (f, first) ← holding [ov] (getMethod ov m pl)
      callWith pos f first (backTo pos (starEach [] X.env)) (backToKw pos (keywordEach [] X.env))) := by rfl) :
    PE X (.Call (.Attribute o m apos) [] [] pos) (tMethS C m sp E ta tNil) := by
  refine ⟨fun pins s σ H Q I h => ?_⟩
  refine PySem.W.methodCall_KW (pl := pl) (thn (he.run pins s σ H _ I h) fun u s1 ⟨x, H1, I1, rx, a, dx, fs, ex, ea, l, q⟩ => ?_) ht
  subst ex
  obtain rfl : u = Value.ref a := rx
  refine getmeth_ok I1 ea c hm l ?_
  exact PySem.W.callWith_K0 (first := [.ref a]) I1.kIn hm.kp (run_fnS (us := [.ref a]) (vs := [.ref a]) F hr hb (hx σ) I1 (.cons rfl .nil) q)
end
end KX

set_option Elab.async false
set_option maxRecDepth 100000
set_option maxHeartbeats 2000000
/-! o[i] and o[i] = v by own methods in a try: what they raise may be told by the slots at that moment. -/
namespace KX
open PySem PySem.Spec PySem.Calls PyProof.Rows L2
section
variable {X : Cx} {CX : CXT} {k : Nat} {f C : Addr} {fd : FuncData} {ps : List Str} {sp : Sp} {E : L2.St → XK} {a b : Expr} {ta tb : TE} {pos : Pos}
def tIxS (C : Addr) (sp : Sp) (E : L2.St → XK) (ta tb : TE) : TE := fun σ => tOp (fun x y H Q => ∃ p, x = .ref p ∧ InsT H p C ∧ sp [.ref p, y] H Q (E σ)) ta tb σ
theorem pe_ixOS (m : Meth X.K C "__getitem__" f) (hfn : PySem.W.fnIn X.K f = true) (F : FnOk X.prog X.w X.K X.mg X.base CX k f fd ps sp) (hr : Room (k + 1) X.A) (hb : Binds X.K fd ps []) (hx : ∀ σ, PassesAt CX X σ (E σ)) (ha : PE X a ta) (hb' : PE X b tb)
    (hsl : ∀ o i, subscripted b true o i = runValue (.builtin "lifetime.subscript" ⟨[o, i], []⟩) := by intro _ _; rfl) : PE X (.Subscript a b pos) (tIxS C sp E ta tb) := by
  refine ⟨fun pins s σ H Q I h => ?_⟩
  refine Subscript_ (binT ha hb' I h fun v u s2 x y H2 I2 rx ry q => ?_)
  obtain ⟨p, rfl, hi, q⟩ := q
  cases (show v = Value.ref p from rx)
  obtain ⟨ox, od, J⟩ := insT_at I2 hi
  obtain ⟨m', fr⟩ := I2.fr
  have hl : ([Value.ref p, u] ++ []).length = ps.length := F.len _ _ _ _ q
  have hbi := hb s2 [.ref p, u] I2.kIn hl
  rw [List.append_nil] at hbi
  refine PySem.W.sub_K fr I2.mod.kin J m.at_ hfn m.fn (wpAny_call (codeAny_mono (F.run X.A.in1 X.stack s2 H2 ⟨[.ref p, u], []⟩ [.ref p, u] [.ref p, y] Q (E σ) hr.in1 I2.env0.in1 hbi (.cons rfl (.cons ry .nil)) q) fun res s' z => ?_)) (hsl _ _)
  match res, z with
  | .error e, z => exact hx σ pins H2 s2 e s' I2 z
  | .ok (.ret u), z => exact I2.after z
  | .ok .next, z => exact False.elim z
  | .ok .brk, z => exact False.elim z
  | .ok .cont, z => exact False.elim z
def gSubS (C : Addr) (sp : Sp) (E : L2.St → XK) (to ti : TE) : TG := fun v σ H Q => to σ H fun o H1 => ti σ H1 fun i H2 => ∃ a, o = .ref a ∧ InsT H2 a C ∧ sp [.ref a, i, v] H2 (fun _ H' => Q σ H') (E σ)
theorem pg_subS {o i : Expr} {to ti : TE} (ho : PE X o to) (hi : PE X i ti) (m : Meth X.K C "__setitem__" f) (hns : PySem.W.noSeq X.K C = true) (F : FnOk X.prog X.w X.K X.mg X.base CX k f fd ps sp) (hr : Room k X.A) (hb : Binds X.K fd ps []) (hx : ∀ σ, PassesAt CX X σ (E σ))
    (ha : ∀ v, assign (.Subscript o i pos) X.env v = (do
      let ov ← holding [v] (eval o X.env)
      let iv ← holding [v, ov] (eval i X.env)
      standAt pos
      holding [v, ov, iv] (setItem ov iv v)
      release [v, ov, iv] []) := by intro _; rfl) : PG X (.Subscript o i pos) (gSubS C sp E to ti) := by
  refine ⟨fun pins s σ H v u Q I r h => ?_⟩
  rw [ha]
  refine wpAny_bind (wpAny_holding (thn (ho.run pins s σ H _ I h) fun ov s1 ⟨x, H1, I1, r1, q1⟩ => wpAny_bind (wpAny_holding (thn (hi.run pins s1 σ H1 _ I1 q1) fun iv s2 ⟨y, H2, I2, r2, q2⟩ => ?_))))
  obtain ⟨a, rfl, hin, q⟩ := q2
  cases (show ov = Value.ref a from r1)
  obtain ⟨ox, od, J⟩ := insT_at I2 hin
  obtain ⟨m', fr⟩ := I2.fr
  refine wpAny_bind (wpAny_standAt (wpAny_bind (wpAny_holding (PySem.W.ksp_setItem fr I2.mod.kin J hns m.at_ m.fn (wpAny_mono (run_fnS F hr hb (hx σ) I2 (us := [.ref a, iv, u]) (vs := [.ref a, y, v]) (.cons rfl (.cons r2 (.cons r .nil))) q) (fun u' s' z => ?_) fun _ _ z => z)))))
  obtain ⟨v', H', I', rv, q'⟩ := z
  exact wpAny_release ⟨σ, H', I', q'⟩
end
end KX

set_option Elab.async false
set_option maxRecDepth 100000
set_option maxHeartbeats 2000000
namespace K86
open PySem PySem.Spec PyProof.Rows L2 He KX StX
abbrev sLWri : Stmt := top 25
abbrev sLGot : Stmt := top 26
abbrev sLAsk : Stmt := top 27
def excBody2 : List Stmt → List Stmt
  | .Try _ (_ :: .ExceptHandler _ _ b _ :: _) _ _ _ :: _ => b
  | _ => []
def spWri (K : PySem.W.Frag) : Sp := fun vs H Q _ => ∃ (a : Addr) (rows : List Rw) (x y z : V) (dx dy dz : PyData), vs = [.ref a, x, y, z] ∧ BdAt K H a rows ∧ rows.length ≤ 1000 ∧ ThV big H x dx ∧ ThV big H y dy ∧ ThV big H z dz ∧
  (∀ c t, refD dx dy dz = some (c, t) → ∀ p H', Same H H' → H' p = some (.tup [.str c, .str t]) → Q (.ref p) H') ∧
  ∀ l p r, dx = .str l → dy = .int p → dz = .str r → isNm l = true → isNm r = true → ∀ H', Kept a H H' → BdAt K H' a (putR rows r l p) → BdNew K H H' a → Q .non H'
def spGot (K : PySem.W.Frag) : Sp := fun vs H Q _ => ∃ (a : Addr) (rows : List Rw) (x y : V) (dx dy : PyData), vs = [.ref a, x, y] ∧ BdAt K H a rows ∧ rows.length ≤ 1000 ∧ (∀ y ∈ rows, isNm y.2.1 = true) ∧ ThV big H x dx ∧ ThV big H y dy ∧
  (∀ q, foundD rows dx dy = some q → ∀ H', Same H H' → Q (.str q.2) H') ∧ (foundD rows dx dy = none → ∀ p H', Same H H' → H' p = some (.tup [.str "none", .str dx.shown, .str dy.shown]) → Q (.ref p) H')
def spAsk (K : PySem.W.Frag) : Sp := fun vs H Q _ => ∃ (a : Addr) (rows : List Rw) (x : V) (d : PyData) (r : Int), vs = [.ref a, x, .int r] ∧ BdAt K H a rows ∧ ThV big H x d ∧ isRow rows d = false ∧ ∀ p H', Same H H' → H' p = some (.tup [.str "row", .str d.shown]) → Q (.ref p) H'
section
variable {P : Program} {w : World} {K : PySem.W.Frag} {mg : Str → Option Value} {base : Heap}
theorem pass00 {X : Cx} (σ : L2.St) : PassesAt CX0 X σ E0 := fun _ _ _ _ _ _ z => z.elim
theorem scLWri : FnScope ["board", "lst", "place", "row", "e"] ["board", "lst", "place", "row"] (defScope sLWri) := ⟨rfl, rfl, rfl, by decide +kernel, rfl, by decide +kernel, by decide +kernel⟩
theorem scLGot : FnScope ["board", "lst", "place", "found", "e"] ["board", "lst", "place"] (defScope sLGot) := ⟨rfl, rfl, rfl, by decide +kernel, rfl, by decide +kernel, by decide +kernel⟩
theorem scLAsk : FnScope ["board", "row", "road", "found", "e"] ["board", "row", "road"] (defScope sLAsk) := ⟨rfl, rfl, rfl, by decide +kernel, rfl, by decide +kernel, by decide +kernel⟩
theorem ok_wri {f fC : Addr} {fd fdC fdSet : FuncData} (F : FnP K "_law_written" sLWri f fd) (S : Brd K) (GSet : FnOk P w K mg base (L2N.CX P w) 3 (ma K (ga K "Board") "__setitem__") fdSet ["self", "at", "worth"] (spSetR K)) (bSet : Binds K fdSet ["self", "at", "worth"] [])
    (BN : ErBN K) (BP : ErBP K) (FC : FnP K "_law_class" sLCls fC fdC) (gC : mg "_law_class" = some (.ref fC)) (gPlaceError : mg "PlaceError" = some (.ref (ga K "PlaceError"))) (gMissingError : mg "MissingError" = some (.ref (ga K "MissingError"))) (gBadName : mg "BadName" = some (.ref (ga K "BadName"))) (gBadPlace : mg "BadPlace" = some (.ref (ga K "BadPlace"))) (gNoRow : mg "NoRow" = some (.ref (ga K "NoRow"))) (gNoPlace : mg "NoPlace" = some (.ref (ga K "NoPlace"))) (n_isinstance : mg "isinstance" = none) (n_ValueError : mg "ValueError" = none) (n_LookupError : mg "LookupError" = none) (n_repr : mg "repr" = none) : FnG P w K mg base CX0 4 f fd ["board", "lst", "place", "row"] (spWri K) := by
  refine fnG_ok F scLWri (fun vs H Q E h => ?_) (fun cdv A outer s H vs Q E gg hr h => ?_)
  · obtain ⟨a, rows, x, y, z, dx, dy, dz, rfl, _⟩ := h
    rfl
  · obtain ⟨a, rows, x, y, z, dx, dy, dz, rfl, hB, hlen, hx, hy, hz0, kr, kg⟩ := h
    have nd := scLWri.nd
    have bC : Binds K fdC ["e"] [] := FC.bindsN fun _ _ _ _ _ _ us hl => match us, hl with | [_], _ => rfl
    have hu10 : (A.deeper (envOfC "_law_written" (defScope sLWri) s.heap.objs.size f cdv)).units + 10 < cLine := Nat.lt_of_le_of_lt (Nat.add_le_add_left (by decide) _) hr.units
    refine ⟨_, (by exact (pss_cons (ps_try_ass (i := 4) (tb := fun W => tAsg (tVar 3) (gSubS (ga K "Board") (spSetR K) (WE W) (tVar 0) (tTup (tCons (tVar 1) (tCons (tVar 2) tNil))))) rfl rfl nd rfl rfl
      (fun W pn xe tk _ => pss_one (ps_asg (pv 3) (by exact (pg_subS (pv 0) (pe_tup (pa_cons (pv 1) (pa_cons (pv 2) pa_nil))) (S.mth "__setitem__" (by decide)) S.nos GSet hr bSet (fun σ => L2N.passAt tk σ)))))
      (HdsAs.cons (ts := tsAt _ (excBody (defBody sLWri))) ⟨rfl, by decide, Or.inl gBadName⟩ (fun a oe cls d pn hz hf => tsAt_ok hz hf) (HdsAs.cons (ts := tsAt _ (excBody2 (defBody sLWri))) ⟨rfl, by decide, Or.inl gBadPlace⟩ (fun a oe cls d pn hz hf => tsAt_ok hz hf) .nil))) (pss_one (ps_ret pe_non)))), ?_⟩
    refine ⟨_, rfl, _, rfl, _, rfl, _, rfl, (by show 2 ≤ sizeLine; decide), fun T nT => ?_⟩
    have sT := same_put (o := .tup [x, y]) nT
    have fT : upd H T (.tup [x, y]) T = some (.tup [x, y]) := upd_same
    generalize upd H T (.tup [x, y]) = H1 at sT fT
    obtain ⟨dx0, d0, kvs, ha, hrest⟩ := id hB
    have bn : ∀ (v : V) (dv : PyData) (σ : L2.St), ThV big H v dv → refD dx dy dz = some (("name" : Str), dv.shown) → σ.length = 5 → (σ.set 4 none).length = 5 → True := fun _ _ _ _ _ _ _ => trivial
    refine ⟨a, rfl, ⟨_, _, sT _ _ ha⟩, a, T, rows, x, y, z, dx, dy, dz, rfl, hB.same sT, SqT.of fT, hlen, hx.same sT, hy.same sT, hz0.same sT, fun c1 d H' s1 hd => ?_, fun c1 c2 d H' s1 hd => ?_, fun c1 c2 c3 d H' s1 hd => ?_, fun l p r e1 e2 e3 h1 h2 H' k hB' hN => ?_⟩
    · refine ⟨true, BN.ex ("BadName", true) (by simp), fun _ e ne => ?_, fun z => nomatch z⟩
      have hrI : ∀ (oe : Obj) (pn : List (Addr × Obj)), L2H.RoomH 1 ((cxOf CX0 P w K mg base ["board", "lst", "place", "row", "e"] "_law_written" (defScope sLWri) f cdv A outer s H E).suite e ((e, oe) :: pn)).A := fun oe pn => ⟨(hr.mono (j := 1) (by decide)).dp, (hr.mono (j := 1) (by decide)).un⟩
      apply Exists.intro
      refine And.intro (fun oe pn hz hf => ?t1) ?t2
      case t1 =>
        show PSs _ (_ :: _) _
        have GC : FnP0 (e, oe) P w K mg base CX0 1 fC fdC ["e"] (spCls e d "name") := ok_clsBN (p := (e, oe)) FC BN hz.zc hf gPlaceError gMissingError gBadName gBadPlace gNoRow gNoPlace n_isinstance n_ValueError n_LookupError
        exact (pss_one (ps_ret (pe_tup (pa_cons (pe_callP0 (p := (e, oe)) (E := fun _ => E0) GC (hrI oe pn) (by obtain ⟨vs, hv⟩ := hf; exact ⟨rfl, vs, hv, hz.2.2 vs hv⟩) List.mem_cons_self rfl gC FC.kp bC pass00 (pa_cons (pv 4) pa_nil)) (pa_cons (pe_callB (show CallR _ (.builtin "repr") (rReprD K) from call_reprD gg hu10) (by rfl) n_repr (by decide +kernel) (pa_cons (pe_xf (a := e) (oe := oe) (pn := pn) BN.X (BN.no _ List.mem_cons_self) hz.zc hf (pv 4)) pa_nil)) pa_nil)))))
      case t2 =>
        refine ⟨_, rfl, rfl, ⟨_, hd⟩, _, rfl, rfl, rfl, d, _, _, rfl, hd, rfl, x, dx, rfl, ((hx.same sT).same s1).dp, big_small hx, (by show 2 ≤ sizeLine; decide), fun T2 nT2 => ?_⟩
        exact kr _ _ (by unfold refD; rw [if_neg (by rw [c1]; decide)]) T2 _ ((sT.trans s1).trans (same_put nT2)) upd_same
    · refine ⟨false, BP.ex ("BadName", false) (by simp), (fun z => nomatch z), fun _ => ⟨true, BP.ex ("BadPlace", true) (by simp), fun _ e ne => ?_, fun z => nomatch z⟩⟩
      have hrI : ∀ (oe : Obj) (pn : List (Addr × Obj)), L2H.RoomH 1 ((cxOf CX0 P w K mg base ["board", "lst", "place", "row", "e"] "_law_written" (defScope sLWri) f cdv A outer s H E).suite e ((e, oe) :: pn)).A := fun oe pn => ⟨(hr.mono (j := 1) (by decide)).dp, (hr.mono (j := 1) (by decide)).un⟩
      apply Exists.intro
      refine And.intro (fun oe pn hz hf => ?t1) ?t2
      case t1 =>
        show PSs _ (_ :: _) _
        have GC : FnP0 (e, oe) P w K mg base CX0 1 fC fdC ["e"] (spCls e d "place") := ok_clsBP (p := (e, oe)) FC BP hz.zc hf gPlaceError gMissingError gBadName gBadPlace gNoRow gNoPlace n_isinstance n_ValueError n_LookupError
        exact (pss_one (ps_ret (pe_tup (pa_cons (pe_callP0 (p := (e, oe)) (E := fun _ => E0) GC (hrI oe pn) (by obtain ⟨vs, hv⟩ := hf; exact ⟨rfl, vs, hv, hz.2.2 vs hv⟩) List.mem_cons_self rfl gC FC.kp bC pass00 (pa_cons (pv 4) pa_nil)) (pa_cons (pe_callB (show CallR _ (.builtin "repr") (rReprD K) from call_reprD gg hu10) (by rfl) n_repr (by decide +kernel) (pa_cons (pe_xf (a := e) (oe := oe) (pn := pn) BP.X (BP.no _ List.mem_cons_self) hz.zc hf (pv 4)) pa_nil)) pa_nil)))))
      case t2 =>
        refine ⟨_, rfl, rfl, ⟨_, hd⟩, _, rfl, rfl, rfl, d, _, _, rfl, hd, rfl, y, dy, rfl, ((hy.same sT).same s1).dp, big_small hy, (by show 2 ≤ sizeLine; decide), fun T2 nT2 => ?_⟩
        exact kr _ _ (by unfold refD; rw [if_pos c1, if_neg (by rw [c2]; decide)]) T2 _ ((sT.trans s1).trans (same_put nT2)) upd_same
    · refine ⟨true, BN.ex ("BadName", true) (by simp), fun _ e ne => ?_, fun z => nomatch z⟩
      have hrI : ∀ (oe : Obj) (pn : List (Addr × Obj)), L2H.RoomH 1 ((cxOf CX0 P w K mg base ["board", "lst", "place", "row", "e"] "_law_written" (defScope sLWri) f cdv A outer s H E).suite e ((e, oe) :: pn)).A := fun oe pn => ⟨(hr.mono (j := 1) (by decide)).dp, (hr.mono (j := 1) (by decide)).un⟩
      apply Exists.intro
      refine And.intro (fun oe pn hz hf => ?t1) ?t2
      case t1 =>
        show PSs _ (_ :: _) _
        have GC : FnP0 (e, oe) P w K mg base CX0 1 fC fdC ["e"] (spCls e d "name") := ok_clsBN (p := (e, oe)) FC BN hz.zc hf gPlaceError gMissingError gBadName gBadPlace gNoRow gNoPlace n_isinstance n_ValueError n_LookupError
        exact (pss_one (ps_ret (pe_tup (pa_cons (pe_callP0 (p := (e, oe)) (E := fun _ => E0) GC (hrI oe pn) (by obtain ⟨vs, hv⟩ := hf; exact ⟨rfl, vs, hv, hz.2.2 vs hv⟩) List.mem_cons_self rfl gC FC.kp bC pass00 (pa_cons (pv 4) pa_nil)) (pa_cons (pe_callB (show CallR _ (.builtin "repr") (rReprD K) from call_reprD gg hu10) (by rfl) n_repr (by decide +kernel) (pa_cons (pe_xf (a := e) (oe := oe) (pn := pn) BN.X (BN.no _ List.mem_cons_self) hz.zc hf (pv 4)) pa_nil)) pa_nil)))))
      case t2 =>
        refine ⟨_, rfl, rfl, ⟨_, hd⟩, _, rfl, rfl, rfl, d, _, _, rfl, hd, rfl, z, dz, rfl, ((hz0.same sT).same s1).dp, big_small hz0, (by show 2 ≤ sizeLine; decide), fun T2 nT2 => ?_⟩
        exact kr _ _ (by unfold refD; rw [if_pos c1, if_pos c2, if_neg (by rw [c3]; decide)]) T2 _ ((sT.trans s1).trans (same_put nT2)) upd_same
    · exact kg l p r e1 e2 e3 h1 h2 H' (fun y o ny e => k y o ny (sT _ _ e)) hB' (fun dx d e => free_same sT (hN dx d e))
theorem ok_got {f fC : Addr} {fd fdC fdGet : FuncData} (F : FnP K "_law_got" sLGot f fd) (S : Brd K) (hfn : PySem.W.fnIn K (ma K (ga K "Board") "__getitem__") = true) (GGet : FnOk P w K mg base (L2N.CX P w) 3 (ma K (ga K "Board") "__getitem__") fdGet ["self", "at"] (spGetR K)) (bGet : Binds K fdGet ["self", "at"] [])
    (NP : ErNP K) (FC : FnP K "_law_class" sLCls fC fdC) (gC : mg "_law_class" = some (.ref fC)) (gPlaceError : mg "PlaceError" = some (.ref (ga K "PlaceError"))) (gMissingError : mg "MissingError" = some (.ref (ga K "MissingError"))) (gBadName : mg "BadName" = some (.ref (ga K "BadName"))) (gBadPlace : mg "BadPlace" = some (.ref (ga K "BadPlace"))) (gNoRow : mg "NoRow" = some (.ref (ga K "NoRow"))) (gNoPlace : mg "NoPlace" = some (.ref (ga K "NoPlace"))) (n_isinstance : mg "isinstance" = none) (n_ValueError : mg "ValueError" = none) (n_LookupError : mg "LookupError" = none) (n_repr : mg "repr" = none) : FnG P w K mg base CX0 5 f fd ["board", "lst", "place"] (spGot K) := by
  refine fnG_ok F scLGot (fun vs H Q E h => ?_) (fun cdv A outer s H vs Q E gg hr h => ?_)
  · obtain ⟨a, rows, x, y, dx, dy, rfl, _⟩ := h
    rfl
  · obtain ⟨a, rows, x, y, dx, dy, rfl, hB, hlen, hnm, hx, hy, kq, ke⟩ := h
    have nd := scLGot.nd
    have bC : Binds K fdC ["e"] [] := FC.bindsN fun _ _ _ _ _ _ us hl => match us, hl with | [_], _ => rfl
    have hu10 : (A.deeper (envOfC "_law_got" (defScope sLGot) s.heap.objs.size f cdv)).units + 10 < cLine := Nat.lt_of_le_of_lt (Nat.add_le_add_left (by decide) _) hr.units
    refine ⟨_, (by exact (pss_cons (L2N.ps_try_as (i := 4) (tb := fun W => tAsg (tIxS (ga K "Board") (spGetR K) (WE W) (tVar 0) (tTup (tCons (tVar 1) (tCons (tVar 2) tNil)))) (gName 3)) (ts := tsAt _ (excBody (defBody sLGot))) (Wout := fun _ _ _ _ => False) rfl rfl nd rfl rfl ⟨rfl, by decide, Or.inl gNoPlace⟩ takesN0
      (fun W pn xe tk _ => pss_one (ps_set (i := 3) nd rfl (Or.inl rfl) (by exact (pe_ixOS (S.mth "__getitem__" (by decide)) hfn GGet hr bGet (fun σ => L2N.passAt tk σ) (pv 0) (pe_tup (pa_cons (pv 1) (pa_cons (pv 2) pa_nil)))))))
      (fun a oe cls d pn hz hf => tsAt_ok hz hf)) (pss_one (ps_ret (pv 3))))), ?_⟩
    refine ⟨_, rfl, _, rfl, _, rfl, (by show 2 ≤ sizeLine; decide), fun T nT => ?_⟩
    have sT := same_put (o := .tup [x, y]) nT
    have fT : upd H T (.tup [x, y]) T = some (.tup [x, y]) := upd_same
    generalize upd H T (.tup [x, y]) = H1 at sT fT
    obtain ⟨dx0, d0, kvs, ha, hrest⟩ := id hB
    refine ⟨a, rfl, ⟨_, _, sT _ _ ha⟩, a, T, rows, x, y, dx, dy, rfl, hB.same sT, SqT.of fT, hlen, hnm, hx.same sT, hy.same sT, fun q hq H' s1 => ⟨_, rfl, kq q hq H' (sT.trans s1)⟩, fun hq d H' s1 hd => ⟨true, NP.ex ("NoPlace", true) (by simp), fun _ e ne => ?_, fun z => nomatch z⟩⟩
    have hrI : ∀ (oe : Obj) (pn : List (Addr × Obj)), L2H.RoomH 1 ((cxOf CX0 P w K mg base ["board", "lst", "place", "found", "e"] "_law_got" (defScope sLGot) f cdv A outer s H E).suite e ((e, oe) :: pn)).A := fun oe pn => ⟨(hr.mono (j := 1) (by decide)).dp, (hr.mono (j := 1) (by decide)).un⟩
    apply Exists.intro
    refine And.intro (fun oe pn hz hf => ?t1) ?t2
    case t1 =>
      show PSs _ (_ :: _) _
      have GC : FnP0 (e, oe) P w K mg base CX0 1 fC fdC ["e"] (spCls e d "none") := ok_clsNP (p := (e, oe)) FC NP hz.zc hf gPlaceError gMissingError gBadName gBadPlace gNoRow gNoPlace n_isinstance n_ValueError n_LookupError
      exact (pss_one (ps_ret (pe_tup (pa_cons (pe_callP0 (p := (e, oe)) (E := fun _ => E0) GC (hrI oe pn) (by obtain ⟨vs, hv⟩ := hf; exact ⟨rfl, vs, hv, hz.2.2 vs hv⟩) List.mem_cons_self rfl gC FC.kp bC pass00 (pa_cons (pv 4) pa_nil)) (pa_cons (pe_callB (show CallR _ (.builtin "repr") (rReprD K) from call_reprD gg hu10) (by rfl) n_repr (by decide +kernel) (pa_cons (pe_xf (a := e) (oe := oe) (pn := pn) NP.X (NP.no _ List.mem_cons_self) hz.zc hf (pv 4)) pa_nil)) (pa_cons (pe_callB (show CallR _ (.builtin "repr") (rReprD K) from call_reprD gg hu10) (by rfl) n_repr (by decide +kernel) (pa_cons (pe_xf (a := e) (oe := oe) (pn := pn) NP.X (NP.no _ (List.mem_cons_of_mem _ List.mem_cons_self)) hz.zc hf (pv 4)) pa_nil)) pa_nil))))))
    case t2 =>
      refine ⟨_, rfl, rfl, ⟨_, hd⟩, _, rfl, rfl, rfl, d, _, _, rfl, hd, rfl, x, dx, rfl, ((hx.same sT).same s1).dp, big_small hx, ?_⟩
      refine ⟨_, rfl, rfl, rfl, d, _, _, rfl, hd, rfl, y, dy, rfl, ((hy.same sT).same s1).dp, big_small hy, (by show 3 ≤ sizeLine; decide), fun T2 nT2 => ?_⟩
      exact ke hq T2 _ ((sT.trans s1).trans (same_put nT2)) upd_same
theorem ok_ask {f fC : Addr} {fd fdC fdAt fdDr : FuncData} (F : FnP K "_law_asked" sLAsk f fd) (S : Brd K) (GAt : FnOk P w K mg base (L2N.CX P w) 3 (ma K (ga K "Board") "at") fdAt ["self", "row"] (spMiss K)) (bAt : Binds K fdAt ["self", "row"] [])
    (GDr : FnOk P w K mg base (L2N.CX P w) 3 (ma K (ga K "Board") "drop") fdDr ["self", "row"] (spMiss K)) (bDr : Binds K fdDr ["self", "row"] [])
    (NR : ErNR K) (FC : FnP K "_law_class" sLCls fC fdC) (gC : mg "_law_class" = some (.ref fC)) (gPlaceError : mg "PlaceError" = some (.ref (ga K "PlaceError"))) (gMissingError : mg "MissingError" = some (.ref (ga K "MissingError"))) (gBadName : mg "BadName" = some (.ref (ga K "BadName"))) (gBadPlace : mg "BadPlace" = some (.ref (ga K "BadPlace"))) (gNoRow : mg "NoRow" = some (.ref (ga K "NoRow"))) (gNoPlace : mg "NoPlace" = some (.ref (ga K "NoPlace"))) (n_isinstance : mg "isinstance" = none) (n_ValueError : mg "ValueError" = none) (n_LookupError : mg "LookupError" = none) (n_repr : mg "repr" = none) : FnG P w K mg base CX0 4 f fd ["board", "row", "road"] (spAsk K) := by
  refine fnG_ok F scLAsk (fun vs H Q E h => ?_) (fun cdv A outer s H vs Q E gg hr h => ?_)
  · obtain ⟨a, rows, x, d, r, rfl, _⟩ := h
    rfl
  · obtain ⟨a, rows, x, dd, r, rfl, hB, hx, hno, k⟩ := h
    have nd := scLAsk.nd
    have bC : Binds K fdC ["e"] [] := FC.bindsN fun _ _ _ _ _ _ us hl => match us, hl with | [_], _ => rfl
    have hu10 : (A.deeper (envOfC "_law_asked" (defScope sLAsk) s.heap.objs.size f cdv)).units + 10 < cLine := Nat.lt_of_le_of_lt (Nat.add_le_add_left (by decide) _) hr.units
    refine ⟨_, (by exact (pss_cons (L2N.ps_try_as (i := 4) (tb := fun W => tAsg (tIf _ (tMethS (ga K "Board") "at" (spMiss K) (WE W) (tVar 0) (tCons (tVar 1) tNil)) (tMethS (ga K "Board") "drop" (spMiss K) (WE W) (tVar 0) (tCons (tVar 1) tNil))) (gName 3)) (ts := tsAt _ (excBody (defBody sLAsk))) (Wout := fun _ _ _ _ => False) rfl rfl nd rfl rfl ⟨rfl, by decide, Or.inl gNoRow⟩ takesN0
      (fun W pn xe tk _ => pss_one (ps_set (i := 3) nd rfl (Or.inl rfl) (by exact (pe_ifExp (pt_cmpR op_eq (pv 2) pe_int (nomark _)) (pe_methE (pv 0) S.cls (S.mth "at" (by decide)) GAt hr bAt (fun σ => L2N.passAt tk σ) (pa_cons (pv 1) pa_nil)) (pe_methE (pv 0) S.cls (S.mth "drop" (by decide)) GDr hr bDr (fun σ => L2N.passAt tk σ) (pa_cons (pv 1) pa_nil))))))
      (fun a oe cls d pn hz hf => tsAt_ok hz hf)) (pss_one (ps_ret (pv 3))))), ?_⟩
    obtain ⟨dx0, d0, kvs, ha, hrest⟩ := id hB
    refine ⟨_, rfl, rfl, _, rfl, ite2' (fun c => ?_) (fun c => ?_)⟩
    · refine ⟨_, rfl, a, dx0, _, rfl, ha, rfl, _, rfl, a, rows, x, dd, rfl, hB, hx, hno, fun d H' s1 hd => ⟨true, NR.ex ("NoRow", true) (by simp), fun _ e ne => ?_, fun z => nomatch z⟩⟩
      have hrI : ∀ (oe : Obj) (pn : List (Addr × Obj)), L2H.RoomH 1 ((cxOf CX0 P w K mg base ["board", "row", "road", "found", "e"] "_law_asked" (defScope sLAsk) f cdv A outer s H E).suite e ((e, oe) :: pn)).A := fun oe pn => ⟨(hr.mono (j := 1) (by decide)).dp, (hr.mono (j := 1) (by decide)).un⟩
      apply Exists.intro
      refine And.intro (fun oe pn hz hf => ?t1) ?t2
      case t1 =>
        show PSs _ (_ :: _) _
        have GC : FnP0 (e, oe) P w K mg base CX0 1 fC fdC ["e"] (spCls e d "row") := ok_clsNR (p := (e, oe)) FC NR hz.zc hf gPlaceError gMissingError gBadName gBadPlace gNoRow gNoPlace n_isinstance n_ValueError n_LookupError
        exact (pss_one (ps_ret (pe_tup (pa_cons (pe_callP0 (p := (e, oe)) (E := fun _ => E0) GC (hrI oe pn) (by obtain ⟨vs, hv⟩ := hf; exact ⟨rfl, vs, hv, hz.2.2 vs hv⟩) List.mem_cons_self rfl gC FC.kp bC pass00 (pa_cons (pv 4) pa_nil)) (pa_cons (pe_callB (show CallR _ (.builtin "repr") (rReprD K) from call_reprD gg hu10) (by rfl) n_repr (by decide +kernel) (pa_cons (pe_xf (a := e) (oe := oe) (pn := pn) NR.X (NR.no _ List.mem_cons_self) hz.zc hf (pv 4)) pa_nil)) pa_nil)))))
      case t2 =>
        refine ⟨_, rfl, rfl, ⟨_, hd⟩, _, rfl, rfl, rfl, d, _, _, rfl, hd, rfl, x, dd, rfl, (hx.same s1).dp, big_small hx, (by show 2 ≤ sizeLine; decide), fun T2 nT2 => ?_⟩
        exact k T2 _ (s1.trans (same_put nT2)) upd_same
    · refine ⟨_, rfl, a, dx0, _, rfl, ha, rfl, _, rfl, a, rows, x, dd, rfl, hB, hx, hno, fun d H' s1 hd => ⟨true, NR.ex ("NoRow", true) (by simp), fun _ e ne => ?_, fun z => nomatch z⟩⟩
      have hrI : ∀ (oe : Obj) (pn : List (Addr × Obj)), L2H.RoomH 1 ((cxOf CX0 P w K mg base ["board", "row", "road", "found", "e"] "_law_asked" (defScope sLAsk) f cdv A outer s H E).suite e ((e, oe) :: pn)).A := fun oe pn => ⟨(hr.mono (j := 1) (by decide)).dp, (hr.mono (j := 1) (by decide)).un⟩
      apply Exists.intro
      refine And.intro (fun oe pn hz hf => ?t1) ?t2
      case t1 =>
        show PSs _ (_ :: _) _
        have GC : FnP0 (e, oe) P w K mg base CX0 1 fC fdC ["e"] (spCls e d "row") := ok_clsNR (p := (e, oe)) FC NR hz.zc hf gPlaceError gMissingError gBadName gBadPlace gNoRow gNoPlace n_isinstance n_ValueError n_LookupError
        exact (pss_one (ps_ret (pe_tup (pa_cons (pe_callP0 (p := (e, oe)) (E := fun _ => E0) GC (hrI oe pn) (by obtain ⟨vs, hv⟩ := hf; exact ⟨rfl, vs, hv, hz.2.2 vs hv⟩) List.mem_cons_self rfl gC FC.kp bC pass00 (pa_cons (pv 4) pa_nil)) (pa_cons (pe_callB (show CallR _ (.builtin "repr") (rReprD K) from call_reprD gg hu10) (by rfl) n_repr (by decide +kernel) (pa_cons (pe_xf (a := e) (oe := oe) (pn := pn) NR.X (NR.no _ List.mem_cons_self) hz.zc hf (pv 4)) pa_nil)) pa_nil)))))
      case t2 =>
        refine ⟨_, rfl, rfl, ⟨_, hd⟩, _, rfl, rfl, rfl, d, _, _, rfl, hd, rfl, x, dd, rfl, (hx.same s1).dp, big_small hx, (by show 2 ≤ sizeLine; decide), fun T2 nT2 => ?_⟩
        exact k T2 _ (s1.trans (same_put nT2)) upd_same
end
end K86

set_option Elab.async false
set_option maxRecDepth 100000
set_option maxHeartbeats 2000000
/-! The order of pairs (place, row); the first row at a place: no Lean of the program. -/
namespace K86
open PySem PySem.Spec PyProof.Rows L2 He KX
theorem nodup_of {α β : Type} {f : α → β} {l : List α} (h : (l.map f).Nodup) : l.Nodup := List.Pairwise.of_map f (fun _ _ hne e => hne (congrArg f e)) h
def leP (a b : Pr) : Bool := decide (a.1 < b.1 ∨ (a.1 = b.1 ∧ a.2.cps.toList ≤ b.2.cps.toList))
theorem cps_inj {a b : Str} (h : a.cps.toList = b.cps.toList) : a = b := by
  obtain ⟨x⟩ := a
  obtain ⟨y⟩ := b
  exact congrArg Str.mk (Array.toList_inj.mp h)
theorem le_pr : (PySem.W.dataLe false prD : Pr → Pr → Bool) = leP := by
  funext p q
  show (!PySem.W.dataLt (.tuple [.int q.1, .str q.2]) (.tuple [.int p.1, .str p.2])) = _
  rw [PySem.W.dataLt_pair (by simp [PySem.W.alike]) (by simp [PySem.W.alike]), PySem.W.dataLt_int, PySem.W.dataLt_str]
  simp only [PyData.eqv, beq_iff_eq]
  unfold leP
  by_cases h1 : q.1 = p.1
  · rw [if_pos h1]
    by_cases h2 : q.2 = p.2
    · rw [if_pos h2]
      simp [h1, h2]
    · rw [if_neg h2, PySem.W.not_lt_str]
      simp [h1]
  · rw [if_neg h1, PySem.W.not_lt_int]
    have h3 : ¬ p.1 = q.1 := fun e => h1 e.symm
    by_cases h4 : p.1 ≤ q.1
    · have : p.1 < q.1 := by omega
      simp [h4, this]
    · have : ¬ p.1 < q.1 := by omega
      simp [h3, h4, this]
theorem leP_trans (a b c : Pr) (h1 : leP a b = true) (h2 : leP b c = true) : leP a c = true := by
  have h1 := of_decide_eq_true h1
  have h2 := of_decide_eq_true h2
  refine decide_eq_true ?_
  rcases h1 with h1 | ⟨h1, h1'⟩ <;> rcases h2 with h2 | ⟨h2, h2'⟩
  · exact .inl (by omega)
  · exact .inl (by omega)
  · exact .inl (by omega)
  · exact .inr ⟨by omega, List.le_trans h1' h2'⟩
theorem leP_total (a b : Pr) : (leP a b || leP b a) = true := by
  rw [Bool.or_eq_true]
  unfold leP
  rcases Int.lt_trichotomy a.1 b.1 with h | h | h
  · exact .inl (decide_eq_true (.inl h))
  · rcases List.le_total a.2.cps.toList b.2.cps.toList with q | q
    · exact .inl (decide_eq_true (.inr ⟨h, q⟩))
    · exact .inr (decide_eq_true (.inr ⟨h.symm, q⟩))
  · exact .inr (decide_eq_true (.inl h))
theorem leP_anti (a b : Pr) (h1 : leP a b = true) (h2 : leP b a = true) : a = b := by
  have h1 := of_decide_eq_true h1
  have h2 := of_decide_eq_true h2
  have e : a.1 = b.1 := by omega
  have q1 : a.2.cps.toList ≤ b.2.cps.toList := by
    rcases h1 with h | h
    · omega
    · exact h.2
  have q2 : b.2.cps.toList ≤ a.2.cps.toList := by
    rcases h2 with h | h
    · omega
    · exact h.2
  exact Prod.ext e (cps_inj (List.le_antisymm q1 q2))
/-- a list that is in order and holds the same things is the sorted one -/
theorem srt_is {qs zs : List Pr} (h : qs.Perm zs) (hz : zs.Pairwise fun a b => leP a b = true) : srtP qs = zs := by
  unfold srtP
  rw [le_pr]
  exact ((List.mergeSort_perm qs leP).trans h).eq_of_pairwise (fun a b _ _ h1 h2 => leP_anti a b h1 h2) (List.pairwise_mergeSort leP_trans leP_total qs) hz
/-- the row of this name stands at this spot -/
def atSpot (rows : List Rw) (dx dy : PyData) (z : Str) : Bool := rows.any fun x => decide (x.1 = z) && (PyData.eqv (.str x.2.1) dx && PyData.eqv (.int x.2.2) dy)
def nmsAt (rows : List Rw) (dx dy : PyData) : List Str := ((rows.map (·.1)).mergeSort leS).filter (atSpot rows dx dy)
theorem find_head {α : Type} (p : α → Bool) : ∀ l : List α, l.find? p = (l.filter p).head?
  | [] => rfl
  | x :: l => by
    rw [List.find?_cons, List.filter_cons]
    cases h : p x with
    | true => rfl
    | false => exact find_head p l
theorem prsD_mem {rows : List Rw} {dx : PyData} {q : Int} {z : Str} : (q, z) ∈ prsD rows dx ↔ ∃ x ∈ rows, x.1 = z ∧ x.2.2 = q ∧ PyData.eqv (.str x.2.1) dx = true := by
  have none : ∀ d : PyData, (∀ l, d ≠ .str l) → ((q, z) ∈ prsD rows d ↔ ∃ x ∈ rows, x.1 = z ∧ x.2.2 = q ∧ PyData.eqv (.str x.2.1) d = true) := fun d h => by
    have e1 : prsD rows d = [] := by cases d <;> first | rfl | exact absurd rfl (h _)
    rw [e1]
    refine ⟨fun h => absurd h (by simp), fun ⟨x, _, _, _, e⟩ => ?_⟩
    rw [eqv_str] at e
    cases d <;> first | exact absurd rfl (h _) | cases e
  cases dx with
  | str l =>
    show (q, z) ∈ prsL rows l ↔ _
    unfold prsL
    rw [List.mem_map]
    constructor
    · rintro ⟨x, hx, e⟩
      obtain ⟨h1, h2⟩ := List.mem_filter.mp hx
      injection e with e1 e2
      exact ⟨x, h1, e2, e1, by rw [eqv_str]; exact h2⟩
    · rintro ⟨x, hx, e1, e2, e3⟩
      rw [eqv_str] at e3
      exact ⟨x, List.mem_filter.mpr ⟨hx, e3⟩, by rw [e1, e2]⟩
  | _ => exact none _ (fun _ z => nomatch z)
theorem prsD_nodup {rows : List Rw} (h : (rows.map (·.1)).Nodup) (dx : PyData) : ((prsD rows dx).map (·.2)).Nodup := by
  cases dx with
  | str l =>
    show ((prsL rows l).map (·.2)).Nodup
    unfold prsL
    rw [List.map_map]
    exact List.Nodup.sublist (List.Sublist.map _ List.filter_sublist) h
  | _ => exact List.nodup_nil
theorem found_names {rows : List Rw} (h : (rows.map (·.1)).Nodup) (dx : PyData) (q : Int) : ((srtP (prsD rows dx)).find? fun x => decide (x.1 = q)).map (·.2) = (nmsAt rows dx (.int q)).head? := by
  rw [find_head, ← List.head?_map]
  congr 1
  have hs : (srtP (prsD rows dx)).Pairwise (fun a b => leP a b = true) := by
    unfold srtP
    rw [le_pr]
    exact List.pairwise_mergeSort leP_trans leP_total _
  have hp : (srtP (prsD rows dx)).Perm (prsD rows dx) := List.mergeSort_perm _ _
  refine one_order ?_ ?_ ?_ ?_ ?_
  · refine List.pairwise_map.mpr ((List.Pairwise.and_mem.mp (hs.filter _)).imp ?_)
    rintro a b ⟨ha, hb, hab⟩
    have e1 := of_decide_eq_true (List.mem_filter.mp ha).2
    have e2 := of_decide_eq_true (List.mem_filter.mp hb).2
    rw [leS_iff]
    refine decide_eq_true ?_
    rcases of_decide_eq_true hab with c | ⟨_, c⟩
    · omega
    · exact c
  · exact (List.pairwise_mergeSort leS_trans leS_total _).filter _
  · exact List.Nodup.sublist (List.Sublist.map _ List.filter_sublist) (((hp.map _).nodup_iff).mpr (prsD_nodup h dx))
  · exact ((List.mergeSort_perm _ leS).nodup_iff.mpr h).filter _
  · intro z
    unfold nmsAt atSpot
    rw [List.mem_map, List.mem_filter, List.mem_mergeSort, List.any_eq_true]
    constructor
    · rintro ⟨⟨p, r⟩, hx, rfl⟩
      obtain ⟨h1, h2⟩ := List.mem_filter.mp hx
      obtain rfl : p = q := of_decide_eq_true h2
      obtain ⟨y, hy, e1, e2, e3⟩ := prsD_mem.mp (hp.mem_iff.mp h1)
      refine ⟨List.mem_map.mpr ⟨y, hy, e1⟩, y, hy, ?_⟩
      rw [decide_eq_true e1, e3]
      show (y.2.2 == p) = true
      rw [e2]
      exact beq_self_eq_true p
    · rintro ⟨_, y, hy, e⟩
      obtain ⟨e1, e⟩ := Bool.and_eq_true_iff.mp e
      obtain ⟨e2, e3⟩ := Bool.and_eq_true_iff.mp e
      have e3 : y.2.2 = q := beq_iff_eq.mp e3
      exact ⟨(q, z), List.mem_filter.mpr ⟨hp.mem_iff.mpr (prsD_mem.mpr ⟨y, hy, of_decide_eq_true e1, e3, e2⟩), decide_eq_true rfl⟩, rfl⟩
end K86

set_option Elab.async false
set_option maxRecDepth 100000
set_option maxHeartbeats 2000000
namespace K86
open PySem PySem.Spec PyProof.Rows L2 He KX
/-- a turn of the law, the board and the dict each with its own rows -/
structure SB (K : PySem.W.Frag) (H0 G : Hp) (b a md L N : Addr) (ls nms : List Str) (rB rM : List Rw) (n : Int) : Prop where
  bag : Bag G b n
  bd : BdAt K G a rB
  mdl : MdAt G md rM
  sep : ∀ dx d, G a = some (.ins (ga K "Board") dx [("_spots", V.ref d)]) → d ≠ md
  hl : G L = some (.lst (ls.map V.str))
  hn : G N = some (.lst (nms.map V.str))
  lb : L ≠ b
  nb : N ≠ b
  kept : Same H0 G
  fb : H0 b = none
  fa : H0 a = none
  fm : H0 md = none
section
variable {K : PySem.W.Frag} {H0 G G' : Hp} {b a md L N x : Addr} {ls nms : List Str} {rB rM : List Rw} {n n' : Int}
theorem SB.gen (h : SB K H0 G b a md L N ls nms rB rM n) (k : Kept x G G') (hb : b ≠ x) (ha : a ≠ x) (hm : md ≠ x) (hL : L ≠ x) (hN : N ≠ x) (hxt : ∀ zs, G x ≠ some (.tup zs)) (hxd : ∀ dx d, G a = some (.ins (ga K "Board") dx [("_spots", V.ref d)]) → d ≠ x) (fx : H0 x = none) : SB K H0 G' b a md L N ls nms rB rM n := by
  obtain ⟨d, m, c, e, r⟩ := h.bag
  obtain ⟨dx, d', kvs, ea, ed, eE, eN⟩ := id h.bd
  refine ⟨⟨d, m, c, k _ _ hb e, r⟩, ⟨dx, d', kvs, k _ _ ha ea, k _ _ (hxd _ _ ea) ed, pr_imp (fun _ _ z => z.kept k hxt) eE, eN⟩, h.mdl.kept k hm hxt, fun dx2 d2 z => ?_, k _ _ hL h.hl, k _ _ hN h.hn, h.lb, h.nb, fun y o z => k _ _ (ne_of_none z fx) (h.kept _ _ z), h.fb, h.fa, h.fm⟩
  rw [k _ _ ha ea] at z
  cases z
  exact h.sep dx d' ea
theorem SB.same (h : SB K H0 G b a md L N ls nms rB rM n) (s : Same G G') : SB K H0 G' b a md L N ls nms rB rM n := by
  obtain ⟨d, m, c, e, r⟩ := h.bag
  obtain ⟨dx, d', kvs, ea, ed, eE, eN⟩ := id h.bd
  refine ⟨⟨d, m, c, s _ _ e, r⟩, h.bd.same s, h.mdl.same s, fun dx2 d2 z => ?_, s _ _ h.hl, s _ _ h.hn, h.lb, h.nb, h.kept.trans s, h.fb, h.fa, h.fm⟩
  rw [s _ _ ea] at z
  cases z
  exact h.sep dx d' ea
theorem SB.mono (h : SB K H0 G b a md L N ls nms rB rM n) (hn : n ≤ n') : SB K H0 G b a md L N ls nms rB rM n' := ⟨h.bag.mono hn, h.bd, h.mdl, h.sep, h.hl, h.hn, h.lb, h.nb, h.kept, h.fb, h.fa, h.fm⟩
theorem SB.draw (h : SB K H0 G b a md L N ls nms rB rM n) (k : But b G G') (hB : Bag G' b n') : SB K H0 G' b a md L N ls nms rB rM n' := by
  obtain ⟨xs, e⟩ := bag_lst h.bag
  obtain ⟨dx, d', kvs, ea, ed, eE, eN⟩ := id h.bd
  obtain ⟨kvm, hm, hmE, hmN⟩ := id h.mdl
  have kk := k.kept
  have ht : ∀ zs, G b ≠ some (.tup zs) := fun zs z => by rw [e] at z; cases z
  have hab : a ≠ b := fun z => by rw [z, e] at ea; cases ea
  have hdb : d' ≠ b := fun z => by rw [z, e] at ed; cases ed
  have hmb : md ≠ b := fun z => by rw [z, e] at hm; cases hm
  refine ⟨hB, ⟨dx, d', kvs, kk _ _ hab ea, kk _ _ hdb ed, pr_imp (fun _ _ z => z.kept kk ht) eE, eN⟩, h.mdl.kept kk hmb ht, fun dx2 d2 z => h.sep dx2 d2 ((k a hab).symm.trans z), kk _ _ h.lb h.hl, kk _ _ h.nb h.hn, h.lb, h.nb, fun y o z => kk _ _ (ne_of_none z h.fb) (h.kept _ _ z), h.fb, h.fa, h.fm⟩
theorem SB.brd {rB' : List Rw} (h : SB K H0 G b a md L N ls nms rB rM n) (k : Kept a G G') (hB : BdAt K G' a rB') (hN : ∀ dx d, G' a = some (.ins (ga K "Board") dx [("_spots", V.ref d)]) → G d = none ∨ G' a = G a) : SB K H0 G' b a md L N ls nms rB' rM n := by
  obtain ⟨dx, d', kvs, ea, ed, eE, eN⟩ := id h.bd
  obtain ⟨kvm, hm, hmE, hmN⟩ := id h.mdl
  obtain ⟨d, m, c, e, r⟩ := h.bag
  have ht : ∀ zs, G a ≠ some (.tup zs) := fun zs z => by rw [ea] at z; cases z
  have hba : b ≠ a := fun z => by rw [z, ea] at e; cases e
  have hma : md ≠ a := fun z => by rw [z, ea] at hm; cases hm
  have hLa : L ≠ a := fun z => by have := h.hl; rw [z, ea] at this; cases this
  have hNa : N ≠ a := fun z => by have := h.hn; rw [z, ea] at this; cases this
  refine ⟨⟨d, m, c, k _ _ hba e, r⟩, hB, h.mdl.kept k hma ht, fun dx2 d2 z => ?_, k _ _ hLa h.hl, k _ _ hNa h.hn, h.lb, h.nb, fun y o z => k _ _ (ne_of_none z h.fa) (h.kept _ _ z), h.fb, h.fa, h.fm⟩
  rcases hN dx2 d2 z with q | q
  · rintro rfl
    rw [hm] at q
    cases q
  · exact h.sep dx2 d2 (q.symm.trans z)
theorem SB.put {r l : Str} {p : Int} {t : Addr} (h : SB K H0 G b a md L N ls nms rB rM n) (ht : G t = some (.tup [V.str l, V.int p])) :
    ∃ kvs, G md = some (.dK kvs) ∧ kvs.length = rM.length ∧ SB K H0 (upd G md (.dK (putK kvs (.inr r) (V.ref t)))) b a md L N ls nms rB (putR rM r l p) n := by
  obtain ⟨dx, d', kvs, ea, ed, eE, eN⟩ := id h.bd
  obtain ⟨kvm, hm, hmE, hmN⟩ := id h.mdl
  obtain ⟨d, m, c, e, rr⟩ := h.bag
  have ham : a ≠ md := fun z => by rw [z, hm] at ea; cases ea
  have hbm : b ≠ md := fun z => by rw [z, hm] at e; cases e
  have hLm : L ≠ md := fun z => by have := h.hl; rw [z, hm] at this; cases this
  have hNm : N ≠ md := fun z => by have := h.hn; rw [z, hm] at this; cases this
  have ne : ∀ y zs, G y = some (.tup zs) → y ≠ md := fun y zs z q => by rw [q, hm] at z; cases z
  have mv : ∀ (kv : Key × V) (y : Rw), Ent G kv y → Ent (upd G md (.dK (putK kvm (.inr r) (V.ref t)))) kv y := fun kv y z => ⟨z.k, z.v.imp fun t h => ⟨h.1, (upd_ne (ne _ _ h.2)).trans h.2⟩⟩
  refine ⟨kvm, hm, hmE.len, ⟨⟨d, m, c, (upd_ne hbm).trans e, rr⟩, ⟨dx, d', kvs, (upd_ne ham).trans ea, (upd_ne (h.sep _ _ ea)).trans ed, pr_imp mv eE, eN⟩, ⟨_, upd_same, Ents.put (pr_imp mv hmE) ((upd_ne (ne _ _ ht)).trans ht), putR_names _ _ _ _ hmN⟩, fun dx2 d2 z => h.sep dx2 d2 ((upd_ne ham).symm.trans z), (upd_ne hLm).trans h.hl, (upd_ne hNm).trans h.hn, h.lb, h.nb, fun y o z => (upd_ne (ne_of_none z h.fm)).trans (h.kept _ _ z), h.fb, h.fa, h.fm⟩⟩
theorem SB.drawK (h : SB K H0 G b a md L N ls nms rB rM n) (kk : Kept b G G') (hB : Bag G' b n') : SB K H0 G' b a md L N ls nms rB rM n' := by
  obtain ⟨xs, e⟩ := bag_lst h.bag
  obtain ⟨dx, d', kvs, ea, ed, eE, eN⟩ := id h.bd
  obtain ⟨kvm, hm, hmE, hmN⟩ := id h.mdl
  have ht : ∀ zs, G b ≠ some (.tup zs) := fun zs z => by rw [e] at z; cases z
  have hab : a ≠ b := fun z => by rw [z, e] at ea; cases ea
  have hdb : d' ≠ b := fun z => by rw [z, e] at ed; cases ed
  have hmb : md ≠ b := fun z => by rw [z, e] at hm; cases hm
  refine ⟨hB, ⟨dx, d', kvs, kk _ _ hab ea, kk _ _ hdb ed, pr_imp (fun _ _ z => z.kept kk ht) eE, eN⟩, h.mdl.kept kk hmb ht, fun dx2 d2 z => ?_, kk _ _ h.lb h.hl, kk _ _ h.nb h.hn, h.lb, h.nb, fun y o z => kk _ _ (ne_of_none z h.fb) (h.kept _ _ z), h.fb, h.fa, h.fm⟩
  rw [kk _ _ hab ea] at z
  cases z
  exact h.sep dx d' ea
theorem cut_to6 (zs : List Str) : cutV (zs.map V.str) none (some 6) = (zs.take 6).map V.str := by
  unfold cutV
  rw [show HT.sIx (zs.map V.str).length 0 none = 0 from rfl, show HT.sIx (zs.map V.str).length (zs.map V.str).length (some 6) = min 6 (zs.map V.str).length from HT.sIx_nat _ _ 6, List.drop_zero, Nat.sub_zero, ← List.take_eq_take_min, List.map_take]
theorem th_draw {m : Nat} {v : V} {d : PyData} (h : ThV m G v d) (hB : Bag G b n) (k : Kept b G G') : ThV m G' v d := by
  obtain ⟨db, mb, cb, eb, _⟩ := hB
  refine h.but k fun o ho e => ?_
  rw [eb] at e
  obtain rfl := Option.some.inj e
  rcases ho with h | h | h | h | h | ⟨q, h⟩ <;> cases h
theorem th_brd {m : Nat} {v : V} {d : PyData} (h : ThV m G v d) (hB : BdAt K G a rB) (k : Kept a G G') : ThV m G' v d := by
  obtain ⟨dx, d0, kvs, ea, _⟩ := hB
  refine h.but k fun o ho e => ?_
  rw [ea] at e
  obtain rfl := Option.some.inj e
  rcases ho with h | h | h | h | h | ⟨q, h⟩ <;> cases h
theorem th_put {m : Nat} {v : V} {d : PyData} {kvs : List (Key × V)} {o' : HO} (h : ThV m G v d) (hm : G md = some (.dK kvs)) : ThV m (upd G md o') v d := by
  refine h.but (b := md) (fun x o n e => (upd_ne n).trans e) fun o ho e => ?_
  rw [hm] at e
  obtain rfl := Option.some.inj e
  rcases ho with h | h | h | h | h | ⟨q, h⟩ <;> cases h
theorem ST.sb {n : Int} {rows : List Rw} (h : ST K H0 G b a md L N ls nms rows n) : SB K H0 G b a md L N ls nms rows rows n := ⟨h.bag, h.bd, h.mdl, h.sep, h.hl, h.hn, h.lb, h.nb, h.kept, h.fb, h.fa, h.fm⟩
end
end K86

set_option Elab.async false
set_option maxRecDepth 100000
set_option maxHeartbeats 2000000
namespace K86
open PySem PySem.Spec PyProof.Rows L2 He KX
-- ["script", "at", "bag", "lists", "names", "board", "model", "name", "turn", "lst", "place", "row", "there", "spot", "whole", "rows", "wanted", "road"]
def spLaw (K : PySem.W.Frag) : Sp := fun vs H Q _ => ∃ (a : Addr) (ns : List Int), vs = [.ref a] ∧ SqL K H a (ns.map V.int) ∧ ns.length ≤ 63 ∧ ∀ H', Q (.bl true) H'
section
variable {P : Program} {w : World} {K : PySem.W.Frag} {mg : Str → Option Value} {base : Heap}
theorem scLaw : FnScope ["script", "at", "bag", "lists", "names", "board", "model", "name", "turn", "lst", "place", "row", "there", "spot", "whole", "rows", "wanted", "road"] ["script"] (defScope sLaw) := ⟨rfl, rfl, rfl, by decide +kernel, rfl, by decide +kernel, by decide +kernel⟩
theorem in_put {rows : List Rw} {r l : Str} {p : Int} {ls : List Str} (h : ∀ x ∈ rows, x.2.1 ∈ ls) (hl : l ∈ ls) : ∀ x ∈ putR rows r l p, x.2.1 ∈ ls := by
  intro x hx
  unfold putR at hx
  split at hx
  · obtain ⟨y, hy, rfl⟩ := List.mem_map.mp hx
    split
    · exact hl
    · exact h y hy
  · rcases List.mem_append.mp hx with hx | hx
    · exact h x hx
    · rw [List.mem_singleton.mp hx]
      exact hl
theorem okN_put {rows : List Rw} {r l : Str} {p : Int} (h : ∀ x ∈ rows, okN x) (h1 : isNm r = true) (h2 : isNm l = true) : ∀ x ∈ putR rows r l p, okN x := by
  intro x hx
  unfold putR at hx
  split at hx
  · obtain ⟨y, hy, rfl⟩ := List.mem_map.mp hx
    split
    · exact ⟨(h y hy).1, h2⟩
    · exact h y hy
  · rcases List.mem_append.mp hx with hx | hx
    · exact h x hx
    · rw [List.mem_singleton.mp hx]
      exact ⟨h1, h2⟩
theorem gen_q {A : (Bool → Hp → Prop) → Prop} {P Q : Bool → Hp → Prop} (h2 : ∀ c H1, P c H1 → Q c H1) (h1 : ∀ Q, (∀ c H1, P c H1 → Q c H1) → A Q) : A Q := h1 Q h2
theorem gen_v {A : VK → Prop} {P Q : V → Hp → Prop} (h2 : ∀ v G, P v G → Q v G) (h1 : ∀ Q : V → Hp → Prop, (∀ v G, P v G → Q v G) → A Q) : A Q := h1 Q h2
theorem key_put {rows : List Rw} {r l : Str} {p : Int} {nms : List Str} (h : ∀ x ∈ rows, x.1 ∈ nms) (hr : r ∈ nms) : ∀ x ∈ putR rows r l p, x.1 ∈ nms := by
  intro x hx
  unfold putR at hx
  split at hx
  · obtain ⟨y, hy, rfl⟩ := List.mem_map.mp hx
    split
    · exact h y hy
    · exact h y hy
  · rcases List.mem_append.mp hx with hx | hx
    · exact h x hx
    · rw [List.mem_singleton.mp hx]
      exact hr
theorem put_mem (rows : List Rw) (r l : Str) (p : Int) : (r, l, p) ∈ putR rows r l p := by
  unfold putR
  split
  · rename_i h
    obtain ⟨x, hx, e⟩ := List.any_eq_true.mp h
    exact List.mem_map.mpr ⟨x, hx, by rw [if_pos (of_decide_eq_true e), of_decide_eq_true e]⟩
  · exact List.mem_append.mpr (.inr (by simp))
theorem seq_by {A B : TS} {D : Ends} {σ : L2.St} {H : Hp} (R : L2.St → Hp → Prop) (h2 : ∀ σ H, R σ H → B D σ H) (h1 : (∀ σ H, R σ H → B D σ H) → A { D with nx := fun σ H => B D σ H } σ H) : tSeq A B D σ H := h1 h2
theorem pair_shp {c t : Str} (hc : PyData.strOk c = true) (ht : PyData.strOk t = true) : SeqAt.shaped (.tuple [.str c, .str t]) = true := by
  refine Bool.and_eq_true_iff.mpr ⟨?_, decide_eq_true (by show 0 + 1 ≤ 64; decide)⟩
  show (PyData.strOk c && (PyData.strOk t && true)) = true
  rw [hc, ht]
  rfl
theorem refD_ok {H : Hp} {x y z : V} {dx dy dz : PyData} {c t : Str} (hx : ThV big H x dx) (hy : ThV big H y dy) (hz : ThV big H z dz) (e : refD dx dy dz = some (c, t)) : PyData.strOk c = true ∧ PyData.strOk t = true := by
  unfold refD at e
  split at e
  · split at e
    · split at e
      · cases e
      · cases e; exact ⟨by decide +kernel, hz.text⟩
    · cases e; exact ⟨by decide +kernel, hy.text⟩
  · cases e; exact ⟨by decide +kernel, hx.text⟩
theorem refD_none {l r : Str} {p : Int} (h1 : isNm l = true) (h2 : isNm r = true) : refD (.str l) (.int p) (.str r) = none := by
  unfold refD
  rw [if_pos (show nmD (.str l) = true from h1), if_pos (show isIntD (.int p) = true from rfl), if_pos (show nmD (.str r) = true from h2)]
theorem th_str {m : Nat} {G : Hp} {v : V} {z : Str} (h : ThV m G v (.str z)) : v = V.str z := by
  have := h.dp (K := ([] : PySem.W.Frag))
  cases this
  rfl
theorem th_lay {m : Nat} {H : Hp} {v : V} {d : PyData} (h : ThV m H v d) : d.canLay0 = true ∧ d.depth ≤ 2 := by
  rcases h with ⟨h, _⟩ | ⟨_, _, _, rfl⟩ | ⟨_, _, _, rfl⟩ | ⟨_, _, _, rfl⟩ | ⟨_, _, _, rfl⟩ | ⟨_, _, _, _, _, rfl⟩
  · exact ⟨(sc_lay h).1, Nat.le_trans (sc_lay h).2 (by decide)⟩
  all_goals exact ⟨by decide +kernel, by decide +kernel⟩
theorem two_shp {d e : PyData} (h1 : d.canLay0 = true ∧ d.depth ≤ 2) (h2 : e.canLay0 = true ∧ e.depth ≤ 2) : SeqAt.shaped (.tuple [d, e]) = true := by
  refine Bool.and_eq_true_iff.mpr ⟨?_, decide_eq_true ?_⟩
  · show (d.canLay0 && (e.canLay0 && true)) = true
    rw [h1.1, h2.1]
    rfl
  · show max d.depth (max e.depth 0) + 1 ≤ 64
    omega
theorem three_shp {c s t : Str} (hc : PyData.strOk c = true) (hs : PyData.strOk s = true) (ht : PyData.strOk t = true) : SeqAt.shaped (.tuple [.str c, .str s, .str t]) = true := by
  refine Bool.and_eq_true_iff.mpr ⟨?_, decide_eq_true (by show 0 + 1 ≤ 64; decide)⟩
  show (PyData.strOk c && (PyData.strOk s && (PyData.strOk t && true))) = true
  rw [hc, hs, ht]
  rfl
theorem nil_ne (ds : List PyData) : (!PyData.eqv (.list ds) (.list [])) = !ds.isEmpty := by cases ds <;> rfl
theorem key_inj : ∀ {rows : List Rw}, (rows.map (·.1)).Nodup → ∀ {x y : Rw}, x ∈ rows → y ∈ rows → x.1 = y.1 → x = y
  | [], _, _, _, h, _, _ => absurd h (by simp)
  | r :: rs, hN, x, y, hx, hy, e => by
    obtain ⟨h1, h2⟩ := List.nodup_cons.mp hN
    rcases List.mem_cons.mp hx with rfl | hx' <;> rcases List.mem_cons.mp hy with rfl | hy'
    · rfl
    · exact absurd (List.mem_map.mpr ⟨y, hy', e.symm⟩) h1
    · exact absurd (List.mem_map.mpr ⟨x, hx', e⟩) h1
    · exact key_inj h2 hx' hy' e
theorem atSpot_at {rows : List Rw} (hN : (rows.map (·.1)).Nodup) {x : Rw} (hx : x ∈ rows) (d e : PyData) : atSpot rows d e x.1 = (PyData.eqv (.str x.2.1) d && PyData.eqv (.int x.2.2) e) := by
  unfold atSpot
  rw [Bool.eq_iff_iff, List.any_eq_true]
  constructor
  · rintro ⟨y, hy, h⟩
    obtain ⟨h1, h2⟩ := Bool.and_eq_true_iff.mp h
    have : y = x := key_inj hN hy hx (of_decide_eq_true h1)
    rw [← this]
    exact h2
  · intro h
    exact ⟨x, hx, Bool.and_eq_true_iff.mpr ⟨decide_eq_true rfl, h⟩⟩
theorem ne_refl {d : PyData} (h : SeqAt.shaped d = true) : (!PyData.eqv d d) = false := by rw [SeqAt.eqv_refl _ (Bool.and_eq_true_iff.mp h).1]; rfl
theorem ok_law {f fB fD fO fNs fSm fOd fIn fWr fRf fGt fAk : Addr} {fd fdB fdD fdO fdNs fdSm fdOd fdIn fdWr fdRf fdGt fdAk fdBI fdSet fdHs : FuncData} (F : FnP K "law" sLaw f fd) (S : Brd K)
    (GB : FnOk P w K mg base CX0 1 fB fdB ["script", "at"] (spBag K)) (bB : Binds K fdB ["script", "at"] []) (kB : PySem.W.keepIn K (.ref fB) = true) (gB : mg "_law_bag" = some (.ref fB))
    (GD : FnOk P w K mg base CX0 1 fD fdD ["bag", "many"] spDraw) (bD : Binds K fdD ["bag", "many"] []) (kD : PySem.W.keepIn K (.ref fD) = true) (gD : mg "_law_draw" = some (.ref fD))
    (GO : FnOk P w K mg base CX0 2 fO fdO ["bag", "some"] (spOf K)) (bO : Binds K fdO ["bag", "some"] []) (kO : PySem.W.keepIn K (.ref fO) = true) (gO : mg "_law_of" = some (.ref fO))
    (GNs : FnOk P w K mg base CX0 3 fNs fdNs ["bag", "many"] spLNames) (bNs : Binds K fdNs ["bag", "many"] []) (kNs : PySem.W.keepIn K (.ref fNs) = true) (gNs : mg "_law_names" = some (.ref fNs))
    (GSm : FnOk P w K mg base CX0 4 fSm fdSm ["board", "model", "lists", "names"] (spSame K)) (bSm : Binds K fdSm ["board", "model", "lists", "names"] []) (kSm : PySem.W.keepIn K (.ref fSm) = true) (gSm : mg "_law_same" = some (.ref fSm))
    (GOd : FnOk P w K mg base CX0 3 fOd fdOd ["bag"] spLOdd) (bOd : Binds K fdOd ["bag"] []) (kOd : PySem.W.keepIn K (.ref fOd) = true) (gOd : mg "_law_odd" = some (.ref fOd))
    (GIn : FnOk P w K mg base CX0 1 fIn fdIn ["thing"] (spName K)) (bIn : Binds K fdIn ["thing"] []) (kIn : PySem.W.keepIn K (.ref fIn) = true) (gIn : mg "_law_is_name" = some (.ref fIn))
    (GWr : FnG P w K mg base CX0 4 fWr fdWr ["board", "lst", "place", "row"] (spWri K)) (bWr : Binds K fdWr ["board", "lst", "place", "row"] []) (kWr : PySem.W.keepIn K (.ref fWr) = true) (gWr : mg "_law_written" = some (.ref fWr))
    (GRf : FnG P w K mg base CX0 2 fRf fdRf ["lst", "place", "row"] spLRfs) (bRf : Binds K fdRf ["lst", "place", "row"] []) (kRf : PySem.W.keepIn K (.ref fRf) = true) (gRf : mg "_law_refusal" = some (.ref fRf))
    (GGt : FnG P w K mg base CX0 5 fGt fdGt ["board", "lst", "place"] (spGot K)) (bGt : Binds K fdGt ["board", "lst", "place"] []) (kGt : PySem.W.keepIn K (.ref fGt) = true) (gGt : mg "_law_got" = some (.ref fGt))
    (GAk : FnG P w K mg base CX0 4 fAk fdAk ["board", "row", "road"] (spAsk K)) (bAk : Binds K fdAk ["board", "row", "road"] []) (kAk : PySem.W.keepIn K (.ref fAk) = true) (gAk : mg "_law_asked" = some (.ref fAk))
    (GBI : FnOk P w K mg base CX0 1 (ma K (ga K "Board") "__init__") fdBI ["self"] (spBI K)) (bBI : Binds K fdBI ["self"] []) (gBrd : mg "Board" = some (.ref (ga K "Board")))
    (GSet : FnOk P w K mg base CX0 2 (ma K (ga K "Board") "__setitem__") fdSet ["self", "at", "worth"] (spSet K)) (bSet : Binds K fdSet ["self", "at", "worth"] [])
    (GHs : FnOk P w K mg base CX0 1 (ma K (ga K "Board") "__contains__") fdHs ["self", "x"] (spHasD K)) (bHs : Binds K fdHs ["self", "x"] [])
    (n_max : mg "max" = none) (n_min : mg "min" = none) (n_len : mg "len" = none) (n_range : mg "range" = none) (n_list : mg "list" = none) (n_sorted : mg "sorted" = none) (n_isinstance : mg "isinstance" = none) (n_int : mg "int" = none) (n_bool : mg "bool" = none) (n_repr : mg "repr" = none) : FnG P w K mg base CX0 6 f fd ["script"] (spLaw K) := by
  refine fnG_ok F scLaw (fun vs H Q E h => ?_) (fun cdv A outer s H vs Q E gg hr h => ?_)
  · obtain ⟨a, ns, rfl, _⟩ := h
    rfl
  · obtain ⟨a, ns, rfl, hS, hl, k⟩ := h
    have hr1 := hr.mono (j := 1) (by decide)
    have hr2 := hr.mono (j := 2) (by decide)
    have hr3 := hr.mono (j := 3) (by decide)
    have hr4 := hr.mono (j := 4) (by decide)
    have hu10 := Nat.lt_of_le_of_lt (Nat.add_le_add_left (by decide : 10 ≤ 64) _) hr.units
    have hu64 := hr.units
    have hu := Nat.lt_of_le_of_lt (Nat.add_le_add_left (by decide : 1 ≤ 64) _) hr.units
    have nd := scLaw.nd
    refine ⟨_, PSs.nox (pss_cons (ps_for PassesOwn.never rfl (pi_range1 (by rfl) n_range (pa_cons (pe_callB (call_max2 rfl) (by rfl) n_max (by decide +kernel) (pa_cons pe_int (pa_cons (pe_callB (call_min2 rfl) (by rfl) n_min (by decide +kernel) (pa_cons pe_int (pa_cons (pe_callB call_len_seq (by rfl) n_len PySem.boot_len (pa_cons (pv 0) pa_nil)) pa_nil))) pa_nil))) pa_nil)) (pg_name (i := 1) nd rfl (Or.inl rfl))
(pss_cons (ps_set (i := 2) nd rfl (Or.inl rfl) (pe_call GB hr1 (by rfl) gB kB bB .nil pass0 (pa_cons (pv 0) (pa_cons (pv 1) pa_nil))))
(pss_cons (ps_par (i := 3) (j := 4) (by rfl) nd rfl rfl (by decide) rfl rfl (pa_cons (pe_call GNs hr3 (by rfl) gNs kNs bNs .nil pass0 (pa_cons (pv 2) (pa_cons pe_int pa_nil))) (pa_cons (pe_call GNs hr3 (by rfl) gNs kNs bNs .nil pass0 (pa_cons (pv 2) (pa_cons pe_int pa_nil))) pa_nil)) (by rfl))
(pss_cons (ps_asg (pe_tup (pa_cons (pe_make0 S.made GBI hr2 (by rfl) gBrd bBI .nil pass0) (pa_cons (pe_dnewK) pa_nil))) (pg_tup rfl (pgs_cons (pg_name (i := 5) nd rfl (Or.inl rfl)) (pgs_cons (pg_name (i := 6) nd rfl (Or.inr rfl)) pgs_nil))))
(pss_cons (ps_for PassesOwn.never rfl (pi_list (pe_slice sl_list (pv 4) po_none (po_some pe_int))) (pg_name (i := 7) nd rfl (Or.inl rfl))
(pss_cons (ps_dput hu (pv 6) (pv 7) (pe_tup (pa_cons (pe_call GO hr2 (by rfl) gO kO bO .nil pass0 (pa_cons (pv 2) (pa_cons (pv 3) pa_nil))) (pa_cons (pe_call GD hr1 (by rfl) gD kD bD .nil pass0 (pa_cons (pv 2) (pa_cons pe_int pa_nil))) pa_nil))) rfl)
(pss_one (ps_asg (pv 7) (pg_sub (pv 5) (pe_dget hu (pv 6) (pv 7) (fun _ _ => rfl)) (set_ownI (S.mth "__setitem__" (by decide)) S.nos GSet hr2 bSet pass0))))))
(pss_one (ps_for PassesOwn.never rfl (pi_range1 (by rfl) n_range (pa_cons (pe_op op_add pe_int (pe_call GD hr1 (by rfl) gD kD bD .nil pass0 (pa_cons (pv 2) (pa_cons pe_int pa_nil)))) pa_nil)) (pg_name (i := 8) nd rfl (Or.inl rfl))
(pss_cons (ps_set (i := 9) nd rfl (Or.inl rfl) (pe_ifExp (pt_cmpR op_eq (pe_call GD hr1 (by rfl) gD kD bD .nil pass0 (pa_cons (pv 2) (pa_cons pe_int pa_nil))) pe_int (nomark _)) (pe_call GOd hr3 (by rfl) gOd kOd bOd .nil pass0 (pa_cons (pv 2) pa_nil)) (pe_call GO hr2 (by rfl) gO kO bO .nil pass0 (pa_cons (pv 2) (pa_cons (pv 3) pa_nil)))))
(pss_cons (ps_set (i := 10) nd rfl (Or.inl rfl) (pe_call GOd hr3 (by rfl) gOd kOd bOd .nil pass0 (pa_cons (pv 2) pa_nil)))
(pss_cons (ps_if (pt_cmpR op_eq (pe_call GD hr1 (by rfl) gD kD bD .nil pass0 (pa_cons (pv 2) (pa_cons pe_int pa_nil))) pe_int (nomark _))
(pss_one (ps_set (i := 10) nd rfl (Or.inl rfl) (pe_op op_sub (pe_call GD hr1 (by rfl) gD kD bD .nil pass0 (pa_cons (pv 2) (pa_cons pe_int pa_nil))) (pe_call GO hr2 (by rfl) gO kO bO .nil pass0 (pa_cons (pv 2) (pa_cons (pe_lst (pa_cons pe_int (pa_cons (pe_op op_pow pe_int pe_int) pa_nil))) pa_nil))))))
pss_nil)
(pss_cons (ps_set (i := 11) nd rfl (Or.inl rfl) (pe_ifExp (pt_cmpR op_eq (pe_call GD hr1 (by rfl) gD kD bD .nil pass0 (pa_cons (pv 2) (pa_cons pe_int pa_nil))) pe_int (nomark _)) (pe_call GOd hr3 (by rfl) gOd kOd bOd .nil pass0 (pa_cons (pv 2) pa_nil)) (pe_call GO hr2 (by rfl) gO kO bO .nil pass0 (pa_cons (pv 2) (pa_cons (pv 4) pa_nil)))))
(pss_cons (ps_if (pt_cmpR (op_neD hu64) (pe_callG GWr gg hr4 (by rfl) gWr kWr bWr .nil pass0 (pa_cons (pv 5) (pa_cons (pv 9) (pa_cons (pv 10) (pa_cons (pv 11) pa_nil))))) (pe_callG GRf gg hr2 (by rfl) gRf kRf bRf .nil pass0 (pa_cons (pv 9) (pa_cons (pv 10) (pa_cons (pv 11) pa_nil)))) (nomark _))
(pss_one (ps_ret pe_bl))
pss_nil)
(pss_cons (ps_if (pt_cmpR op_isN (pe_callG GRf gg hr2 (by rfl) gRf kRf bRf .nil pass0 (pa_cons (pv 9) (pa_cons (pv 10) (pa_cons (pv 11) pa_nil)))) pe_non (nomark _))
(pss_one (ps_dput hu (pv 6) (pv 11) (pe_tup (pa_cons (pv 9) (pa_cons (pv 10) pa_nil))) rfl))
pss_nil)
(pss_cons (ps_set (i := 12) nd rfl (Or.inl rfl) (pe_call GO hr2 (by rfl) gO kO bO .nil pass0 (pa_cons (pv 2) (pa_cons (pv 3) pa_nil))))
(pss_cons (ps_for PassesOwn.never rfl (pi_tup (pe_tup (pa_cons (pe_tup (pa_cons (pv 9) (pa_cons (pv 10) pa_nil))) (pa_cons (pe_tup (pa_cons (pv 12) (pa_cons pe_bl pa_nil))) (pa_cons (pe_tup (pa_cons (pv 12) (pa_cons (pv 10) pa_nil))) pa_nil))))) (pg_name (i := 13) nd rfl (Or.inr rfl))
(pss_cons (ps_set (i := 14) nd rfl (Or.inr rfl) (pe_and (pe_not (pe_callB call_isi (by rfl) n_isinstance (by decide +kernel) (pa_cons (pe_ix ix_tup (pv 13) pe_int (fun _ _ => rfl)) (pa_cons (pe_bltn (v := .ty "bool") (by rfl) n_bool (by decide +kernel) rfl) pa_nil)))) (pe_one (pe_callB call_isi (by rfl) n_isinstance (by decide +kernel) (pa_cons (pe_ix ix_tup (pv 13) pe_int (fun _ _ => rfl)) (pa_cons (pe_bltn (v := .ty "int") (by rfl) n_int (by decide +kernel) rfl) pa_nil))))))
(pss_cons (ps_setLc (i := 15) (own := [("name", 7)]) (g := (gName 7))  rfl nd rfl rfl (sw_true rfl rfl rfl (by decide +kernel)) (pi_list (pe_callB (cr_sortedDp hu64) (by rfl) n_sorted (by decide +kernel) (pa_cons (pe_callTy (call_listD rfl) (by rfl) n_list (by decide +kernel) (pa_cons (pv 6) pa_nil)) pa_nil))) (blkOk_by (own := [("name", 7)]) (N := ["script", "at", "bag", "lists", "names", "board", "model", "name", "turn", "lst", "place", "row", "there", "spot", "whole", "rows", "wanted", "road"]) (sc := defScope sLaw) (by decide +kernel)) (fun _ _ _ _ _ => (pg_name (i := 7) nd rfl (Or.inl rfl))) (fun _ _ _ _ _ => (pts_one (PW.pt (pw_and (pt_val (pv 14)) (pw_and1 (pt_cmpR (show OpR _ _ (rEqD K) from op_eqD hu64) (pe_dget hu (pv 6) (pv 7) (fun _ _ => rfl)) (pv 13) (nomark _))))))) (fun _ _ _ _ _ => (pv 7)))
(pss_cons (ps_set (i := 16) nd rfl (Or.inl rfl) (pe_ifExp (pt_cmpR (op_neD hu64) (pv 15) (pe_lst pa_nil) (nomark _)) (pe_ix ix_list (pv 15) pe_int (fun _ _ => rfl)) (pe_tup (pa_cons pe_str (pa_cons (pe_callB (call_reprD gg hu10) (by rfl) n_repr (by decide +kernel) (pa_cons (pe_ix ix_tup (pv 13) pe_int (fun _ _ => rfl)) pa_nil)) (pa_cons (pe_callB (call_reprD gg hu10) (by rfl) n_repr (by decide +kernel) (pa_cons (pe_ix ix_tup (pv 13) pe_int (fun _ _ => rfl)) pa_nil)) pa_nil))))))
(pss_one (ps_if (pt_cmpR (op_neD hu64) (pe_callG GGt gg hr (by rfl) gGt kGt bGt .nil pass0 (pa_cons (pv 5) (pa_cons (pe_ix ix_tup (pv 13) pe_int (fun _ _ => rfl)) (pa_cons (pe_ix ix_tup (pv 13) pe_int (fun _ _ => rfl)) pa_nil)))) (pv 16) (nomark _))
(pss_one (ps_ret pe_bl))
pss_nil))))))
(pss_cons (ps_if (PW.pt (pw_or (pt_not (pt_val (pe_call GIn hr1 (by rfl) gIn kIn bIn .nil pass0 (pa_cons (pv 11) pa_nil)))) (pw_or1 (pt_cmp (pc_dnotin hu (pv 11) (pv 6))))))
(pss_one (ps_for PassesOwn.never rfl (pi_tup (pe_tup (pa_cons pe_int (pa_cons pe_int pa_nil)))) (pg_name (i := 17) nd rfl (Or.inl rfl))
(pss_one (ps_if (PW.pt (pw_or (pt_cmpR (op_neD hu64) (pe_callG GAk gg hr4 (by rfl) gAk kAk bAk .nil pass0 (pa_cons (pv 5) (pa_cons (pv 11) (pa_cons (pv 17) pa_nil)))) (pe_tup (pa_cons pe_str (pa_cons (pe_callB (call_reprD gg hu10) (by rfl) n_repr (by decide +kernel) (pa_cons (pv 11) pa_nil)) pa_nil))) (nomark _)) (pw_or1 (pt_cmpR (op_inO (S.mth "__contains__" (by decide)) GHs hr1 bHs pass0) (pv 11) (pv 5) rfl))))
(pss_one (ps_ret pe_bl))
pss_nil))))
pss_nil)
(pss_one (ps_if (pt_not (pt_val (pe_call GSm hr4 (by rfl) gSm kSm bSm .nil pass0 (pa_cons (pv 5) (pa_cons (pv 6) (pa_cons (pv 3) (pa_cons (pv 4) pa_nil)))))))
(pss_one (ps_ret pe_bl))
pss_nil))))))))))))))))))
(pss_one (ps_ret pe_bl))), ?_⟩
    refine ⟨_, rfl, a, _, rfl, .inl hS, _, _, rfl, _, _, rfl, _, rfl, ?_, ?_, ?_⟩
    · rw [List.length_map]; split <;> (try split) <;> omega
    · rw [List.length_map]; split <;> (try split) <;> omega
    rw [List.length_map]
    have hn3 : (if (if (ns.length : Int) < 2 then (ns.length : Int) else 2) > 1 then (if (ns.length : Int) < 2 then (ns.length : Int) else 2) else 1).toNat ≤ 3 := by
      split <;> (try split) <;> omega
    generalize (if (if (ns.length : Int) < 2 then (ns.length : Int) else 2) > 1 then (if (ns.length : Int) < 2 then (ns.length : Int) else 2) else 1).toNat = nn at hn3
    refine for_it (walk_rng (n := nn)) (fun _ σ G => ∃ v1 v2 v3 v4 v5 v6 v7 v8 v9 v10 v11 v12 v13 v14 v15 v16 v17, σ = [some (.ref a), v1, v2, v3, v4, v5, v6, v7, v8, v9, v10, v11, v12, v13, v14, v15, v16, v17] ∧ Same H G)
      ⟨none, none, none, none, none, none, none, none, none, none, none, none, none, none, none, none, none, rfl, Same.refl H⟩ (fun _ _ _ _ _ => trivial) ?_ (fun σ G _ => k _)
    rintro i x σ G' G hi ⟨v1, v2, v3, v4, v5, v6, v7, v8, v9, v10, v11, v12, v13, v14, v15, v16, v17, rfl, sG⟩ ⟨rfl, rfl⟩
    refine ⟨_, rfl, _, rfl, a, ns, i, rfl, sG.seq hS, hl, by omega, fun b G1 nb kb eb hB => ?_⟩
    dsimp only [gName, List.set]
    have hbH : H b = none := free_same sG nb
    refine ⟨_, rfl, b, _, 3, rfl, hB, by omega, by decide, by decide, fun L ls G2 hN1 l1 l2 => ?_⟩
    obtain ⟨nL, Lb, k2, hB2, hL2, ndL, nmL⟩ := hN1
    refine ⟨_, rfl, b, _, 8, rfl, hB2, by omega, by decide, by decide, fun N nms G3 hN2 m1 m2 => ⟨_, _, rfl, ?_⟩⟩
    obtain ⟨nN, Nb, k3, hB3, hN3, ndN, nmN⟩ := hN2
    have hL3 := k3 _ _ Lb hL2
    have sH3 : Same H G3 := fun x o e => by
      have hx : x ≠ b := ne_of_none e hbH
      exact k3 _ _ hx (k2 _ _ hx (kb _ _ hx (sG _ _ e)))
    clear k3 k2 kb hL2 hB2 hB
    dsimp only [List.set]
    refine fun bd dx nbd ndx nex => ⟨bd, dx, rfl, upd_same, fun d0 nd0 => ⟨rfl, fun md nmd => ⟨(by show 2 ≤ sizeLine; decide), fun T nT => ?_⟩⟩⟩
    have st : ∃ G8, G8 = upd (upd (upd (upd (upd (upd G3 dx (.own bd)) bd (.ins (ga K "Board") dx [])) d0 (.dK [])) bd (.ins (ga K "Board") dx [("_spots", V.ref d0)])) md (.dK [])) T (.tup [V.ref bd, V.ref md]) ∧ ST K H G8 b bd md L N ls nms [] 400 ∧ G8 T = some (.tup [V.ref bd, V.ref md]) := by
      refine ⟨_, rfl, ?_, upd_same⟩
      have e1 : d0 ≠ bd := fun e => by rw [e, upd_same] at nd0; cases nd0
      have e2 : d0 ≠ dx := fun e => by rw [e, upd_ne nex, upd_same] at nd0; cases nd0
      have n3d : G3 d0 = none := by rw [upd_ne e1, upd_ne e2] at nd0; exact nd0
      have e3 : md ≠ bd := fun e => by rw [e, upd_same] at nmd; cases nmd
      have e4 : md ≠ d0 := fun e => by rw [e, upd_ne e1, upd_same] at nmd; cases nmd
      have e5 : md ≠ dx := fun e => by rw [e, upd_ne nex, upd_ne e2.symm, upd_ne nex, upd_same] at nmd; cases nmd
      have n3m : G3 md = none := by rw [upd_ne e3, upd_ne e4, upd_ne e3, upd_ne e5] at nmd; exact nmd
      have t1 : T ≠ md := fun e => by rw [e, upd_same] at nT; cases nT
      have t2 : T ≠ bd := fun e => by rw [e, upd_ne e3.symm, upd_same] at nT; cases nT
      have t3 : T ≠ d0 := fun e => by rw [e, upd_ne e4.symm, upd_ne e1, upd_same] at nT; cases nT
      have t4 : T ≠ dx := fun e => by rw [e, upd_ne e5.symm, upd_ne nex, upd_ne e2.symm, upd_ne nex, upd_same] at nT; cases nT
      have n3t : G3 T = none := by rw [upd_ne t1, upd_ne t2, upd_ne t3, upd_ne t2, upd_ne t4] at nT; exact nT
      have mv : Same G3 (upd (upd (upd (upd (upd (upd G3 dx (.own bd)) bd (.ins (ga K "Board") dx [])) d0 (.dK [])) bd (.ins (ga K "Board") dx [("_spots", V.ref d0)])) md (.dK [])) T (.tup [V.ref bd, V.ref md])) := fun x o e => by
        rw [upd_ne (ne_of_none e n3t), upd_ne (ne_of_none e n3m), upd_ne (ne_of_none e nbd), upd_ne (ne_of_none e n3d), upd_ne (ne_of_none e nbd), upd_ne (ne_of_none e ndx)]
        exact e
      have hbd : upd (upd (upd (upd (upd (upd G3 dx (.own bd)) bd (.ins (ga K "Board") dx [])) d0 (.dK [])) bd (.ins (ga K "Board") dx [("_spots", V.ref d0)])) md (.dK [])) T (.tup [V.ref bd, V.ref md]) bd = some (.ins (ga K "Board") dx [("_spots", V.ref d0)]) := by
        rw [upd_ne t2.symm, upd_ne e3.symm, upd_same]
      obtain ⟨d, m, c, eb, rr⟩ := hB3
      refine ⟨Bag.mono ⟨d, m, c, mv _ _ eb, rr⟩ (by omega), ⟨dx, d0, [], hbd, ?_, .nil, List.nodup_nil⟩, ⟨[], ?_, .nil, List.nodup_nil⟩, fun dx' d' z => ?_, mv _ _ hL3, mv _ _ hN3, Lb, Nb, sH3.trans mv, hbH, free_same sH3 nbd, free_same sH3 n3m⟩
      · rw [upd_ne t3.symm, upd_ne e4.symm, upd_ne e1, upd_same]
      · rw [upd_ne t1.symm, upd_same]
      · rw [hbd] at z
        cases z
        exact e4.symm
    obtain ⟨G8, eG8, st, hT⟩ := st
    rw [← eG8]
    clear eG8 nT nmd nd0 nbd ndx nex hL3 hN3 hB3 sH3 nL nN
    refine ⟨_, _, rfl, SqT.of hT, rfl, _, _, rfl, _, _, rfl, rfl, ?_⟩
    dsimp only [gName, List.set]
    clear hT
    -- the rows
    refine ⟨_, rfl, _, rfl, N, _, rfl, SqL.of st.hn, fun P0 nP => ⟨P0, rfl, ⟨_, SqL.of upd_same⟩, ?_⟩⟩
    have sP := same_put (o := .lst (cutV (nms.map V.str) none (some 6))) nP
    have hP : upd G8 P0 (.lst (cutV (nms.map V.str) none (some 6))) P0 = some (.lst ((nms.take 6).map V.str)) := by rw [upd_same, cut_to6]
    rw [cut_to6] at sP hP ⊢
    have sb0 := (st.same sP).sb
    have hPb := st.bag.ne nP
    generalize upd G8 P0 (.lst ((nms.take 6).map V.str)) = G0 at hP sb0 ⊢
    clear st sP nP
    have sl6 : (nms.take 6).length ≤ 6 := by rw [List.length_take]; omega
    have nm6 : ∀ z ∈ nms.take 6, isNm z = true := fun z hz => nmN z (List.mem_of_mem_take hz)
    generalize nms.take 6 = ks at hP sl6 nm6 ⊢
    refine for_it (walk_list (K := K) (a := P0) (xs := ks.map V.str)) (fun m σ G => ∃ w7 w8 w9 w10 w11 w12 w13 w14 w15 w16 w17 rows, σ = [some (.ref a), some (.int (i : Int)), some (.ref b), some (.ref L), some (.ref N), some (.ref bd), some (.ref md), w7, w8, w9, w10, w11, w12, w13, w14, w15, w16, w17] ∧ SB K H G b bd md L N ls nms rows rows (400 + 4 * m) ∧ G P0 = some (.lst (ks.map V.str)) ∧ rows.length ≤ m ∧ (∀ x ∈ rows, okN x) ∧ (∀ x ∈ rows, x.2.1 ∈ ls))
      ⟨_, _, _, _, _, _, _, _, _, _, _, [], rfl, by simpa using sb0, hP, by simp, (fun x hx => absurd hx (by simp)), (fun x hx => absurd hx (by simp))⟩ (fun _ _ _ _ h => by obtain ⟨_, _, _, _, _, _, _, _, _, _, _, _, _, _, q, _⟩ := h; exact SqL.of q) ?_ ?_
    · clear sb0 hP
      rintro m x σ G' G hm ⟨w7, w8, w9, w10, w11, w12, w13, w14, w15, w16, w17, rows, rfl, sb, hP, hrl, hok, hin⟩ ⟨rfl, hx⟩
      rw [List.getElem?_map] at hx
      obtain ⟨z, hz, rfl⟩ := Option.map_eq_some_iff.mp hx
      rw [List.length_map] at hm
      have hzm := nm6 z (List.mem_of_getElem? hz)
      dsimp only [gName, List.set]
      refine ⟨_, rfl, _, rfl, b, L, _, _, rfl, sb.bag, by omega, sb.lb, SqL.of sb.hl, (by rw [List.length_map]; omega), (by rw [List.length_map]; omega), fun j2 v2 G6 hv2 k6 hB6 => ?_⟩
      have sb6 := sb.draw k6 hB6
      obtain ⟨l, hlj, rfl⟩ := Option.map_eq_some_iff.mp ((List.getElem?_map ..).symm.trans hv2)
      have hlm := List.mem_of_getElem? hlj
      have hln := nmL l hlm
      refine ⟨_, rfl, b, _, 4, rfl, sb6.bag, by omega, by decide, by decide, fun pl G1 _ _ k1 hB1 => ?_⟩
      have sb7 := sb6.draw k1 hB1
      have hP7 := k1.kept _ _ hPb (k6.kept _ _ hPb hP)
      refine ⟨(by show 2 ≤ sizeLine; decide), fun T nT => ?_⟩
      have sT := same_put (o := .tup [V.str l, V.int pl]) nT
      have hT : upd G1 T (.tup [V.str l, V.int pl]) T = some (.tup [V.str l, V.int pl]) := upd_same
      have sb7 := sb7.same sT
      replace hP7 := sT _ _ hP7
      generalize upd G1 T (.tup [V.str l, V.int pl]) = G7 at hT sb7 hP7 ⊢
      obtain ⟨kvs, hmd, hkl, sb8⟩ := sb7.put (r := z) hT
      refine ⟨_, rfl, _, rfl, md, _, rfl, .inl ⟨kvs, .inr z, hmd, rfl, by rw [hkl, sizeLine_eq]; omega, rfl⟩, ?_⟩
      have hPm : P0 ≠ md := fun e => by rw [e, hmd] at hP7; cases hP7
      have hP8 : upd G7 md (.dK (putK kvs (Sum.inr z) (V.ref T))) P0 = some (.lst (ks.map V.str)) := (upd_ne hPm).trans hP7
      generalize upd G7 md (.dK (putK kvs (Sum.inr z) (V.ref T))) = G8 at sb8 hP8 ⊢
      obtain ⟨t2, hget, ht2⟩ := sb8.mdl.find (put_mem _ z l pl)
      obtain ⟨bx, b0, kv0, ha8, _⟩ := id sb8.bd
      refine ⟨_, rfl, _, rfl, _, rfl, _, rfl, md, _, rfl, hget, bd, rfl, ⟨_, _, ha8⟩, bd, t2, _, z, l, pl, rfl, sb8.bd, SqT.of ht2, hzm, hln, by omega, fun G9 k9 hb9 hn9 => ?_⟩
      have sb9 := sb8.brd k9 hb9 (fun dx d e => .inl (hn9 dx d e))
      have hP9 : G9 P0 = some (.lst (ks.map V.str)) := k9 _ _ (fun e => by rw [e, ha8] at hP8; cases hP8) hP8
      refine ⟨_, _, _, _, _, _, _, _, _, _, _, putR rows z l pl, rfl, sb9.mono (by omega), hP9, ?_, okN_put hok hzm hln, in_put hin hlm⟩
      have := putR_len (rows) z l pl
      omega
    · clear sb0 hP
      rintro σ G ⟨w7, w8, w9, w10, w11, w12, w13, w14, w15, w16, w17, rows, rfl, sb, _, hrl, hok, hin⟩
      rw [List.length_map] at hrl sb
      refine ⟨_, rfl, b, _, 10, rfl, sb.bag, by omega, by decide, by decide, fun dn G0 d0n d1n k0 hB0 => ⟨_, _, rfl, rfl, _, rfl, by omega, by omega, ?_⟩⟩
      have sb0 := (sb.draw k0 hB0).mono (n' := 450) (by omega)
      clear sb k0 hB0
      obtain ⟨tn, htn, htn2⟩ : ∃ tn : Nat, (1 + dn).toNat = tn ∧ tn ≤ 10 := ⟨_, rfl, by omega⟩
      rw [htn]
      refine for_it (walk_rng (n := tn)) (fun m σ G => ∃ w7 w8 w9 w10 w11 w12 w13 w14 w15 w16 w17 rows, σ = [some (.ref a), some (.int (i : Int)), some (.ref b), some (.ref L), some (.ref N), some (.ref bd), some (.ref md), w7, w8, w9, w10, w11, w12, w13, w14, w15, w16, w17] ∧ SB K H G b bd md L N ls nms rows rows (450 + 20 * m) ∧ rows.length ≤ 6 + m ∧ (∀ x ∈ rows, okN x) ∧ (∀ x ∈ rows, x.2.1 ∈ ls))
        ⟨_, _, _, _, _, _, _, _, _, _, _, rows, rfl, by simpa using sb0, by omega, hok, hin⟩ (fun _ _ _ _ _ => trivial) ?_ ?_
      · clear sb0 hrl hok hin rows
        rintro m x σ G' G hm ⟨w7, w8, w9, w10, w11, w12, w13, w14, w15, w16, w17, rows, rfl, sb, hrl, hok, hin⟩ ⟨rfl, rfl⟩
        dsimp only [gName, List.set]
        -- the list
        refine gen_v (A := fun Q => tIf _ _ _ _ _ Q) (P := fun v G2 => ∃ d, ThV 1 G2 v d ∧ SB K H G2 b bd md L N ls nms rows rows (453 + 20 * m) ∧ (nmD d = true → ∃ l, d = .str l ∧ l ∈ ls)) ?_ ?_
        rotate_left
        · intro Q hQ
          refine ⟨_, rfl, b, _, 2, rfl, sb.bag, by omega, by decide, by decide, fun c1 G1 _ _ k1 hB1 => ⟨rfl, _, rfl, ?_⟩⟩
          have sb1 := sb.draw k1 hB1
          refine ite2' (fun _ => ?_) (fun _ => ?_)
          · exact ⟨_, rfl, b, _, rfl, sb1.bag, by omega, fun v d G2 ht h1 _ k2 hB2 => hQ _ _ ⟨d, ht, (sb1.drawK k2 hB2).mono (by omega), fun h => by rw [h1] at h; cases h⟩⟩
          · refine ⟨_, rfl, _, rfl, b, L, _, _, rfl, sb1.bag, by omega, sb1.lb, SqL.of sb1.hl, (by rw [List.length_map]; omega), (by rw [List.length_map]; omega), fun j2 v2 G2 hv2 k2 hB2 => ?_⟩
            obtain ⟨l, hlj, rfl⟩ := Option.map_eq_some_iff.mp ((List.getElem?_map ..).symm.trans hv2)
            have hlm := List.mem_of_getElem? hlj
            exact hQ _ _ ⟨.str l, .inl ⟨nm_sc (nmL l hlm), .inr (.inr (.inr ⟨l, rfl, rfl⟩))⟩, (sb1.draw k2 hB2).mono (by omega), fun _ => ⟨l, rfl, hlm⟩⟩
        clear sb
        rintro lv G1 ⟨dx, hx, sb, hxl⟩
        dsimp only [gName, List.set]
        refine ⟨_, rfl, b, _, rfl, sb.bag, by omega, fun ov dov G2 hov hon hoi k2 hB2 => ?_⟩
        have sb2 := sb.drawK k2 hB2
        have hx2 := th_draw hx sb.bag k2
        clear sb hx k2 hB2
        dsimp only [gName, List.set]
        -- the place
        refine seq_by (fun σ G => ∃ yv dy, σ = [some (.ref a), some (.int (i : Int)), some (.ref b), some (.ref L), some (.ref N), some (.ref bd), some (.ref md), w7, some (.int (m : Int)), some lv, some yv, w11, w12, w13, w14, w15, w16, w17] ∧ ThV big G yv dy ∧ ThV big G lv dx ∧ SB K H G b bd md L N ls nms rows rows (457 + 20 * m)) ?_ (fun nxt => ?_)
        rotate_left
        · refine ⟨_, rfl, b, _, 2, rfl, sb2.bag, by omega, by decide, by decide, fun c1 G3 _ _ k3 hB3 => ⟨rfl, _, rfl, ?_⟩⟩
          have sb3 := sb2.draw k3 hB3
          have hx3 := th_draw hx2 sb2.bag k3.kept
          have ho3 := th_draw hov sb2.bag k3.kept
          refine ite2' (fun _ => ?_) (fun _ => ?_)
          · refine ⟨_, rfl, b, _, 5, rfl, sb3.bag, by omega, by decide, by decide, fun e1 G4 e0 e5 k4 hB4 => ?_⟩
            have sb4 := sb3.draw k4 hB4
            have hx4 := th_draw hx3 sb3.bag k4.kept
            refine ⟨_, rfl, _, _, rfl, rfl, ⟨by decide, by decide, by decide⟩, (by show 2 ≤ sizeLine; decide), fun E1 nE1 => ?_⟩
            have sE := same_put (o := .lst [V.int 0, V.int (10 ^ 29)]) nE1
            have hE : upd G4 E1 (.lst [V.int 0, V.int (10 ^ 29)]) E1 = some (.lst [V.int 0, V.int (10 ^ 29)]) := upd_same
            have hEb := sb4.bag.ne nE1
            have sb5 := sb4.same sE
            have hx5 := hx4.same sE
            show spOf K [V.ref b, V.ref E1] (upd G4 E1 (.lst [V.int 0, V.int (10 ^ 29)])) _ E0
            generalize upd G4 E1 (.lst [V.int 0, V.int (10 ^ 29)]) = G5 at hE sb5 hx5 ⊢
            refine ⟨b, E1, _, _, rfl, sb5.bag, by omega, hEb, SqL.of hE, (by show 0 < 2; decide), (by show 2 ≤ 1000; decide), fun j3 v3 G6 hv3 k6 hB6 => ?_⟩
            obtain ⟨pl, rfl, hpl⟩ : ∃ pl : Int, v3 = .int pl ∧ (pl = 0 ∨ pl = 10 ^ 29) := by
              match j3, hv3 with
              | 0, e => exact ⟨_, (Option.some.inj e).symm, .inl rfl⟩
              | 1, e => exact ⟨_, (Option.some.inj e).symm, .inr rfl⟩
            refine ⟨_, _, rfl, rfl, ?_⟩
            have hb : (e1 - pl).natAbs ≤ big := by
              show (e1 - pl).natAbs ≤ 10 ^ 31
              rcases hpl with rfl | rfl <;> omega
            exact nxt _ _ ⟨_, .int (e1 - pl), rfl, .inl ⟨hb, .inr (.inr (.inl ⟨_, rfl, rfl⟩))⟩, (th_draw hx5 sb5.bag k6.kept).mono (by decide), (sb5.draw k6 hB6).mono (by omega)⟩
          · exact nxt _ _ ⟨ov, dov, rfl, ho3.mono (by decide), hx3.mono (by decide), sb3.mono (by omega)⟩
        clear hx2 sb2 hov hon hoi dov ov
        rintro σ G2 ⟨yv, dy, rfl, hy, hx, sb⟩
        -- the row
        refine gen_v (A := fun Q => tIf _ _ _ _ _ Q) (P := fun v G2 => ∃ d, ThV 1 G2 v d ∧ ThV big G2 yv dy ∧ ThV big G2 lv dx ∧ SB K H G2 b bd md L N ls nms rows rows (460 + 20 * m) ∧ (nmD d = true → ∃ z, d = .str z ∧ z ∈ nms)) ?_ ?_
        rotate_left
        · intro Q hQ
          refine ⟨_, rfl, b, _, 2, rfl, sb.bag, by omega, by decide, by decide, fun c1 G3 _ _ k1 hB1 => ⟨rfl, _, rfl, ?_⟩⟩
          have sb1 := sb.draw k1 hB1
          have hy1 := th_draw hy sb.bag k1.kept
          have hx1 := th_draw hx sb.bag k1.kept
          refine ite2' (fun _ => ?_) (fun _ => ?_)
          · exact ⟨_, rfl, b, _, rfl, sb1.bag, by omega, fun v d G4 ht h1 _ k2 hB2 => hQ _ _ ⟨d, ht, th_draw hy1 sb1.bag k2, th_draw hx1 sb1.bag k2, (sb1.drawK k2 hB2).mono (by omega), fun h => by rw [h1] at h; cases h⟩⟩
          · refine ⟨_, rfl, _, rfl, b, N, _, _, rfl, sb1.bag, by omega, sb1.nb, SqL.of sb1.hn, (by rw [List.length_map]; omega), (by rw [List.length_map]; omega), fun j2 v2 G4 hv2 k2 hB2 => ?_⟩
            obtain ⟨z, hzj, rfl⟩ := Option.map_eq_some_iff.mp ((List.getElem?_map ..).symm.trans hv2)
            have hzm := List.mem_of_getElem? hzj
            exact hQ _ _ ⟨.str z, .inl ⟨nm_sc (nmN z hzm), .inr (.inr (.inr ⟨z, rfl, rfl⟩))⟩, th_draw hy1 sb1.bag k2.kept, th_draw hx1 sb1.bag k2.kept, (sb1.draw k2 hB2).mono (by omega), fun _ => ⟨z, rfl, hzm⟩⟩
        clear sb hy hx
        rintro rv G3 ⟨dz, hz, hy, hx, sb, hzl⟩
        replace hz := hz.mono (m' := big) (by decide)
        dsimp only [gName, List.set]
        -- written, and refused
        refine seq_by (fun σ G => σ = [some (.ref a), some (.int (i : Int)), some (.ref b), some (.ref L), some (.ref N), some (.ref bd), some (.ref md), w7, some (.int (m : Int)), some lv, some yv, some rv, w12, w13, w14, w15, w16, w17] ∧ ThV big G lv dx ∧ ThV big G yv dy ∧ ThV big G rv dz ∧ ((refD dx dy dz ≠ none ∧ SB K H G b bd md L N ls nms rows rows (460 + 20 * m)) ∨ (refD dx dy dz = none ∧ ∃ l p r, dx = .str l ∧ dy = .int p ∧ dz = .str r ∧ l ∈ ls ∧ r ∈ nms ∧ SB K H G b bd md L N ls nms (putR rows r l p) rows (460 + 20 * m)))) ?_ (fun nxt => ?_)
        rotate_left
        · refine ⟨_, rfl, _, rfl, _, rfl, _, rfl, bd, rows, lv, yv, rv, dx, dy, dz, rfl, sb.bd, by omega, hx, hy, hz, fun c t he p G4 s4 hp => ?_, fun l p r e1 e2 e3 h1 h2 G4 k4 hbd4 hnew4 => ?_⟩
          · refine ⟨_, rfl, _, rfl, _, rfl, lv, yv, rv, dx, dy, dz, rfl, hx.same s4, hy.same s4, hz.same s4, ?_⟩
            rw [he]
            intro p2 G5 s5 hp2
            obtain ⟨o1, o2⟩ := refD_ok hx hy hz he
            have shp := pair_shp o1 o2
            refine ⟨_, _, .tup (SqT.of (s5 _ _ hp)) (.cons (.str _) (.cons (.str _) .nil)), .tup (SqT.of hp2) (.cons (.str _) (.cons (.str _) .nil)), shp, shp, ?_⟩
            rw [ne_refl shp]
            have s45 := s4.trans s5
            exact ⟨_, rfl, no rfl (nxt _ _ ⟨rfl, hx.same s45, hy.same s45, hz.same s45, .inl ⟨(by rw [he]; exact fun z => by cases z), sb.same s45⟩⟩)⟩
          · have he : refD dx dy dz = none := by subst e1 e2 e3; exact refD_none h1 h2
            obtain ⟨l', el, hlm⟩ := hxl (by subst e1; exact h1)
            obtain ⟨r', er, hrm⟩ := hzl (by subst e3; exact h2)
            obtain rfl : l = l' := by rw [e1] at el; injection el
            obtain rfl : r = r' := by rw [e3] at er; injection er
            have hx4 := th_brd hx sb.bd k4
            have hy4 := th_brd hy sb.bd k4
            have hz4 := th_brd hz sb.bd k4
            have sb4 := sb.brd k4 hbd4 (fun dx d e => .inl (hnew4 dx d e))
            refine ⟨_, rfl, _, rfl, _, rfl, lv, yv, rv, dx, dy, dz, rfl, hx4, hy4, hz4, ?_⟩
            rw [he]
            intro G5 s5
            refine ⟨.none, .none, .non, .non, rfl, rfl, ?_⟩
            rw [ne_refl rfl]
            exact ⟨_, rfl, no rfl (nxt _ _ ⟨rfl, hx4.same s5, hy4.same s5, hz4.same s5, .inr ⟨he, l, p, r, e1, e2, e3, hlm, hrm, sb4.same s5⟩⟩)⟩
        clear sb hx hy hz
        rintro σ G4 ⟨rfl, hx, hy, hz, hcase⟩
        -- the dict behind it
        refine seq_by (fun σ G => ∃ rows, σ = [some (.ref a), some (.int (i : Int)), some (.ref b), some (.ref L), some (.ref N), some (.ref bd), some (.ref md), w7, some (.int (m : Int)), some lv, some yv, some rv, w12, w13, w14, w15, w16, w17] ∧ ThV big G lv dx ∧ ThV big G yv dy ∧ ThV big G rv dz ∧ SB K H G b bd md L N ls nms rows rows (460 + 20 * m) ∧ rows.length ≤ 7 + m ∧ (∀ x ∈ rows, okN x) ∧ (∀ x ∈ rows, x.2.1 ∈ ls)) ?_ (fun nxt => ?_)
        rotate_left
        · refine ⟨_, rfl, _, rfl, _, rfl, lv, yv, rv, dx, dy, dz, rfl, hx, hy, hz, ?_⟩
          rcases hcase with ⟨hne, sb⟩ | ⟨he, l, p, r, rfl, rfl, rfl, hlm, hrm, sb⟩
          · obtain ⟨⟨c, t⟩, he⟩ : ∃ ct, refD dx dy dz = some ct := by
              cases h : refD dx dy dz with
              | none => exact absurd h hne
              | some ct => exact ⟨ct, rfl⟩
            rw [he]
            intro p2 G5 s5 hp2
            exact ⟨rfl, _, rfl, no rfl (nxt _ _ ⟨rows, rfl, hx.same s5, hy.same s5, hz.same s5, sb.same s5, by omega, hok, hin⟩)⟩
          · rw [he]
            intro G5 s5
            refine ⟨rfl, _, rfl, yes rfl ?_⟩
            have sb5 := sb.same s5
            have hx5 := hx.same s5
            have hy5 := hy.same s5
            have hz5 := hz.same s5
            obtain rfl := th_str hx
            obtain rfl := th_str hz
            obtain rfl : yv = V.int p := by cases hy.dp (K := K); rfl
            clear sb hx hy hz
            refine ⟨_, rfl, _, rfl, (by show 2 ≤ sizeLine; decide), fun T nT => ?_⟩
            have sT := same_put (o := .tup [V.str l, V.int p]) nT
            have hT : upd G5 T (.tup [V.str l, V.int p]) T = some (.tup [V.str l, V.int p]) := upd_same
            have sb7 := sb5.same sT
            have hx7 := hx5.same sT
            have hy7 := hy5.same sT
            have hz7 := hz5.same sT
            generalize upd G5 T (.tup [V.str l, V.int p]) = G7 at hT sb7 hx7 hy7 hz7 ⊢
            obtain ⟨kvs, hmd, hkl, sb8⟩ := sb7.put (r := r) hT
            refine ⟨_, rfl, _, rfl, md, _, rfl, .inl ⟨kvs, .inr r, hmd, rfl, by rw [hkl, sizeLine_eq]; omega, rfl⟩, ?_⟩
            refine nxt _ _ ⟨_, rfl, th_put hx7 hmd, th_put hy7 hmd, th_put hz7 hmd, sb8, ?_, okN_put hok (nmN r hrm) (nmL l hlm), in_put hin hlm⟩
            have := putR_len rows r l p
            omega
        clear hcase hx hy hz hrl hok hin rows
        rintro σ G5 ⟨rows, rfl, hx, hy, hz, sb, hrl, hok, hin⟩
        -- there
        refine ⟨_, rfl, _, rfl, b, L, _, _, rfl, sb.bag, by omega, sb.lb, SqL.of sb.hl, (by rw [List.length_map]; omega), (by rw [List.length_map]; omega), fun j2 v2 G6 hv2 k6 hB6 => ?_⟩
        obtain ⟨th, hthj, rfl⟩ := Option.map_eq_some_iff.mp ((List.getElem?_map ..).symm.trans hv2)
        have hthm := List.mem_of_getElem? hthj
        have sb6 := (sb.draw k6 hB6).mono (n' := 462 + 20 * m) (by omega)
        replace hx := th_draw hx sb.bag k6.kept
        replace hy := th_draw hy sb.bag k6.kept
        replace hz := th_draw hz sb.bag k6.kept
        clear sb k6 hB6 hv2 hthj
        have ht : ThV big G6 (V.str th) (.str th) := .inl ⟨nm_sc (nmL th hthm), .inr (.inr (.inr ⟨th, rfl, rfl⟩))⟩
        dsimp only [gName, List.set]
        refine ⟨_, rfl, _, rfl, (by show 2 ≤ sizeLine; decide), fun T1 n1 => ?_⟩
        have s1 := same_put (o := .tup [lv, yv]) n1
        have f1 : upd G6 T1 (.tup [lv, yv]) T1 = some (.tup [lv, yv]) := upd_same
        generalize upd G6 T1 (.tup [lv, yv]) = H1 at s1 f1 ⊢
        refine ⟨_, rfl, (by show 2 ≤ sizeLine; decide), fun T2 n2 => ?_⟩
        have s2 := same_put (o := .tup [V.str th, V.bl true]) n2
        have f2 : upd H1 T2 (.tup [V.str th, V.bl true]) T2 = some (.tup [V.str th, V.bl true]) := upd_same
        replace f1 := s2 _ _ f1
        replace s1 := s1.trans s2
        generalize upd H1 T2 (.tup [V.str th, V.bl true]) = H2 at s1 f1 f2 ⊢
        refine ⟨_, rfl, _, rfl, (by show 2 ≤ sizeLine; decide), fun T3 n3 => ?_⟩
        have s3 := same_put (o := .tup [V.str th, yv]) n3
        have f3 : upd H2 T3 (.tup [V.str th, yv]) T3 = some (.tup [V.str th, yv]) := upd_same
        replace f1 := s3 _ _ f1
        replace f2 := s3 _ _ f2
        replace s1 := s1.trans s3
        generalize upd H2 T3 (.tup [V.str th, yv]) = H3 at s1 f1 f2 f3 ⊢
        refine ⟨(by show 3 ≤ sizeLine; decide), fun T4 n4 => ⟨T4, rfl, ⟨_, SqT.of upd_same⟩, ?_⟩⟩
        have s4 := same_put (o := .tup [V.ref T1, V.ref T2, V.ref T3]) n4
        have f4 : upd H3 T4 (.tup [V.ref T1, V.ref T2, V.ref T3]) T4 = some (.tup [V.ref T1, V.ref T2, V.ref T3]) := upd_same
        replace f1 := s4 _ _ f1
        replace f2 := s4 _ _ f2
        replace f3 := s4 _ _ f3
        replace s1 := s1.trans s4
        generalize upd H3 T4 (.tup [V.ref T1, V.ref T2, V.ref T3]) = G7 at s1 f1 f2 f3 f4 ⊢
        replace sb := sb6.same s1
        replace hx := hx.same s1
        replace hy := hy.same s1
        replace hz := hz.same s1
        replace ht := ht.same s1
        clear sb6 s2 s3 s4 s1
        refine for_it (walk_tup (K := K) (a := T4) (xs := [V.ref T1, V.ref T2, V.ref T3])) (fun q σ G => ∃ u7 u13 u14 u15 u16 u17, σ = [some (.ref a), some (.int (i : Int)), some (.ref b), some (.ref L), some (.ref N), some (.ref bd), some (.ref md), u7, some (.int (m : Int)), some lv, some yv, some rv, some (.str th), u13, u14, u15, u16, u17] ∧ Same G7 G)
          ⟨_, _, _, _, _, _, rfl, .refl _⟩ (fun _ _ _ _ h => by obtain ⟨_, _, _, _, _, _, _, h⟩ := h; exact SqT.of (h _ _ f4)) ?_ ?_
        · rintro q x σ G' G hq ⟨u7, u13, u14, u15, u16, u17, rfl, sG⟩ ⟨rfl, hxq⟩
          obtain ⟨T, x1, y1, d1, e1, rfl, hT, hx1, hy1⟩ : ∃ T x1 y1 d1 e1, x = V.ref T ∧ G7 T = some (.tup [x1, y1]) ∧ ThV big G7 x1 d1 ∧ ThV big G7 y1 e1 := by
            match q, hxq with
            | 0, e => exact ⟨T1, lv, yv, dx, dy, (Option.some.inj e).symm, f1, hx, hy⟩
            | 1, e => exact ⟨T2, _, _, _, .bool true, (Option.some.inj e).symm, f2, ht, .inl ⟨trivial, .inr (.inl ⟨true, rfl, rfl⟩)⟩⟩
            | 2, e => exact ⟨T3, _, _, _, _, (Option.some.inj e).symm, f3, ht, hy⟩
          replace hT := sG _ _ hT
          replace hx1 := hx1.same sG
          replace hy1 := hy1.same sG
          have sbq := sb.same sG
          dsimp only [gName, List.set]
          -- whole
          refine gen_v (A := fun Q => tAndV _ _ _ _ Q) (P := fun v G2 => v = .bl (isIntD e1) ∧ G = G2) ?_ ?_
          rotate_left
          · intro Q hQ
            refine ⟨_, rfl, T, _, _, _, rfl, rfl, SqT.of hT, rfl, _, _, _, _, _, rfl, .ty _, dp_ty hy1.dp, kit_bool e1, _, rfl, _, rfl, ?_⟩
            cases cb : isBoolD e1 with
            | true => exact no rfl (hQ _ _ ⟨(by cases e1 <;> first | rfl | cases cb), rfl⟩)
            | false =>
              refine yes rfl ⟨_, rfl, T, _, _, _, rfl, rfl, SqT.of hT, rfl, _, _, _, _, _, rfl, .ty _, dp_ty hy1.dp, kit_int e1, ?_⟩
              rw [cb, Bool.or_false]
              exact hQ _ _ ⟨rfl, rfl⟩
          rintro _ G2 ⟨rfl, eG⟩
          subst eG
          dsimp only [gName, List.set]
          -- the rows at the spot
          obtain ⟨kvs, hmd, hmE, hmN⟩ := id sbq.mdl
          refine ⟨_, rfl, md, kvs, rfl, .inl hmd, fun p1 np1 => ?_⟩
          have s1 := same_put (o := .lst (kvs.map fun kv => kV kv.1)) np1
          have ek : (kvs.map fun kv => kV kv.1) = (rows.map (·.1)).map V.str := by
            have := congrArg (List.map kV) hmE.keys
            rw [List.map_map, List.map_map] at this
            rw [List.map_map]
            exact this
          rw [ek] at s1 ⊢
          have f1' : upd G p1 (.lst ((rows.map (·.1)).map V.str)) p1 = some (.lst ((rows.map (·.1)).map V.str)) := upd_same
          generalize upd G p1 (.lst ((rows.map (·.1)).map V.str)) = J1 at s1 f1' ⊢
          refine ⟨p1, _, strD, rfl, SqL.of f1', fun x hx => ?_, fun a1 h1 a2 h2 => ?_, .inr fun a1 h1 => ?_, fun x hx => ?_, fun p2 np2 => ?_⟩
          · obtain ⟨z, _, rfl⟩ := List.mem_map.mp hx
            exact .str z
          · obtain ⟨x1, hx1, rfl⟩ := List.mem_map.mp h1
            obtain ⟨x2, hx2, rfl⟩ := List.mem_map.mp h2
            obtain ⟨z1, _, rfl⟩ := List.mem_map.mp hx1
            obtain ⟨z2, _, rfl⟩ := List.mem_map.mp hx2
            rfl
          · obtain ⟨x1, hx1, rfl⟩ := List.mem_map.mp h1
            obtain ⟨z1, _, rfl⟩ := List.mem_map.mp hx1
            exact ⟨(fun e => by cases e), fun _ e => by cases e⟩
          · obtain ⟨z, _, rfl⟩ := List.mem_map.mp hx
            show 0 ≤ 60
            decide
          rw [srt_strs]
          have s2 := s1.trans (same_put (o := .lst (((rows.map (·.1)).mergeSort leS).map V.str)) np2)
          have f2' : upd J1 p2 (.lst (((rows.map (·.1)).mergeSort leS).map V.str)) p2 = some (.lst (((rows.map (·.1)).mergeSort leS).map V.str)) := upd_same
          generalize upd J1 p2 (.lst (((rows.map (·.1)).mergeSort leS).map V.str)) = J2 at s2 f2' ⊢
          refine ⟨p2, rfl, ⟨_, SqL.of f2'⟩, fun D nD => ?_⟩
          refine lc_it (walk_list (K := K) (a := p2) (xs := ((rows.map (·.1)).mergeSort leS).map V.str)) (fun i G => G D = some (.lst (((((rows.map (·.1)).mergeSort leS).take i).filter fun z => isIntD e1 && atSpot rows d1 e1 z).map V.str)) ∧ Same J2 G) ⟨upd_same, same_put nD⟩ (fun i G _ h => SqL.of (h.2 _ _ f2')) ?_ ?_
          · rintro i x G4' G4 hi ⟨hA, s4⟩ ⟨rfl, hxi⟩
            obtain ⟨z, hzi, rfl⟩ := Option.map_eq_some_iff.mp ((List.getElem?_map ..).symm.trans hxi)
            have hzm := List.mem_of_getElem? hzi
            rw [List.mem_mergeSort] at hzm
            obtain ⟨x0, hx0, rfl⟩ := List.mem_map.mp hzm
            have s24 := s2.trans s4
            obtain ⟨t0, hget, ht0⟩ := (sbq.mdl.same s24).find hx0
            have et := flt_take (p := fun z => isIntD e1 && atSpot rows d1 e1 z) hzi
            rw [et, atSpot_at hmN hx0]
            refine ⟨rfl, ?_⟩
            refine ⟨_, rfl, _, rfl, ?_⟩
            have yes' : (isIntD e1 && (PyData.eqv (.str x0.2.1) d1 && PyData.eqv (.int x0.2.2) e1)) = true → ∃ acc, G4 D = some (.lst acc) ∧ acc.length < sizeLine ∧ upd G4 D (.lst (acc ++ [V.str x0.1])) D = some (.lst (List.map V.str (List.filter (fun z => isIntD e1 && atSpot rows d1 e1 z) (List.take i ((List.map (fun x => x.1) rows).mergeSort leS)) ++ if (isIntD e1 && (PyData.eqv (.str x0.2.1) d1 && PyData.eqv (.int x0.2.2) e1)) = true then [x0.1] else []))) ∧ Same J2 (upd G4 D (.lst (acc ++ [V.str x0.1]))) := fun c => by
              refine ⟨_, hA, ?_, ?_, fun y o z => ?_⟩
              · have h1 := List.length_filter_le (fun z => isIntD e1 && atSpot rows d1 e1 z) (List.take i ((List.map (fun x => x.1) rows).mergeSort leS))
                rw [List.length_take, List.length_mergeSort, List.length_map] at h1
                rw [List.length_map, sizeLine_eq]
                omega
              · rw [upd_same, if_pos c, List.map_append]
                rfl
              · rw [upd_ne (ne_of_none z nD)]
                exact s4 _ _ z
            have no' : (isIntD e1 && (PyData.eqv (.str x0.2.1) d1 && PyData.eqv (.int x0.2.2) e1)) = false → G4 D = some (.lst (List.map V.str (List.filter (fun z => isIntD e1 && atSpot rows d1 e1 z) (List.take i ((List.map (fun x => x.1) rows).mergeSort leS)) ++ if (isIntD e1 && (PyData.eqv (.str x0.2.1) d1 && PyData.eqv (.int x0.2.2) e1)) = true then [x0.1] else []))) ∧ Same J2 G4 := fun c => by
              rw [c, if_neg (by decide), List.append_nil]
              exact ⟨hA, s4⟩
            have hx4 := hx1.same s24
            have hy4 := hy1.same s24
            have hT4 := s24 _ _ hT
            have hl0 : (PyData.str x0.2.1).canLay0 = true ∧ (PyData.str x0.2.1).depth ≤ 2 := ⟨nm_strOk (hok x0 hx0).2, by show 0 ≤ 2; decide⟩
            cases ci : isIntD e1 with
            | false =>
              rw [ci] at no'
              exact no rfl (no rfl (no' rfl))
            | true =>
              rw [ci] at yes' no'
              refine yes rfl ⟨_, rfl, _, rfl, md, _, rfl, hget, _, rfl, _, _, .tup (SqT.of ht0) (.cons (.str _) (.cons (.int _) .nil)), .tup (SqT.of hT4) (.cons hx4.dp (.cons hy4.dp .nil)), two_shp hl0 ⟨rfl, by show 0 ≤ 2; decide⟩, two_shp (th_lay hx4) (th_lay hy4), _, rfl, ?_⟩
              have ee : PyData.eqv (.tuple [.str x0.2.1, .int x0.2.2]) (.tuple [d1, e1]) = (PyData.eqv (.str x0.2.1) d1 && PyData.eqv (.int x0.2.2) e1) := by
                show (PyData.eqv (.str x0.2.1) d1 && (PyData.eqv (.int x0.2.2) e1 && true)) = _
                rw [Bool.and_true]
              rw [ee]
              refine ite2' (fun c => ?_) (fun c => ?_)
              · exact ⟨_, rfl, yes' (by rw [c]; rfl)⟩
              · exact no' (by rw [c]; rfl)
          rintro G4 ⟨hA, s4⟩
          rw [List.length_map, List.take_length] at hA
          have hNS : ((((rows.map (·.1)).mergeSort leS).filter fun z => isIntD e1 && atSpot rows d1 e1 z)).head? = (foundD rows d1 e1).map (·.2) := by
            cases ci : isIntD e1 with
            | false =>
              have e0 : foundD rows d1 e1 = none := by cases e1 <;> first | rfl | cases ci
              have ef : ∀ l : List Str, l.filter (fun z => false && atSpot rows d1 e1 z) = [] := fun l => List.filter_eq_nil_iff.mpr (fun _ _ h => by cases h)
              rw [e0, ef]
              rfl
            | true =>
              obtain ⟨q0, rfl⟩ : ∃ q0, e1 = .int q0 := by cases e1 <;> first | exact ⟨_, rfl⟩ | cases ci
              exact (found_names hmN d1 q0).symm
          have nmNS : ∀ z ∈ (((rows.map (·.1)).mergeSort leS).filter fun z => isIntD e1 && atSpot rows d1 e1 z), isNm z = true := fun z hz => by
            have h1 := (List.mem_filter.mp hz).1
            rw [List.mem_mergeSort] at h1
            obtain ⟨x0, hx0, rfl⟩ := List.mem_map.mp h1
            exact (hok x0 hx0).1
          generalize (((rows.map (·.1)).mergeSort leS).filter fun z => isIntD e1 && atSpot rows d1 e1 z) = NS at hA hNS nmNS ⊢
          have s24 := s2.trans s4
          have hx4 := hx1.same s24
          have hy4 := hy1.same s24
          have hT4 := s24 _ _ hT
          have sb4 := sbq.same s24
          have sG4 := sG.trans s24
          clear s2 s4 s1 f1' f2' np1 np2 nD sbq hT hx1 hy1
          dsimp only [gName, List.set]
          refine gen_v (A := fun Q => tIf _ _ _ _ _ Q) (P := fun v G2 => Same G4 G2 ∧ ((∃ z r, NS = z :: r ∧ v = .str z) ∨ (NS = [] ∧ ∃ W, v = .ref W ∧ G2 W = some (.tup [.str "none", .str d1.shown, .str e1.shown])))) ?_ ?_
          rotate_left
          · intro Q hQ
            refine ⟨_, rfl, (by show 0 ≤ sizeLine; decide), fun E nE => ?_⟩
            have sE := same_put (o := .lst []) nE
            have hAE := sE _ _ hA
            have hx5 := hx4.same sE
            have hy5 := hy4.same sE
            have hT5 := sE _ _ hT4
            refine ⟨_, _, .lst (SqL.of hAE) (dp_strs NS), .lst (SqL.of upd_same) .nil, strs_shaped nmNS, rfl, _, rfl, ?_⟩
            rw [nil_ne]
            cases NS with
            | nil =>
              refine no rfl ?_
              refine ⟨_, rfl, T, _, _, _, rfl, rfl, SqT.of hT5, rfl, _, d1, rfl, hx5.dp, big_small hx5, ?_⟩
              refine ⟨_, rfl, T, _, _, _, rfl, rfl, SqT.of hT5, rfl, _, e1, rfl, hy5.dp, big_small hy5, (by show 3 ≤ sizeLine; decide), fun W nW => ?_⟩
              exact hQ _ _ ⟨sE.trans (same_put nW), .inr ⟨rfl, W, rfl, upd_same⟩⟩
            | cons z r =>
              refine yes rfl ?_
              exact ⟨_, rfl, D, _, _, _, rfl, rfl, SqL.of hAE, atI_zero _ _, hQ _ _ ⟨sE, .inl ⟨z, r, rfl, rfl⟩⟩⟩
          rintro wv G5 ⟨s5, hwant⟩
          dsimp only [gName, List.set]
          have hx5 := hx4.same s5
          have hy5 := hy4.same s5
          have hT5 := s5 _ _ hT4
          have sb5 := sb4.same s5
          refine ⟨_, rfl, _, rfl, T, _, _, _, rfl, rfl, SqT.of hT5, rfl, _, rfl, T, _, _, _, rfl, rfl, SqT.of hT5, rfl, bd, rows, x1, y1, d1, e1, rfl, sb5.bd, by omega, (fun y hy => (hok y hy).2), hx5, hy5, fun q0 hq0 G9 s9 => ?_, fun hq0 p9 G9 s9 hp9 => ?_⟩
          · rcases hwant with ⟨z, r, eNS, rfl⟩ | ⟨eNS, _⟩
            · have ez : z = q0.2 := by
                rw [eNS, hq0] at hNS
                exact Option.some.inj hNS
              have shz : SeqAt.shaped (.str z) = true := shp_str (nm_sc (m := 0) (nmNS z (by rw [eNS]; exact List.mem_cons_self)))
              subst ez
              refine ⟨_, rfl, _, _, .str _, .str _, shz, shz, ?_⟩
              rw [ne_refl shz]
              exact ⟨_, rfl, no rfl ⟨_, _, _, _, _, _, rfl, sG4.trans (s5.trans s9)⟩⟩
            · rw [eNS, hq0] at hNS
              cases hNS
          · rcases hwant with ⟨z, r, eNS, _⟩ | ⟨_, W, rfl, hW⟩
            · rw [eNS, hq0] at hNS
              cases hNS
            · have sh3 : SeqAt.shaped (.tuple [.str "none", .str d1.shown, .str e1.shown]) = true := three_shp (by decide +kernel) hx5.text hy5.text
              refine ⟨_, rfl, _, _, .tup (SqT.of hp9) (.cons (.str _) (.cons (.str _) (.cons (.str _) .nil))), .tup (SqT.of (s9 _ _ hW)) (.cons (.str _) (.cons (.str _) (.cons (.str _) .nil))), sh3, sh3, ?_⟩
              rw [ne_refl sh3]
              exact ⟨_, rfl, no rfl ⟨_, _, _, _, _, _, rfl, sG4.trans (s5.trans s9)⟩⟩
        rintro σ G8 ⟨u7, u13, u14, u15, u16, u17, rfl, sG⟩
        replace sb := sb.same sG
        replace hz := hz.same sG
        clear hx hy ht f1 f2 f3 f4 sG
        -- what is not there is asked for
        dsimp only
        refine seq_by (fun σ G => ∃ u7 u13 u14 u15 u16 u17, σ = [some (.ref a), some (.int (i : Int)), some (.ref b), some (.ref L), some (.ref N), some (.ref bd), some (.ref md), u7, some (.int (m : Int)), some lv, some yv, some rv, some (.str th), u13, u14, u15, u16, u17] ∧ Same G8 G) ?_ (fun nxt => ?_)
        rotate_left
        · refine gen_q (A := fun Q => tOr _ _ _ _ Q) (P := fun c G => (c = true → isRow rows dz = false) ∧ Same G8 G) ?_ ?_
          · rintro c G9 ⟨hc, s9⟩
            refine ite2' (fun ec => ?_) (fun _ => ?_)
            · have hno := hc ec
              replace sb := sb.same s9
              replace hz := hz.same s9
              refine ⟨(by show 2 ≤ sizeLine; decide), fun T5 n5 => ⟨T5, rfl, ⟨_, SqT.of upd_same⟩, ?_⟩⟩
              have s5 := same_put (o := .tup [V.int 0, V.int 1]) n5
              have f5 : upd G9 T5 (.tup [V.int 0, V.int 1]) T5 = some (.tup [V.int 0, V.int 1]) := upd_same
              replace s9 := s9.trans s5
              replace sb := sb.same s5
              replace hz := hz.same s5
              generalize upd G9 T5 (.tup [V.int 0, V.int 1]) = Ga at s9 f5 sb hz ⊢
              refine for_it (walk_tup (K := K) (a := T5) (xs := [V.int 0, V.int 1])) (fun q σ G => ∃ u7 u13 u14 u15 u16 u17, σ = [some (.ref a), some (.int (i : Int)), some (.ref b), some (.ref L), some (.ref N), some (.ref bd), some (.ref md), u7, some (.int (m : Int)), some lv, some yv, some rv, some (.str th), u13, u14, u15, u16, u17] ∧ Same Ga G)
                ⟨_, _, _, _, _, _, rfl, .refl _⟩ (fun _ _ _ _ h => by obtain ⟨_, _, _, _, _, _, _, h⟩ := h; exact SqT.of (h _ _ f5)) ?_ ?_
              · rintro q x σ G' G hq ⟨u7, u13, u14, u15, u16, u17, rfl, sG⟩ ⟨rfl, hxq⟩
                obtain ⟨rd, rfl⟩ : ∃ rd : Int, x = .int rd := by
                  match q, hxq with
                  | 0, e => exact ⟨_, (Option.some.inj e).symm⟩
                  | 1, e => exact ⟨_, (Option.some.inj e).symm⟩
                have sb1 := sb.same sG
                have hz1 := hz.same sG
                dsimp only [gName, List.set]
                refine ⟨_, rfl, _, rfl, _, rfl, bd, rows, rv, dz, rd, rfl, sb1.bd, hz1, hno, fun p6 G6 s6 hp6 => ?_⟩
                have hz2 := hz1.same s6
                refine ⟨_, rfl, rv, dz, rfl, hz2.dp, big_small hz2, (by show 2 ≤ sizeLine; decide), fun W nW => ?_⟩
                have sW := same_put (o := .tup [V.str "row", V.str dz.shown]) nW
                have fW : upd G6 W (.tup [V.str "row", V.str dz.shown]) W = some (.tup [V.str "row", V.str dz.shown]) := upd_same
                replace hp6 := sW _ _ hp6
                have s7 := s6.trans sW
                generalize upd G6 W (.tup [V.str "row", V.str dz.shown]) = G7 at fW hp6 s7 ⊢
                have shp : SeqAt.shaped (.tuple [.str "row", .str dz.shown]) = true := pair_shp (by decide +kernel) hz2.text
                refine ⟨_, _, .tup (SqT.of hp6) (.cons (.str _) (.cons (.str _) .nil)), .tup (SqT.of fW) (.cons (.str _) (.cons (.str _) .nil)), shp, shp, ?_⟩
                rw [ne_refl shp]
                refine ⟨_, rfl, no rfl ?_⟩
                have sb3 := sb1.same s7
                obtain ⟨bx, b0, kv0, ha3, _⟩ := id sb3.bd
                refine ⟨_, rfl, _, rfl, bd, rfl, ⟨_, _, ha3⟩, bd, rows, rv, dz, rfl, sb3.bd, hz1.same s7, _, rfl, ?_⟩
                rw [hno]
                exact ⟨_, rfl, no rfl ⟨_, _, _, _, _, _, rfl, sG.trans s7⟩⟩
              · rintro σ G ⟨u7, u13, u14, u15, u16, u17, rfl, sG⟩
                exact nxt _ _ ⟨_, _, _, _, _, _, rfl, s9.trans sG⟩
            · exact nxt _ _ ⟨_, _, _, _, _, _, rfl, s9⟩
          · intro Q hQ
            refine ⟨_, rfl, rv, dz, rfl, hz.dp, hz.okN, fun G9 s9 => ⟨_, rfl, ?_⟩⟩
            cases c1 : nmD dz with
            | false =>
              refine yes rfl (hQ _ _ ⟨fun _ => ?_, s9⟩)
              cases dz with
              | str z =>
                show (rows.any fun x => decide (x.1 = z)) = false
                rw [List.any_eq_false]
                intro x hx e
                have h1 := (hok x hx).1
                rw [of_decide_eq_true e, show isNm z = false from c1] at h1
                cases h1
              | _ => rfl
            | true =>
              obtain ⟨z, rfl⟩ : ∃ z, dz = .str z := by cases dz <;> first | exact ⟨_, rfl⟩ | cases c1
              obtain rfl := th_str hz
              obtain ⟨kvm, hmd, hmE, hmN⟩ := id (sb.same s9).mdl
              have eany : (valV kvm (Sum.inr z : Key)).isSome = rows.any fun x => decide (x.1 = z) := by
                rw [← hmE.any z]
                unfold valV
                rw [Option.isSome_map, Bool.eq_iff_iff, List.find?_isSome, List.any_eq_true]
              refine no rfl ⟨_, rfl, _, rfl, md, _, rfl, DGet.k (k := Sum.inr z) hmd, _, rfl, ?_⟩
              rw [eany]
              refine hQ _ _ ⟨fun e => ?_, s9⟩
              show (rows.any fun x => decide (x.1 = z)) = false
              cases h : (rows.any fun x => decide (x.1 = z)) with
              | false => rfl
              | true => rw [h] at e; cases e
        rintro σ G9 ⟨u7, u13, u14, u15, u16, u17, rfl, s9⟩
        replace sb := sb.same s9
        refine ⟨_, rfl, _, rfl, _, rfl, _, rfl, bd, md, L, N, rows, ls, nms, rfl, sb.bd, sb.mdl, sb.hl, sb.hn, by omega, by omega, by omega, hok, nmL, nmN, ndL, hin, fun G10 s10 => ⟨_, rfl, no rfl ?_⟩⟩
        exact ⟨_, _, _, _, _, _, _, _, _, _, _, rows, rfl, (sb.same s10).mono (by omega), by omega, hok, hin⟩
      · rintro σ G ⟨w7, w8, w9, w10, w11, w12, w13, w14, w15, w16, w17, rows, rfl, sb, _⟩
        exact ⟨_, _, _, _, _, _, _, _, _, _, _, _, _, _, _, _, _, rfl, sb.kept⟩
end
end K86

set_option Elab.async false
set_option maxRecDepth 100000
set_option maxHeartbeats 0
namespace K86
open PySem PySem.Spec PyProof.Rows L2 He KX
structure Fs (K : PySem.W.Frag) : Prop where
  brd : Brd K
  fre : ∀ x ∈ frees, (Fa.free x).ok K = true
  glo : ∀ x ∈ gls, (Fa.glo x).ok K = true
  bn : ErBN K
  bp : ErBP K
  nr : ErNR K
  np : ErNP K
theorem ba9 {a b : Bool} (h : (a && b) = true) : a = true ∧ b = true := Bool.and_eq_true_iff.mp h
theorem brd_of {K : PySem.W.Frag} (h : brdB K = true) : Brd K := by
  unfold brdB at h
  obtain ⟨h1, h⟩ := ba9 h
  obtain ⟨h2, h⟩ := ba9 h
  obtain ⟨h3, h⟩ := ba9 h
  obtain ⟨h4, h5⟩ := ba9 h
  exact ⟨mkr_ok h1, cls_ok h2, noat_ok h3, fun m hm => meth_ok (List.all_eq_true.mp h4 m hm), h5⟩
theorem facts_of {K : PySem.W.Frag} (h : chk K = true) : Fs K := by
  unfold chk at h
  obtain ⟨h1, h⟩ := ba9 h
  obtain ⟨h2, h⟩ := ba9 h
  obtain ⟨h4, h5⟩ := ba9 h
  unfold errB at h1
  obtain ⟨e1, h1⟩ := ba9 h1
  obtain ⟨e2, h1⟩ := ba9 h1
  obtain ⟨e3, e4⟩ := ba9 h1
  exact ⟨brd_of h2, List.all_eq_true.mp h4, List.all_eq_true.mp h5, er_of e1, er_of e2, er_of e3, er_of e4⟩
theorem all_ok {P : Program} {w : World} {K : PySem.W.Frag} {h : Heap} {mg : Str → Option Value} {f : Addr} (X : K.In h) (G : h.Ns mainGlobals mg) (hfa : mg ("law" : Str) = some (.ref f)) (c : SaysX chk fn K) :
    ∃ fd : FuncData, (∀ (s : Shared) (u : Value), BindsTo s fd ⟨[u], []⟩ [("script", u)]) ∧ ∀ base : Heap, K.In base → base.Ns mainGlobals mg → FnG P w K mg base CX0 6 f fd ["script"] (spLaw K) := by
  have cx := c
  have S := facts_of cx.1
  have g : ∀ x ∈ gls, mg x = some (.ref (ga K x)) := fun x hx => glo_ok X G (S.glo x hx)
  have fr : ∀ x ∈ frees, mg x = none := fun x hx => free_ok X G (S.fre x hx)
  obtain ⟨fd0, F0⟩ := cx.fd 0
  replace F0 : FnP K "is_integer" sInt (ga K "is_integer") fd0 := F0
  obtain ⟨fd1, F1⟩ := cx.fd 1
  replace F1 : FnP K "is_name" sName (ga K "is_name") fd1 := F1
  obtain ⟨fd7, F7⟩ := cx.fd 7
  replace F7 : FnP K "_law_bag" sBag (ga K "_law_bag") fd7 := F7
  obtain ⟨fd8, F8⟩ := cx.fd 8
  replace F8 : FnP K "_law_draw" sDraw (ga K "_law_draw") fd8 := F8
  obtain ⟨fd9, F9⟩ := cx.fd 9
  replace F9 : FnP K "_law_of" sOf (ga K "_law_of") fd9 := F9
  obtain ⟨fd10, F10⟩ := cx.fd 10
  replace F10 : FnP K "_law_name" sLNm (ga K "_law_name") fd10 := F10
  obtain ⟨fd11, F11⟩ := cx.fd 11
  replace F11 : FnP K "_law_names" sLNms (ga K "_law_names") fd11 := F11
  obtain ⟨fd12, F12⟩ := cx.fd 12
  replace F12 : FnP K "_law_rows" sLRows (ga K "_law_rows") fd12 := F12
  obtain ⟨fd13, F13⟩ := cx.fd 13
  replace F13 : FnP K "_law_same" sLSame (ga K "_law_same") fd13 := F13
  obtain ⟨fd14, F14⟩ := cx.fd 14
  replace F14 : FnP K "_law_odd" sLOdd (ga K "_law_odd") fd14 := F14
  obtain ⟨fd15, F15⟩ := cx.fd 15
  replace F15 : FnP K "_law_is_name" sLIn (ga K "_law_is_name") fd15 := F15
  obtain ⟨fd16, F16⟩ := cx.fd 16
  replace F16 : FnP K "_law_class" sLCls (ga K "_law_class") fd16 := F16
  obtain ⟨fd17, F17⟩ := cx.fd 17
  replace F17 : FnP K "_law_written" sLWri (ga K "_law_written") fd17 := F17
  obtain ⟨fd18, F18⟩ := cx.fd 18
  replace F18 : FnP K "_law_got" sLGot (ga K "_law_got") fd18 := F18
  obtain ⟨fd19, F19⟩ := cx.fd 19
  replace F19 : FnP K "_law_asked" sLAsk (ga K "_law_asked") fd19 := F19
  obtain ⟨fd20, F20⟩ := cx.fd 20
  replace F20 : FnP K "_law_refusal" sLRfs (ga K "_law_refusal") fd20 := F20
  obtain ⟨fd21, F21⟩ := cx.fd 21
  replace F21 : FnP K "law" sLaw (ga K "law") fd21 := F21
  obtain ⟨fd2, F2⟩ := cx.fd 2
  replace F2 : FunD K "__init__" (("NoRow" : Str) ++ ".__init__") (defArgs sNRI) (defBody sNRI) (defScope sNRI) [] [] (ma K (ga K "NoRow") "__init__") fd2 := F2
  rw [(by decide +kernel : (("NoRow" : Str) ++ ".__init__" : Str) = "NoRow.__init__")] at F2
  obtain ⟨fd3, F3⟩ := cx.fd 3
  replace F3 : FunD K "__init__" (("NoPlace" : Str) ++ ".__init__") (defArgs sNPI) (defBody sNPI) (defScope sNPI) [] [] (ma K (ga K "NoPlace") "__init__") fd3 := F3
  rw [(by decide +kernel : (("NoPlace" : Str) ++ ".__init__" : Str) = "NoPlace.__init__")] at F3
  obtain ⟨fd4, F4⟩ := cx.fd 4
  replace F4 : FunD K "__init__" (("BadName" : Str) ++ ".__init__") (defArgs sBNI) (defBody sBNI) (defScope sBNI) [] [] (ma K (ga K "BadName") "__init__") fd4 := F4
  rw [(by decide +kernel : (("BadName" : Str) ++ ".__init__" : Str) = "BadName.__init__")] at F4
  obtain ⟨fd5, F5⟩ := cx.fd 5
  replace F5 : FunD K "__init__" (("BadPlace" : Str) ++ ".__init__") (defArgs sBPI) (defBody sBPI) (defScope sBPI) [] [] (ma K (ga K "BadPlace") "__init__") fd5 := F5
  rw [(by decide +kernel : (("BadPlace" : Str) ++ ".__init__" : Str) = "BadPlace.__init__")] at F5
  obtain ⟨fd6, F6⟩ := cx.fd 6
  replace F6 : FunD K "__init__" (("Board" : Str) ++ ".__init__") (defArgs sBI) (defBody sBI) (defScope sBI) [] [] (ma K (ga K "Board") "__init__") fd6 := F6
  rw [(by decide +kernel : (("Board" : Str) ++ ".__init__" : Str) = "Board.__init__")] at F6
  obtain ⟨fd22, F22⟩ := cx.fd 22
  replace F22 : FunD K "__setitem__" (("Board" : Str) ++ "." ++ "__setitem__") (defArgs sBSet) (defBody sBSet) (defScope sBSet) [] [] (ma K (ga K "Board") "__setitem__") fd22 := F22
  rw [(by decide +kernel : (("Board" : Str) ++ "." ++ "__setitem__" : Str) = "Board.__setitem__")] at F22
  replace F22 : MtP K "__setitem__" "Board.__setitem__" sBSet (ma K (ga K "Board") "__setitem__") fd22 := F22
  obtain ⟨fd23, F23⟩ := cx.fd 23
  replace F23 : FunD K "__getitem__" (("Board" : Str) ++ "." ++ "__getitem__") (defArgs sBGet) (defBody sBGet) (defScope sBGet) [] [] (ma K (ga K "Board") "__getitem__") fd23 := F23
  rw [(by decide +kernel : (("Board" : Str) ++ "." ++ "__getitem__" : Str) = "Board.__getitem__")] at F23
  replace F23 : MtP K "__getitem__" "Board.__getitem__" sBGet (ma K (ga K "Board") "__getitem__") fd23 := F23
  obtain ⟨fd24, F24⟩ := cx.fd 24
  replace F24 : FunD K "__contains__" (("Board" : Str) ++ "." ++ "__contains__") (defArgs sBHas) (defBody sBHas) (defScope sBHas) [] [] (ma K (ga K "Board") "__contains__") fd24 := F24
  rw [(by decide +kernel : (("Board" : Str) ++ "." ++ "__contains__" : Str) = "Board.__contains__")] at F24
  replace F24 : MtP K "__contains__" "Board.__contains__" sBHas (ma K (ga K "Board") "__contains__") fd24 := F24
  obtain ⟨fd25, F25⟩ := cx.fd 25
  replace F25 : FunD K "__len__" (("Board" : Str) ++ "." ++ "__len__") (defArgs sBLen) (defBody sBLen) (defScope sBLen) [] [] (ma K (ga K "Board") "__len__") fd25 := F25
  rw [(by decide +kernel : (("Board" : Str) ++ "." ++ "__len__" : Str) = "Board.__len__")] at F25
  replace F25 : MtP K "__len__" "Board.__len__" sBLen (ma K (ga K "Board") "__len__") fd25 := F25
  obtain ⟨fd26, F26⟩ := cx.fd 26
  replace F26 : FunD K "at" (("Board" : Str) ++ "." ++ "at") (defArgs sBAt) (defBody sBAt) (defScope sBAt) [] [] (ma K (ga K "Board") "at") fd26 := F26
  rw [(by decide +kernel : (("Board" : Str) ++ "." ++ "at" : Str) = "Board.at")] at F26
  replace F26 : MtP K "at" "Board.at" sBAt (ma K (ga K "Board") "at") fd26 := F26
  obtain ⟨fd27, F27⟩ := cx.fd 27
  replace F27 : FunD K "drop" (("Board" : Str) ++ "." ++ "drop") (defArgs sBDrop) (defBody sBDrop) (defScope sBDrop) [] [] (ma K (ga K "Board") "drop") fd27 := F27
  rw [(by decide +kernel : (("Board" : Str) ++ "." ++ "drop" : Str) = "Board.drop")] at F27
  replace F27 : MtP K "drop" "Board.drop" sBDrop (ma K (ga K "Board") "drop") fd27 := F27
  obtain ⟨fd28, F28⟩ := cx.fd 28
  replace F28 : FunD K "rows_of" (("Board" : Str) ++ "." ++ "rows_of") (defArgs sBRows) (defBody sBRows) (defScope sBRows) [] [] (ma K (ga K "Board") "rows_of") fd28 := F28
  rw [(by decide +kernel : (("Board" : Str) ++ "." ++ "rows_of" : Str) = "Board.rows_of")] at F28
  replace F28 : MtP K "rows_of" "Board.rows_of" sBRows (ma K (ga K "Board") "rows_of") fd28 := F28
  obtain ⟨fd29, F29⟩ := cx.fd 29
  replace F29 : FunD K "places_of" (("Board" : Str) ++ "." ++ "places_of") (defArgs sBPlaces) (defBody sBPlaces) (defScope sBPlaces) [] [] (ma K (ga K "Board") "places_of") fd29 := F29
  rw [(by decide +kernel : (("Board" : Str) ++ "." ++ "places_of" : Str) = "Board.places_of")] at F29
  replace F29 : MtP K "places_of" "Board.places_of" sBPlaces (ma K (ga K "Board") "places_of") fd29 := F29
  obtain ⟨fd30, F30⟩ := cx.fd 30
  replace F30 : FunD K "list_names" (("Board" : Str) ++ "." ++ "list_names") (defArgs sBNames) (defBody sBNames) (defScope sBNames) [] [] (ma K (ga K "Board") "list_names") fd30 := F30
  rw [(by decide +kernel : (("Board" : Str) ++ "." ++ "list_names" : Str) = "Board.list_names")] at F30
  replace F30 : MtP K "list_names" "Board.list_names" sBNames (ma K (ga K "Board") "list_names") fd30 := F30
  obtain ⟨fd31, F31⟩ := cx.fd 31
  replace F31 : FunD K "_pairs" (("Board" : Str) ++ "." ++ "_pairs") (defArgs sBPairs) (defBody sBPairs) (defScope sBPairs) [] [] (ma K (ga K "Board") "_pairs") fd31 := F31
  rw [(by decide +kernel : (("Board" : Str) ++ "." ++ "_pairs" : Str) = "Board._pairs")] at F31
  replace F31 : MtP K "_pairs" "Board._pairs" sBPairs (ma K (ga K "Board") "_pairs") fd31 := F31
  have e := hfa.symm.trans (g "law" (by decide))
  cases e
  refine ⟨fd21, fun s u => FunD.bindsA (ps := ["script"]) F21 (fun _ _ _ _ _ _ us hl => match us, hl with | [_], _ => rfl) s [u] rfl, fun base _ _ => ?_⟩
  have n_isinstance := fr "isinstance" (by decide)
  have n_int := fr "int" (by decide)
  have n_bool := fr "bool" (by decide)
  have n_str := fr "str" (by decide)
  have n_len := fr "len" (by decide)
  have n_all := fr "all" (by decide)
  have n_tuple := fr "tuple" (by decide)
  have n_list := fr "list" (by decide)
  have n_enumerate := fr "enumerate" (by decide)
  have n_sum := fr "sum" (by decide)
  have n_abs := fr "abs" (by decide)
  have n_range := fr "range" (by decide)
  have n_max := fr "max" (by decide)
  have n_min := fr "min" (by decide)
  have n_sorted := fr "sorted" (by decide)
  have n_dict := fr "dict" (by decide)
  have n_repr := fr "repr" (by decide)
  have n_ValueError := fr "ValueError" (by decide)
  have n_LookupError := fr "LookupError" (by decide)
  have b0 : Binds K fd0 ["thing"] [] := F0.bindsN fun _ _ _ _ _ _ us hl => match us, hl with | [_], _ => rfl
  have b1 : Binds K fd1 ["thing"] [] := F1.bindsN fun _ _ _ _ _ _ us hl => match us, hl with | [_], _ => rfl
  have b7 : Binds K fd7 ["script", "at"] [] := F7.bindsN fun _ _ _ _ _ _ us hl => match us, hl with | [_, _], _ => rfl
  have b8 : Binds K fd8 ["bag", "many"] [] := F8.bindsN fun _ _ _ _ _ _ us hl => match us, hl with | [_, _], _ => rfl
  have b9 : Binds K fd9 ["bag", "some"] [] := F9.bindsN fun _ _ _ _ _ _ us hl => match us, hl with | [_, _], _ => rfl
  have b10 : Binds K fd10 ["bag"] [] := F10.bindsN fun _ _ _ _ _ _ us hl => match us, hl with | [_], _ => rfl
  have b11 : Binds K fd11 ["bag", "many"] [] := F11.bindsN fun _ _ _ _ _ _ us hl => match us, hl with | [_, _], _ => rfl
  have b12 : Binds K fd12 ["model", "lst"] [] := F12.bindsN fun _ _ _ _ _ _ us hl => match us, hl with | [_, _], _ => rfl
  have b13 : Binds K fd13 ["board", "model", "lists", "names"] [] := F13.bindsN fun _ _ _ _ _ _ us hl => match us, hl with | [_, _, _, _], _ => rfl
  have b14 : Binds K fd14 ["bag"] [] := F14.bindsN fun _ _ _ _ _ _ us hl => match us, hl with | [_], _ => rfl
  have b15 : Binds K fd15 ["thing"] [] := F15.bindsN fun _ _ _ _ _ _ us hl => match us, hl with | [_], _ => rfl
  have b16 : Binds K fd16 ["e"] [] := F16.bindsN fun _ _ _ _ _ _ us hl => match us, hl with | [_], _ => rfl
  have b17 : Binds K fd17 ["board", "lst", "place", "row"] [] := F17.bindsN fun _ _ _ _ _ _ us hl => match us, hl with | [_, _, _, _], _ => rfl
  have b18 : Binds K fd18 ["board", "lst", "place"] [] := F18.bindsN fun _ _ _ _ _ _ us hl => match us, hl with | [_, _, _], _ => rfl
  have b19 : Binds K fd19 ["board", "row", "road"] [] := F19.bindsN fun _ _ _ _ _ _ us hl => match us, hl with | [_, _, _], _ => rfl
  have b20 : Binds K fd20 ["lst", "place", "row"] [] := F20.bindsN fun _ _ _ _ _ _ us hl => match us, hl with | [_, _, _], _ => rfl
  have b21 : Binds K fd21 ["script"] [] := F21.bindsN fun _ _ _ _ _ _ us hl => match us, hl with | [_], _ => rfl
  have b2 : Binds K fd2 ["self", "row"] [] := F2.bindsN fun _ _ _ _ _ _ us hl => match us, hl with | [_, _], _ => rfl
  have b3 : Binds K fd3 ["self", "lst", "place"] [] := F3.bindsN fun _ _ _ _ _ _ us hl => match us, hl with | [_, _, _], _ => rfl
  have b4 : Binds K fd4 ["self", "name"] [] := F4.bindsN fun _ _ _ _ _ _ us hl => match us, hl with | [_, _], _ => rfl
  have b5 : Binds K fd5 ["self", "place"] [] := F5.bindsN fun _ _ _ _ _ _ us hl => match us, hl with | [_, _], _ => rfl
  have b6 : Binds K fd6 ["self"] [] := F6.bindsN fun _ _ _ _ _ _ us hl => match us, hl with | [_], _ => rfl
  have b22 : Binds K fd22 ["self", "at", "worth"] [] := F22.bindsN fun _ _ _ _ _ _ us hl => match us, hl with | [_, _, _], _ => rfl
  have b23 : Binds K fd23 ["self", "at"] [] := F23.bindsN fun _ _ _ _ _ _ us hl => match us, hl with | [_, _], _ => rfl
  have b24 : Binds K fd24 ["self", "x"] [] := F24.bindsN fun _ _ _ _ _ _ us hl => match us, hl with | [_, _], _ => rfl
  have b25 : Binds K fd25 ["self"] [] := F25.bindsN fun _ _ _ _ _ _ us hl => match us, hl with | [_], _ => rfl
  have b26 : Binds K fd26 ["self", "row"] [] := F26.bindsN fun _ _ _ _ _ _ us hl => match us, hl with | [_, _], _ => rfl
  have b27 : Binds K fd27 ["self", "row"] [] := F27.bindsN fun _ _ _ _ _ _ us hl => match us, hl with | [_, _], _ => rfl
  have b28 : Binds K fd28 ["self", "lst"] [] := F28.bindsN fun _ _ _ _ _ _ us hl => match us, hl with | [_, _], _ => rfl
  have b29 : Binds K fd29 ["self", "lst"] [] := F29.bindsN fun _ _ _ _ _ _ us hl => match us, hl with | [_, _], _ => rfl
  have b30 : Binds K fd30 ["self"] [] := F30.bindsN fun _ _ _ _ _ _ us hl => match us, hl with | [_], _ => rfl
  have b31 : Binds K fd31 ["self", "lst"] [] := F31.bindsN fun _ _ _ _ _ _ us hl => match us, hl with | [_, _], _ => rfl
  have g0 := g "is_integer" (by decide)
  have g1 := g "is_name" (by decide)
  have g7 := g "_law_bag" (by decide)
  have g8 := g "_law_draw" (by decide)
  have g9 := g "_law_of" (by decide)
  have g10 := g "_law_name" (by decide)
  have g11 := g "_law_names" (by decide)
  have g12 := g "_law_rows" (by decide)
  have g13 := g "_law_same" (by decide)
  have g14 := g "_law_odd" (by decide)
  have g15 := g "_law_is_name" (by decide)
  have g16 := g "_law_class" (by decide)
  have g17 := g "_law_written" (by decide)
  have g18 := g "_law_got" (by decide)
  have g19 := g "_law_asked" (by decide)
  have g20 := g "_law_refusal" (by decide)
  have g21 := g "law" (by decide)
  have G0 : FnOk P w K mg base CX0 1 (ga K "is_integer") fd0 ["thing"] (spInt K) := ok_int F0 n_isinstance n_int n_bool
  have G1 : FnOk P w K mg base CX0 1 (ga K "is_name") fd1 ["thing"] (spName K) := ok_name F1 n_isinstance n_str n_len n_all
  have G7 : FnOk P w K mg base CX0 1 (ga K "_law_bag") fd7 ["script", "at"] (spBag K) := ok_bag F7 n_len n_abs n_int
  have G8 : FnOk P w K mg base CX0 1 (ga K "_law_draw") fd8 ["bag", "many"] spDraw := ok_draw F8 n_int
  have G9 : FnOk P w K mg base CX0 2 (ga K "_law_of") fd9 ["bag", "some"] (spOf K) := ok_of F9 F8 g8 n_len n_int
  have G10 : FnOk P w K mg base CX0 2 (ga K "_law_name") fd10 ["bag"] spLName := ok_lnm F10 G8 b8 F8.kp g8 n_range
  have G11 : FnOk P w K mg base CX0 3 (ga K "_law_names") fd11 ["bag", "many"] spLNames := ok_lnms F11 G8 b8 F8.kp g8 G9 b9 F9.kp g9 G10 b10 F10.kp g10 n_range n_len
  have G12 : FnOk P w K mg base CX0 1 (ga K "_law_rows") fd12 ["model", "lst"] (spLRows K) := ok_lrows F12 n_sorted
  have gB := g "Board" (by decide)
  have G6 : FnOk P w K mg base CX0 1 (ma K (ga K "Board") "__init__") fd6 ["self"] (spBI K) := ok_bi F6 S.brd
  have G24 : FnOk P w K mg base CX0 1 (ma K (ga K "Board") "__contains__") fd24 ["self", "x"] (spHas K) := ok_has F24 S.brd n_isinstance n_str
  have G22 : FnOk P w K mg base CX0 2 (ma K (ga K "Board") "__setitem__") fd22 ["self", "at", "worth"] (spSet K) := ok_bset F22 S.brd G1 b1 F1.kp g1 G0 b0 F0.kp g0
  have G30 : FnOk P w K mg base CX0 1 (ma K (ga K "Board") "list_names") fd30 ["self"] (spNames K) := ok_names F30 S.brd n_sorted
  have G31 : FnOk P w K mg base CX0 1 (ma K (ga K "Board") "_pairs") fd31 ["self", "lst"] (spPairs K) := ok_pairs F31 S.brd n_sorted
  have G25 : FnOk P w K mg base CX0 1 (ma K (ga K "Board") "__len__") fd25 ["self"] (spLen K) := ok_blen F25 S.brd n_len
  have G26 : FnOk P w K mg base CX0 2 (ma K (ga K "Board") "at") fd26 ["self", "row"] (spAt K) := ok_bat F26 S.brd G24 b24
  have G28 : FnOk P w K mg base CX0 2 (ma K (ga K "Board") "rows_of") fd28 ["self", "lst"] (spRowsOf K) := ok_brows F28 S.brd G31 b31
  have G29 : FnOk P w K mg base CX0 2 (ma K (ga K "Board") "places_of") fd29 ["self", "lst"] (spPlacesOf K) := ok_bplaces F29 S.brd G31 b31
  have G23 : FnOk P w K mg base CX0 2 (ma K (ga K "Board") "__getitem__") fd23 ["self", "at"] (spGet K) := ok_bget F23 S.brd G0 b0 F0.kp g0 G31 b31
  have G13 : FnOk P w K mg base CX0 4 (ga K "_law_same") fd13 ["board", "model", "lists", "names"] (spSame K) := ok_lsame F13 S.brd G12 b12 F12.kp g12 G25 b25 G30 b30 G28 b28 G29 b29 G24 b24 G26 b26 G23 b23 (FunD_fn F23) n_sorted n_len
  have G14 : FnOk P w K mg base CX0 3 (ga K "_law_odd") fd14 ["bag"] spLOdd := ok_lodd F14 G9 b9 F9.kp g9
  have G15 : FnOk P w K mg base CX0 1 (ga K "_law_is_name") fd15 ["thing"] (spName K) := ok_lin F15 n_isinstance n_str n_len n_all
  have xPlaceError := g "PlaceError" (by decide)
  have xMissingError := g "MissingError" (by decide)
  have xBadName := g "BadName" (by decide)
  have xBadPlace := g "BadPlace" (by decide)
  have xNoRow := g "NoRow" (by decide)
  have xNoPlace := g "NoPlace" (by decide)
  have H24 : FnOk P w K mg base CX0 1 (ma K (ga K "Board") "__contains__") fd24 ["self", "x"] (spHasD K) := ok_hasD F24 S.brd n_isinstance n_str
  have H31 : FnOk P w K mg base CX0 1 (ma K (ga K "Board") "_pairs") fd31 ["self", "lst"] (spPairsD K) := ok_pairsD F31 S.brd n_sorted
  have H22 : FnOk P w K mg base (L2N.CX P w) 3 (ma K (ga K "Board") "__setitem__") fd22 ["self", "at", "worth"] (spSetR K) := ok_setR F22 S.brd G1 b1 F1.kp g1 G0 b0 F0.kp g0 S.bn S.bp F4 F5 xBadName xBadPlace
  have H23 : FnOk P w K mg base (L2N.CX P w) 3 (ma K (ga K "Board") "__getitem__") fd23 ["self", "at"] (spGetR K) := ok_getR F23 S.brd G0 b0 F0.kp g0 H31 b31 S.np F3 xNoPlace
  have H26 : FnOk P w K mg base (L2N.CX P w) 3 (ma K (ga K "Board") "at") fd26 ["self", "row"] (spMiss K) := ok_atR F26 S.brd H24 b24 S.nr F2 xNoRow
  have H27 : FnOk P w K mg base (L2N.CX P w) 3 (ma K (ga K "Board") "drop") fd27 ["self", "row"] (spMiss K) := ok_dropR F27 S.brd H24 b24 S.nr F2 xNoRow
  have G17 : FnG P w K mg base CX0 4 (ga K "_law_written") fd17 ["board", "lst", "place", "row"] (spWri K) := ok_wri F17 S.brd H22 b22 S.bn S.bp F16 g16 xPlaceError xMissingError xBadName xBadPlace xNoRow xNoPlace n_isinstance n_ValueError n_LookupError n_repr
  have G18 : FnG P w K mg base CX0 5 (ga K "_law_got") fd18 ["board", "lst", "place"] (spGot K) := ok_got F18 S.brd (FunD_fn F23) H23 b23 S.np F16 g16 xPlaceError xMissingError xBadName xBadPlace xNoRow xNoPlace n_isinstance n_ValueError n_LookupError n_repr
  have G19 : FnG P w K mg base CX0 4 (ga K "_law_asked") fd19 ["board", "row", "road"] (spAsk K) := ok_ask F19 S.brd H26 b26 H27 b27 S.nr F16 g16 xPlaceError xMissingError xBadName xBadPlace xNoRow xNoPlace n_isinstance n_ValueError n_LookupError n_repr
  have G20 : FnG P w K mg base CX0 2 (ga K "_law_refusal") fd20 ["lst", "place", "row"] spLRfs := ok_lrfs F20 G15 b15 F15.kp g15 n_isinstance n_int n_bool n_repr
  exact ok_law F21 S.brd G7 b7 F7.kp g7 G8 b8 F8.kp g8 G9 b9 F9.kp g9 G11 b11 F11.kp g11 G13 b13 F13.kp g13 G14 b14 F14.kp g14 G15 b15 F15.kp g15 G17 b17 F17.kp g17 G20 b20 F20.kp g20 G18 b18 F18.kp g18 G19 b19 F19.kp g19 G6 b6 gB G22 b22 H24 b24 n_max n_min n_len n_range n_list n_sorted n_isinstance n_int n_bool n_repr
end K86
open PySem PySem.W PySem.Calls PyProof.Rows
set_option maxRecDepth 100000 in
set_option maxHeartbeats 0 in
theorem PySem.Challenge.cw_rowsinplace_k86_boards_refused_holds : PySem.Challenge.rw_rowsinplace_k86_boards_refused.Holds := by
  w_on; o_law
  refine HandSHeadRun.head_any (r := OpenLaw.row PySem.Challenge.rw_rowsinplace_k86_boards_refused) (q := view (OpenLaw.row PySem.Challenge.rw_rowsinplace_k86_boards_refused).prog [29]) (H := K86.hk) (ob := K86.ob) (M := 20000) (loose := K86.loose) (d := HandSHeadRun.topDef (OpenLaw.row PySem.Challenge.rw_rowsinplace_k86_boards_refused).prog 29) (kwd := []) K86.ob_eq
    (by kernel_rfl) (fun s => by kernel_rfl) K86.run (by kernel_rfl) (by kernel_rfl) (by kernel_rfl) (by rfl) (by first | assumption | decide +kernel) (by decide +kernel) ⟨rfl, rfl, rfl, rfl, rfl, by decide +kernel⟩ ?hw ?hc
  case hw => w_witness2
  case hc =>
    refine KX.walk_atG (l := PySem.Challenge.rw_rowsinplace_k86_boards_refused) (n := 63) (k := 6) (x := "script") rfl (by decide) (by kernel_rfl) ⟨rfl, by decide, by decide⟩ ?F
    intro w mg fa h Y G hmg0
    obtain ⟨K, KI, c⟩ := Y
    have hmg : mg ("law" : PySem.Str) = some (.ref fa) := by
      have e : (HandSHeadRun.topDef (OpenLaw.row PySem.Challenge.rw_rowsinplace_k86_boards_refused).prog 29).name = ("law" : PySem.Str) := by kernel_rfl
      rw [← e]
      exact hmg0
    obtain ⟨fd, hb, hF⟩ := K86.all_ok (P := (PySem.Challenge.rw_rowsinplace_k86_boards_refused).prog) (w := w) KI G hmg c
    exact ⟨K, fd, K86.spLaw K, KI, hb, fun H a ns hl _ hS => ⟨a, ns, rfl, hS, hl, fun _ => rfl⟩, hF⟩

