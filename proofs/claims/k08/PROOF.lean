import PyProof.Rows.All
import Wide.All
import OpenK.AllK
import Wide.FinOn
import HandS.ForMost
import HandS.ExcInit
import HandS.Defaults
import HandS.WordsExc
import HandS.Wide
import HandS.EndBits
import HandS.Head0
import HandS.Head1
import HandS.Head2
import HandS.HeadEnd
import HandS.HeadHook1
import HandS.HeadHook2
import KE.KExcInit
import KE.KExcIs
import PyProof.ExcBaseAll.ValueError
import PyProof.ExcBaseAll.LookupError
import PyProof.ReprRoads
import HandS.ExcIs
import HandS.ExcField
import HandS.ExcCtx
import HandS.ExcInitHot
import HandS.HotCalls
import HandS.Star
import KE.GoesMore
import HandS.Walk
import PyProof.FitsInt
import HandS.IsInst
import HandS.Small
import HandS.SortKw
import KE.KOpsOwn
import KE.DataMinMax
import HandS.Property
import HandS.Text
import HandS.SetKeys
import KE.SortData
import PyProof.Claim2Refuses
import HandS.Set
import HandS.SetBool
import KE.GoesSet
import KE.GoesDict
import KE.GoesOver
import HandS.ListItems
import PyProof.RulesMatch
import HandS.DictComp
import PyProof.DictUpdate
import PyProof.Rows.TupDisplay
import HandS.FStr
import PyProof.StrOps2
import OpenK.KMeth
import HandS.Iter
import HandS.More
import HandS.TupSets
import PyProof.ListNew
import HandS.Sort
import HandS.SetFor
import HandS.Deep
import HandS.WideBits
import PySem.Challenge.RW_rowsinplace_k08_whole_faults_of_boards
set_option Elab.async false
set_option maxRecDepth 100000
set_option maxHeartbeats 2000000
/-! A hook of our own: one Bool over the written part, and the defs by their places. -/
namespace KX
open PySem PySem.Spec PyProof.Rows L2 He
def lookX (n : Nat) (chk : PySem.W.Frag → Bool) (fn : List DefD) (g : Addr → Option Obj) : Bool × List FnW :=
  let K := frG g (asD g n)
  (chk K && fn.all fun d => d.ok K, fn.map fun d => fnW K d.at_)
def SaysX (chk : PySem.W.Frag → Bool) (fn : List DefD) (K : PySem.W.Frag) : Prop := chk K = true ∧ (fn.all fun d => d.ok K) = true ∧ fn.map (fun d => fnW K d.at_) = fn.map DefD.val
def hookX (n : Nat) (chk : PySem.W.Frag → Bool) (fn : List DefD) : PySem.W.Hook where
  α := Bool × List FnW
  obs := fun s => lookX n chk fn s.heap.get?
  val := fun _ => (true, fn.map DefD.val)
  says := fun _ h => ∃ K : PySem.W.Frag, K.In h ∧ SaysX chk fn K
  of := fun _ s e => by
    refine ⟨frG s.heap.get? (asD s.heap.get? n), frG_in, ?_⟩
    have e1 := congrArg Prod.fst e
    have e2 := congrArg Prod.snd e
    obtain ⟨a, b⟩ := Bool.and_eq_true_iff.mp e1
    exact ⟨a, b, e2⟩
  keeps := fun _ _ _ h k => by
    obtain ⟨K, hK, c⟩ := h
    exact ⟨K, PySem.W.Frag.In.keeps hK k, c⟩
theorem lookX_eq {n : Nat} {chk : PySem.W.Frag → Bool} {fn : List DefD} {g : Addr → Option Obj} {s : Shared} (h : ∀ a, g a = s.heap.get? a) : lookX n chk fn g = (hookX n chk fn).obs s := by
  obtain rfl : g = s.heap.get? := funext h
  rfl
theorem SaysX.fd {chk : PySem.W.Frag → Bool} {fn : List DefD} {K : PySem.W.Frag} (c : SaysX chk fn K) (i : Nat) {d : DefD} (h : fn[i]? = some d := by rfl) :
    ∃ fd, FunD K d.name d.qual d.params d.body d.scope (d.dvs K) (d.kws K) (fAd K d.at_) fd := by
  obtain ⟨_, c2, c3⟩ := c
  have q : (fn.map fun d => fnW K d.at_)[i]? = (fn.map DefD.val)[i]? := congrArg (·[i]?) c3
  rw [List.getElem?_map, List.getElem?_map, h] at q
  exact DefD.funD (Option.some.inj q) (List.all_eq_true.mp c2 d (List.mem_of_getElem? h))
end KX

set_option Elab.async false
set_option maxRecDepth 100000
set_option maxHeartbeats 2000000
/-! What the written part says of an own exception class with an __init__ of its own, as one Bool. -/
namespace KX
open PySem PySem.Spec PyProof.Rows L2 He
structure ExK (K : PySem.W.Frag) (C : Addr) (bmB : List Value) (newId : String) : Prop where
  init : PySem.W.excInitIn K C bmB newId = true
  over : PySem.W.excOver K C bmB = true
  hd : PySem.W.hasDictIn K C = true
  sa : PySem.W.findIn K (.ref C) "__setattr__" = some (some (.builtin "object.__setattr__"))
  ga : PySem.W.findIn K (.ref C) "__getattribute__" = some (some (.builtin "BaseException.__getattribute__"))
  gg : PySem.W.findIn K (.ref C) "__getattr__" = some none
  exC : PySem.W.subIn K (.ref C) (.type "BaseException") = some true
  kC : PySem.W.keepIn K (.ref C) = true
  ha : PySem.W.findIn K (.ref C) "__class__" = some (some (.builtin "object.__class__"))
  hm : PySem.W.mroIn K C (.type "object") = some true
def exkB (K : PySem.W.Frag) (C : Addr) (bmB : List Value) (newId : String) : Bool :=
  PySem.W.excInitIn K C bmB newId && (PySem.W.excOver K C bmB && (PySem.W.hasDictIn K C && (eqO (PySem.W.findIn K (.ref C) "__setattr__") (some (some (.builtin "object.__setattr__")))
  && (eqO (PySem.W.findIn K (.ref C) "__getattribute__") (some (some (.builtin "BaseException.__getattribute__"))) && (eqO (PySem.W.findIn K (.ref C) "__getattr__") (some none)
  && (decide (PySem.W.subIn K (.ref C) (.type "BaseException") = some true) && (PySem.W.keepIn K (.ref C) && (eqO (PySem.W.findIn K (.ref C) "__class__") (some (some (.builtin "object.__class__"))) && decide (PySem.W.mroIn K C (.type "object") = some true)))))))))
theorem exkB_ok {K : PySem.W.Frag} {C : Addr} {bmB : List Value} {newId : String} (h : exkB K C bmB newId = true) : ExK K C bmB newId := by
  obtain ⟨h1, h⟩ := Bool.and_eq_true_iff.mp h
  obtain ⟨h2, h⟩ := Bool.and_eq_true_iff.mp h
  obtain ⟨h3, h⟩ := Bool.and_eq_true_iff.mp h
  obtain ⟨h4, h⟩ := Bool.and_eq_true_iff.mp h
  obtain ⟨h5, h⟩ := Bool.and_eq_true_iff.mp h
  obtain ⟨h6, h⟩ := Bool.and_eq_true_iff.mp h
  obtain ⟨h7, h⟩ := Bool.and_eq_true_iff.mp h
  obtain ⟨h8, h⟩ := Bool.and_eq_true_iff.mp h
  obtain ⟨h9, hA⟩ := Bool.and_eq_true_iff.mp h
  exact ⟨h1, h2, h3, eqO_ok h4, eqO_ok h5, eqO_ok h6, of_decide_eq_true h7, h8, eqO_ok h9, of_decide_eq_true hA⟩
end KX

set_option Elab.async false
set_option maxRecDepth 100000
set_option maxHeartbeats 2000000
/-! Own exception classes over any built-in base, with an __init__ that stores: made as values, read, asked by isinstance. -/
namespace KX
open PySem PySem.Spec PyProof.Rows L2
/-- what is known of the built-in base -/
def Bs (bmB : List Value) (newId : String) : Prop := ∃ B initId, ExcBaseFacts B newId initId bmB ∧ StoreFacts B bmB "object.__setattr__" "object"
theorem bsV : Bs [.type "ValueError", .type "Exception", .type "BaseException", .type "object"] "ValueError.__new__" := ⟨_, _, PySem.F.excBase_ValueError, PySem.F.store_ValueError⟩
theorem bsL : Bs [.type "LookupError", .type "Exception", .type "BaseException", .type "object"] "LookupError.__new__" := ⟨_, _, PySem.F.excBase_LookupError, PySem.F.store_LookupError⟩
section
open Builtin Builtin.ObjectAttr
variable {prog : Program} {w : World} {A : Around} {R : Result → Shared → Prop} {hp : Heap} {g : Array GenState} {dw : Drawn} {tt : Nat} {os : OsState} {K : PySem.W.Frag} {C x t1 : Addr} {bmB : List Value} {newId : String} {f : Str} {tk : Tok} {v : Value}
/-- the first store lays the dict -/
theorem put_first (T : ExK K C bmB newId) (bs : Bs bmB newId) (X : K.In hp) (hx : hp.get? x = some ({ cls := .ref C, dict := none, data := .fields #[.ref t1, .none, .none, .none, .bool false, .none] } : Obj)) (hno : PySem.W.findIn K (.ref C) f = some none)
    (hq : ∀ h' tk' dx, (∀ b o, b ≠ x → hp.get? b = some o → h'.get? b = some o) → hp.objs.size ≤ dx → dx ≠ x → h'.get? x = some ({ cls := .ref C, dict := some dx, data := .fields #[.ref t1, .none, .none, .none, .bool false, .none] } : Obj) →
      h'.Ns1 dx (fun y => if y = f then some v else none) → R (.ok (.ret .none)) ⟨h', g, dw, tk', os⟩) :
    codeAny (model prog w) A (.call (.builtin "object.__setattr__") ⟨[.ref x, .str f tk, v], []⟩) R ⟨hp, g, dw, tt, os⟩ := by
  obtain ⟨B, iid, _, SF⟩ := bs
  have hxs : x ≠ hp.objs.size := Nat.ne_of_lt (Heap.lt_size hx)
  refine PySem.W.osa_openX (s := ⟨hp, g, dw, tt, os⟩) (od := none) (r := none) SF X ⟨hx, rfl, rfl, trivial⟩ T.over (by unfold PySem.W.takerIn; rw [hno] <;> rfl) fun b => ?_
  obtain ⟨cd, hc, hd⟩ := PySem.W.any_some T.hd
  have hcls : PySem.W.Looks (model prog w) hp (classData C) cd := PySem.W.looks_clsIn X hc
  refine wpAny_bind (wpAny_pure (wpAny_bind (PySem.W.instanceDict_exc (s := ⟨hp, g, dw, tt, os⟩) hx hcls hd ?_)))
  refine HandSPX.store_in_new ?_ ?_
  · exact ⟨_, #[], _, (Heap.get?_update_ne _ _ _ _ hxs.symm).trans (Heap.get?_push_at rfl rfl), rfl, fun e he => absurd he (by simp), fun _ => rfl⟩
  · intro h' tk' hn' hs
    have hx1 : (hp.push { cls := .type "dict", data := .dict #[] }).get? x = _ := Heap.get?_push_of_some _ hx
    refine hq h' tk' hp.objs.size (fun b o hb ho => ?_) (Nat.le_refl _) hxs.symm ?_ hn'
    · have z := hs.2 b (Nat.ne_of_lt (Heap.lt_size ho))
      exact z.trans ((Heap.get?_update_ne _ _ _ _ hb).trans (Heap.get?_push_of_some _ ho))
    · exact (hs.2 x hxs).trans (Heap.get?_update_self _ hx1 rfl)
/-- a later one -/
theorem put_more {dx : Addr} {m0 : Str → Option Value} {nl : List Str} (T : ExK K C bmB newId) (bs : Bs bmB newId) (X : K.In hp) (hx : hp.get? x = some ({ cls := .ref C, dict := some dx, data := .fields #[.ref t1, .none, .none, .none, .bool false, .none] } : Obj))
    (hns : hp.Ns1 dx m0) (hw : Within m0 nl) (hz : nl.length ≤ 1000) (hno : PySem.W.findIn K (.ref C) f = some none)
    (hq : ∀ h' tk', (∀ b o, b ≠ dx → hp.get? b = some o → h'.get? b = some o) → h'.Ns1 dx (fun y => if y = f then some v else m0 y) → R (.ok (.ret .none)) ⟨h', g, dw, tk', os⟩) :
    codeAny (model prog w) A (.call (.builtin "object.__setattr__") ⟨[.ref x, .str f tk, v], []⟩) R ⟨hp, g, dw, tt, os⟩ := by
  obtain ⟨B, iid, _, SF⟩ := bs
  obtain ⟨oD, esD, epD, hoD, hdD, _⟩ := hns.count hw
  refine PySem.W.osa_openX (s := ⟨hp, g, dw, tt, os⟩) (od := some oD) (r := none) SF X ⟨hx, rfl, rfl, hoD⟩ T.over (by unfold PySem.W.takerIn; rw [hno] <;> rfl) fun b => ?_
  obtain ⟨cd, hc, hd⟩ := PySem.W.any_some T.hd
  have hcls : PySem.W.Looks (model prog w) hp (classData C) cd := PySem.W.looks_clsIn X hc
  obtain ⟨c1, c2, c3, c4, c5, c6, c7, c8, c9, cA, cB⟩ := cd
  dsimp only at hd
  subst hd
  show wpAny _ _ (storeInOwnDict _ _ _ _ _ _) _ _ _
  unfold storeInOwnDict ownDictForStores
  repeat (first | with_reducible refine PySem.OEX.store_in_old hns hw hz ?_ | with_reducible refine wpAny_loadPart_at hx ?_ | with_reducible refine hcls.at ?_ | wp_step)
  intro h' tk' hn' hs
  exact hq h' tk' (fun b o hb ho => (hs.2 b hb).trans ho) hn'
end
section
variable {X : Cx} {pins : List (Addr × Obj)} {σ : L2.St} {H : Hp} {s : Shared} {a C dx : Addr} {f : Str} {y : V} {u : Value} {fs : List (Str × V)} {Q : Unit → Shared → Prop} {E : Value → Shared → Prop} {A : Around} {bmB : List Value} {newId : String}
/-- an exception's object gets a dict that is new -/
theorem inv_dict {h' : Heap} {tk : Nat} {t1 : Addr} {od : HO} (I : Inv X pins σ H s) (e : H a = some (exo a C none)) (k : ∀ b o, b ≠ a → s.heap.get? b = some o → h'.get? b = some o) (dn : s.heap.objs.size ≤ dx) (dne : dx ≠ a)
    (hx : h'.get? a = some ({ cls := .ref C, dict := some dx, data := .fields #[.ref t1, .none, .none, .none, .bool false, .none] } : Obj)) (new : ∀ G : Hp, ObjOk X.prog X.w G h' dx od) :
    Inv X pins σ (upd (upd H dx od) a (exo a C (some dx))) { s with heap := h', toks := tk } := by
  have hnd : H dx = none := I.hok.fresh dn
  have hH : ∀ b, b ≠ a → b ≠ dx → upd (upd H dx od) a (exo a C (some dx)) b = H b := fun b n1 n2 => (upd_ne n1).trans (upd_ne n2)
  have na : ∀ b, H b = none → b ≠ a := fun b n z => by
    subst z
    exact nomatch n.symm.trans e
  have nd : ∀ b o, s.heap.get? b = some o → b ≠ dx := fun b o q => Nat.ne_of_lt (Nat.lt_of_lt_of_le (Heap.lt_size q) dn)
  have nk : ∀ b o, H b = some o → o ≠ exo a C none → upd (upd H dx od) a (exo a C (some dx)) b = some o := fun b o q n => by
    rw [hH b (ne_of q e n) (ne_of_none q hnd)]
    exact q
  refine I.un ⟨fun b o q n _ _ => k b o (na b n) q, fun b o q n _ _ => ⟨o.slots, k b o (na b n) q⟩, fun b o q n _ => ?_, fun b o q _ => ?_, fun b xs q => nk b _ q (Ne.symm exo_tup), fun b o v q => nk b _ q (Ne.symm exo_frz), fun b ps q => ⟨#[], ?_⟩⟩ fun b o q => ?_
  · rw [hH b (na b n) (nd b o q)]
    exact n
  · by_cases hb : b = a
    · subst hb
      exact ⟨_, hx⟩
    · exact ⟨o, k b o hb q⟩
  · rw [nk b _ q (Ne.symm exo_tbl)]
    simp
  · by_cases hb : b = a
    · subst hb
      obtain rfl := Option.some.inj (upd_same.symm.trans q)
      exact exo_ok hx
    · rw [upd_ne hb] at q
      by_cases hd : b = dx
      · subst hd
        obtain rfl := Option.some.inj (upd_same.symm.trans q)
        exact new _
      · rw [upd_ne hd] at q
        refine (I.hok b o q).stay (fun c v hc z => k c v ?_ z) (fun c hc => nk c _ hc (Ne.symm exo_own)) fun c xs hc => nk c _ hc (Ne.symm exo_tup)
        rcases hc with rfl | hc
        · exact hb
        · exact ne_of hc e (Ne.symm exo_own)
/-- self.f = y, the first one -/
theorem st_first (T : ExK X.K C bmB newId) (bs : Bs bmB newId) (I : Inv X pins σ H s) (e : H a = some (exo a C none)) (hno : PySem.W.findIn X.K (.ref C) f = some none) (ry : RelV y u)
    (h : ∀ d s', H d = none → d ≠ a → Inv X pins σ (upd (upd H d (exd d [(f, y)])) a (exo a C (some d))) s' → Q () s') : wpAny (model X.prog X.w) A (setAttr (.ref a) f u) Q E s := by
  obtain ⟨t1, ho⟩ := exo_at I.hok e
  obtain ⟨hp, g, d, t, os⟩ := s
  refine PySem.W.set_plain (od := none) I.kIn ⟨ho, rfl, rfl, trivial⟩ T.sa ?_
  refine put_first T bs I.kIn ho hno fun h' tk' dx k dn dne hx hn => ?_
  exact h dx _ (I.hok.fresh dn) dne (inv_dict I e k dn dne hx fun G => exd_ok hn (relO_put (fs := []) ry fun _ => True.intro))
/-- self.f = y, a further one -/
theorem st_more (T : ExK X.K C bmB newId) (bs : Bs bmB newId) (I : Inv X pins σ H s) (e : H a = some (exo a C (some dx))) (ed : H dx = some (exd dx fs)) (hl : fs.length ≤ 900) (hno : PySem.W.findIn X.K (.ref C) f = some none) (ry : RelV y u)
    (h : ∀ s', Inv X pins σ (upd H dx (exd dx ((f, y) :: fs))) s' → Q () s') : wpAny (model X.prog X.w) A (setAttr (.ref a) f u) Q E s := by
  obtain ⟨t1, ho⟩ := exo_at I.hok e
  obtain ⟨mA, hns, rel⟩ := exd_at I.hok ed
  have hw := within_of rel
  obtain ⟨hp, g, d, t, os⟩ := s
  obtain ⟨oD, _, _, hoD, _⟩ := hns.count hw
  refine PySem.W.set_plain (od := some oD) I.kIn ⟨ho, rfl, rfl, hoD⟩ T.sa ?_
  refine put_more T bs I.kIn ho hns hw (by rw [List.length_map]; omega) hno fun h' tk' k hn => ?_
  have hd : ∃ o, h'.get? dx = some o := let ⟨o, _, _, z, _⟩ := hn; ⟨o, z⟩
  exact h _ (I.write (t' := tk') (e := dx) (by rw [ed]; exact True.intro) (.inl rfl) k hd (exd_ok hn (relO_put ry rel)))
end
/-- self.f = e -/
def tSt (K : PySem.W.Frag) (f : Str) (to te : TE) : TS := fun D σ H => te σ H fun y H1 => to σ H1 fun x H2 => ∃ (a C : Addr) (bmB : List Value) (newId : String), x = .ref a ∧ ExK K C bmB newId ∧ Bs bmB newId ∧ PySem.W.findIn K (.ref C) f = some none ∧
  ((H2 a = some (exo a C none) ∧ ∀ d, H2 d = none → d ≠ a → D.nx σ (upd (upd H2 d (exd d [(f, y)])) a (exo a C (some d)))) ∨
    ∃ (d : Addr) (fs : List (Str × V)), H2 a = some (exo a C (some d)) ∧ H2 d = some (exd d fs) ∧ fs.length ≤ 900 ∧ D.nx σ (upd H2 d (exd d ((f, y) :: fs))))
/-- C(e, ..) as a value -/
def tMkV (C : Addr) (sp : Sp) (ta : TA) : TE := fun σ H Q => ta σ H fun vs H1 => vs.length ≤ 1000 ∧ ∀ a, H1 a = none → sp (.ref a :: vs) (upd H1 a (exo a C none)) (fun v H2 => v = .non ∧ Q (.ref a) H2) (fun _ _ _ => False)
/-- e.f of an own exception -/
def tXv (K : PySem.W.Frag) (f : Str) (te : TE) : TE := fun σ H Q => te σ H fun x H1 => ∃ (a C d : Addr) (bmB : List Value) (newId : String) (fs : List (Str × V)) (v : V), x = .ref a ∧ H1 a = some (exo a C (some d)) ∧ H1 d = some (exd d fs) ∧ ExK K C bmB newId ∧ PySem.W.findIn K (.ref C) f = some none ∧ fs.lookup f = some v ∧ Q v H1
section
variable {X : Cx} {o e : Expr} {es : List Expr} {to te : TE} {ta : TA} {f : Str} {p p' p1 p2 pos : Pos}
theorem ps_st (ho : PE X o to) (he : PE X e te) (hs : swapsWith e (some (.Attribute o f p')) pos.line X.env = pure false := by rfl) : PS X (.Assign [.Attribute o f p'] e pos) (tSt X.K f to te) := by
  refine ⟨fun pins s σ H D I h => plainObj_wpAny_Assign_Attribute (thn (he.run pins s σ H _ I h) fun v s1 ⟨y, H1, I1, r1, q1⟩ => thn (ho.run pins s1 σ H1 _ I1 q1) fun u s2 hh => ?_) hs⟩
  obtain ⟨x, H2, I2, r2, a, C, bmB, nid, rfl, T, bs, hno, q⟩ := hh
  obtain rfl : u = Value.ref a := r2
  rcases q with ⟨ea, q⟩ | ⟨d, fs, ea, ed, hl, q⟩
  · exact st_first T bs I2 ea hno r1 fun d s' n ne J => ⟨σ, _, J, q d n ne⟩
  · exact st_more T bs I2 ea ed hl hno r1 fun s' J => ⟨σ, _, J, q⟩
theorem pe_mkv {CX : CXT} {x : Str} {C fI : Addr} {k : Nat} {fd : FuncData} {ps : List Str} {sp : Sp} {bmB : List Value} {newId : String} (T : ExK X.K C bmB newId) (bs : Bs bmB newId) (iC : PySem.W.findIn X.K (.ref C) "__init__" = some (some (.ref fI))) (tI : PySem.W.isFn X.K (.ref fI) = true)
    (G : FnOk X.prog X.w X.K X.mg X.base CX k fI fd ps sp) (hr : Room (k + 1) X.A) (hb : Binds X.K fd ps []) (hx : Passes CX X (fun _ _ _ => False)) (hg : Gl X x) (hm : X.mg x = some (.ref C)) (ha : PA X (e :: es) ta)
    (hdb : (x == ("__debug__" : Str)) = false := by decide) (he : starEach (e :: es) X.env = (false, eval e X.env) :: starEach es X.env := by rfl) (hpl : (backTo pos (starEach es X.env)).any (·.1) = false := by rfl) :
    PE X (.Call (.Name x p) (e :: es) [] pos) (tMkV C sp ta) := by
  refine ⟨fun pins s σ H Q I h => ?_⟩
  refine wpAny_Call_Name_kw (ld_glob I hg hm ?_ hdb)
  refine PySem.W.callWith_K (h₀ := X.base) I.ok.mod.kin T.kC (thn (ha.run pos pins s σ H _ I h) fun us s1 hh => ?_) he hpl
  obtain ⟨vs, H1, I1, r1, hz, q1⟩ := hh
  refine ⟨I1.kIn, ?_⟩
  obtain ⟨B, iid, FB, SF⟩ := bs
  obtain ⟨nm, N', qn, bs', bm, hdct, sn, sub, ab, col, dd, k0, k1, k2, k3, k5, hC, hT⟩ := PySem.W.excInit_of I1.kIn T.init
  obtain ⟨oI, hoI, hcI⟩ : ∃ oI, s1.heap.get? fI = some oI ∧ oI.cls = .type "function" := by
    obtain ⟨oo, h1, h2⟩ := Option.map_eq_some_iff.mp (show (X.K.lookup fI).map (·.cls) = some (.type "function") from beq_iff_eq.mp tI)
    exact ⟨oo, I1.kIn _ _ h1, h2⟩
  obtain ⟨hp, g, dr, tk, os⟩ := s1
  have kk : ∀ b u, hp.get? b = some u → ((hp.push (PySem.W.kdv_tup us)).push (PySem.HandSPX.excO C hp.objs.size)).get? b = some u := fun b u z => Heap.get?_push_of_some _ (Heap.get?_push_of_some _ z)
  have hget : ((hp.push (PySem.W.kdv_tup us)).push (PySem.HandSPX.excO C hp.objs.size)).get? (hp.objs.size + 1) = some (PySem.HandSPX.excO C hp.objs.size) := by heap_get
  have I2 : Inv X pins σ (upd H1 (hp.objs.size + 1) (exo (hp.objs.size + 1) C none)) ⟨(hp.push (PySem.W.kdv_tup us)).push (PySem.HandSPX.excO C hp.objs.size), g, dr, tk, os⟩ := I1.laid (t' := tk) kk (Nat.le_succ _) (exo_ok hget)
  have hq := q1 (hp.objs.size + 1) (I1.hok.fresh (Nat.le_succ _))
  have r2 : Vals (V.ref (hp.objs.size + 1) :: vs) (Value.ref (hp.objs.size + 1) :: us) := .cons rfl r1
  have hl : (Value.ref (hp.objs.size + 1) :: us ++ []).length = ps.length := by
    rw [List.append_nil, ← r2.length]
    exact G.len _ _ _ _ hq
  have hus : us.length ≤ sizeLine := by
    rw [← Paired.length r1, sizeLine_eq]
    omega
  have hbi := hb _ (Value.ref (hp.objs.size + 1) :: us) I2.kIn hl
  rw [List.append_nil] at hbi
  refine wpAny_call (PySem.HandSPX.call_own FB hT hC (PySem.W.looks_findIn I1.kIn iC) (fun self => PySem.W.exc_bind hoI hcI self) hus (codeAny_mono (G.run _ X.stack _ _ _ _ _ _ (fun _ _ _ => False) (hr.make C us []) (I2.env0.make C us []) hbi r2 hq) fun r s' hq' => ?_))
  cases r with
  | error er => exact hx pins σ _ _ er s' I2 hq'
  | ok fl =>
    cases fl with
    | ret u =>
      obtain ⟨v, H2, os2, bare2, un2, hok2, rv, rfl, q2⟩ := hq'
      exact ⟨rv, .ref (hp.objs.size + 1), H2, I2.call' (ch := []) os2 un2 hok2 bare2 (fun b z => absurd z (by simp)), rfl, q2⟩
    | next => exact False.elim hq'
    | brk => exact False.elim hq'
    | cont => exact False.elim hq'
theorem pe_xv (he : PE X e te) (hb : attributeBase e f X.env (eval e X.env) = eval e X.env := by rfl) : PE X (.Attribute e f pos) (tXv X.K f te) := by
  refine ⟨fun pins s σ H Q I h => attr_of hb (thn (he.run pins s σ H _ I h) fun u s1 hh => ?_)⟩
  obtain ⟨x, H1, I1, rx, a, C, d, bmB, nid, fs, v, rfl, ea, ed, T, hno, l, q⟩ := hh
  obtain rfl : u = Value.ref a := rx
  obtain ⟨t1, ho⟩ := exo_at I1.hok ea
  obtain ⟨mA, hns, rel⟩ := exd_at I1.hok ed
  obtain ⟨od, h1, h2⟩ := lookIn_ns hns
  obtain ⟨u, hu, ru⟩ := RelO.some_of (v := v) (o := mA f) (by rw [← l]; exact rel f)
  exact HandSPX.exc_get I1.kIn ⟨ho, rfl, rfl, h1⟩ T.ga T.gg T.exC (PySem.W.findObj_own T.hd hno rfl (by rw [h2, hu])) (handed_of ru) ⟨v, H1, I1.tok _, ru, q⟩
end
end KX

set_option Elab.async false
set_option maxRecDepth 100000
set_option maxHeartbeats 2000000
/-! repr of nested data where no repr is running yet; isinstance of an own exception; defs that want to know that no repr is running. -/
namespace KX
open PySem PySem.Spec PyProof.Rows L2
/-- repr(data) -/
def rRepr (K : PySem.W.Frag) : List V → Hp → VK → Prop := fun xs H Q => ∃ (a : Addr) (d : PyData), xs = [.ref a] ∧ Dp K H (.ref a) d ∧ d.showable = true ∧ d.hasDict = false ∧ d.depth ≤ 8 ∧ d.shown.length ≤ sizeLine ∧ Q (.str d.shown) H
theorem call_repr {X : Cx} (hg : X.A.guards = some []) (hu : X.A.units + 10 < cLine) : CallR X (.builtin "repr") (rRepr X.K) := by
  intro pins s σ H xs us Q I r h
  obtain ⟨a, d, rfl, hd, h1, h2, h3, h4, q⟩ := h
  obtain ⟨u, rfl, ru⟩ := vals1 r
  obtain rfl : u = Value.ref a := ru
  obtain ⟨as, rd⟩ := Dp.reads I d _ _ hd rfl
  exact repr_of_reads' rd h1 (PyData.noDict_hsm h2) hg (by omega) (fun _ _ e => e) (fun h' u tk hk => ⟨.str d.shown, H, I.kept (t' := tk) hk, ⟨_, rfl⟩, q⟩) h4
/-- isinstance(e, c) of an own exception e -/
def rIsX (K : PySem.W.Frag) : List V → Hp → VK → Prop := fun xs H Q => ∃ (a C d : Addr) (bmB : List Value) (nid : String) (fs : List (Str × V)) (c : V) (cv : Value) (b : Bool), xs = [.ref a, c] ∧ H a = some (exo a C (some d)) ∧ H d = some (exd d fs) ∧ ExK K C bmB nid ∧
  PySem.W.specialIn K (.builtin "object.__class__") "__get__" = some (some (.builtin "getset_descriptor.__get__")) ∧ PySem.W.takesIn K (.builtin "object.__class__") = some true ∧ (∀ u, RelV c u → u = cv) ∧ PySem.W.kitOne K (.ref C) cv = some b ∧ Q (.bl b) H
theorem call_isX {X : Cx} : CallR X (.builtin "isinstance") (rIsX X.K) := by
  intro pins s σ H xs us Q I r h
  obtain ⟨a, C, d, bmB, nid, fs, c, cv, b, rfl, ea, ed, T, sp, tk, hcv, e, q⟩ := h
  cases r with
  | cons rx rr => cases rr with
    | cons rt rr =>
      cases rr
      cases rx
      obtain rfl := hcv _ rt
      obtain ⟨t1, ho⟩ := exo_at I.hok ea
      obtain ⟨mA, hns, rel⟩ := exd_at I.hok ed
      obtain ⟨od, h1, _⟩ := lookIn_ns hns
      obtain ⟨cd, hc, _⟩ := PySem.W.any_some T.hd
      exact PySem.W.kia_one (PySem.W.kitx_exc (od := some od) (by rw [hc] <;> rfl) T.ga T.gg T.exC T.ha sp tk T.hm) I.kIn ⟨ho, rfl, rfl, h1⟩ e (fun z => nomatch z) fun tk' => ⟨.bl b, H, I.kept (t' := tk') fun _ _ z => z, rfl, q⟩
end KX

set_option Elab.async false
set_option maxRecDepth 100000
set_option maxHeartbeats 2000000
namespace KX
open PySem PySem.Spec PyProof.Rows L2
/-- a def's promise where no repr is running -/
structure FnG (P : Program) (w : World) (K : PySem.W.Frag) (mg : Str → Option Value) (base : Heap) (CX : CXT) (k : Nat) (f : Addr) (fd : FuncData) (ps : List Str) (sp : Sp) : Prop where
  len : ∀ vs H Q E, sp vs H Q E → vs.length = ps.length
  run : ∀ (A : Around) (outer : List Env) (s : Shared) (H : Hp) (args : Args) (us : List Value) (vs : List V) (Q : VK) (E : XK), A.guards = some [] → Room k A →
    Env0 P w K mg base A outer s H → BindsTo s fd args (ps.zip us) → Vals vs us → sp vs H Q E → codeAny (model P w) A (.call (.ref f) args) (CR CX outer P w H s Q E) s
section
variable {P : Program} {w : World} {K : PySem.W.Frag} {mg : Str → Option Value} {base : Heap} {CX : CXT} {k : Nat} {f : Addr} {fd : FuncData} {ps : List Str} {sp : Sp}
theorem FnG.of (F : FnOk P w K mg base CX k f fd ps sp) : FnG P w K mg base CX k f fd ps sp :=
  ⟨F.len, fun A outer s H args us vs Q E _ => F.run A outer s H args us vs Q E⟩
/-- the rule for a def whose body may use that no repr is running -/
theorem fnG_ok {x qual : Str} {params : Arguments} {body : List Stmt} {scope : Scope} {dvs : List V} {kws : List (Str × V)} {N : List Str} (F : FunD K x qual params body scope dvs kws f fd) (S : FnScope N ps scope)
    (len : ∀ vs H Q E, sp vs H Q E → vs.length = ps.length)
    (hbody : ∀ (cdv : Value) (A : Around) (outer : List Env) (s : Shared) (H : Hp) (vs : List V) (Q : VK) (E : XK),
      A.guards = some [] → Room k (A.deeper (envOfC qual scope s.heap.objs.size f cdv)) → sp vs H Q E →
      ∃ t, PSs (cxOf CX P w K mg base N qual scope f cdv A outer s H E) body t ∧ t { nx := fun _ G => Q .non G, rt := Q } (start N vs) H) :
    FnG P w K mg base CX (k + 1) f fd ps sp := by
  obtain ⟨oc, od, dV, kV, doc, pm, an, cdv, ct, osl, rfl, lk, hcd, _, _⟩ := F.ex
  constructor
  · exact len
  intro A outer s H args us vs Q E hg hr e0 hb r hsp
  have hn := len _ _ _ _ hsp
  have keep : ∀ b o, base.get? b = some o → s.heap.get? b = some o := fun b o z => (e0.bs b o z).1
  have hK : K.In s.heap := e0.mod.kin.keeps keep
  have hL : s.heap.NoLimit := e0.mod.nolimit.keeps keep
  refine codeAny_call_function hr.depth (hK _ _ lk) rfl S.co S.gen rfl (PySem.W.codeRec_of hK hcd) (hb _ _ _ _ ?_)
  refine wpAny_newFunctionEnv_cells S.kind (fun y hy => ?_) fun env he s1 x => ?_
  · rcases S.par y.1 (List.of_mem_zip (show (y.1, y.2) ∈ ps.zip us from hy)).1 with z | z
    · exact Or.inl z
    · exact Or.inr ⟨z, PySem.W.cellsFrom_some _ _ _ (Or.inl z)⟩
  · subst he
    refine ⟨hL.keeps x.toInCall.keep, codeAny_func ?_⟩
    obtain ⟨t, ht, hq⟩ := hbody cdv A outer s H vs Q E hg (hr.deeper _) hsp
    have I0 := inv_start (CX := CX) (E := E) S hr.hd e0 hn r x
    refine wpAny_mono (ht.run [] s1 (start N vs) H _ I0 hq) (fun fl s' z => ?_) fun _ _ z => z
    match fl, z with
    | .ret u, ⟨v, σ', G, J, rv, qv⟩ => exact ⟨v, G, J.os, J.bare, J.base, J.hok, rv, qv⟩
    | .next, ⟨σ', G, J, qv⟩ => exact ⟨.non, G, J.os, J.bare, J.base, J.hok, rfl, qv⟩
    | .brk, ⟨_, _, _, qv⟩ => exact False.elim qv
    | .cont, ⟨_, _, _, qv⟩ => exact False.elim qv
end
section
variable {X : Cx} {CX : CXT} {k : Nat} {f : Addr} {fd : FuncData} {ps : List Str} {sp : Sp} {dvs : List V} {ds : List Value} {E : XK} {x : Str} {p pos : Pos} {e : Expr} {es : List Expr} {t : TA}
/-- f(e, ..) where no repr is running -/
theorem pe_callG (F : FnG X.prog X.w X.K X.mg X.base CX k f fd ps sp) (gg : X.A.guards = some []) (hr : Room k X.A) (hg : Gl X x) (hm : X.mg x = some (.ref f)) (hk : PySem.W.keepIn X.K (.ref f) = true) (hb : Binds X.K fd ps ds) (hd : Vals dvs ds)
    (hx : Passes CX X E) (ha : PA X (e :: es) t) (hdb : (x == ("__debug__" : Str)) = false := by decide) (he : starEach (e :: es) X.env = (false, eval e X.env) :: starEach es X.env := by rfl)
    (hpl : (backTo pos (starEach es X.env)).any (·.1) = false := by rfl) : PE X (.Call (.Name x p) (e :: es) [] pos) (tCall sp dvs E t) := by
  constructor
  intro pins s σ H Q I h
  refine wpAny_Call_Name_kw (ld_glob I hg hm ?_ hdb)
  refine PySem.W.callWith_K (h₀ := X.base) I.ok.mod.kin hk (thn (ha.run pos pins s σ H _ I h) fun us s1 hh => ?_) he hpl
  obtain ⟨vs, H1, I1, r, q⟩ := hh
  refine ⟨I1.kIn, ?_⟩
  have r2 : Vals (vs ++ dvs) (us ++ ds) := r.append hd
  have hl : (us ++ ds).length = ps.length := r2.length.symm.trans (F.len _ _ _ _ q)
  refine wpAny_call (codeAny_mono (F.run X.A X.stack s1 H1 ⟨us, []⟩ _ _ Q E gg hr I1.env0 (hb s1 us I1.kIn hl) r2 q) fun res s' z => ?_)
  match res, z with
  | .error er, z => exact hx pins σ H1 s1 er s' I1 z
  | .ok (.ret u), z => exact I1.after z
  | .ok .next, z => exact False.elim z
  | .ok .brk, z => exact False.elim z
  | .ok .cont, z => exact False.elim z
end
/-! ### the law's own call -/
theorem law_atG {P : Program} {w : World} {K : PySem.W.Frag} {mg mb : Str → Option Value} {k : Nat} {fa a : Addr} {fd : FuncData} {x : Str} {sp : Sp} {s1 : Shared} {vs : List Value} {ns : List Int}
    (KI : K.In s1.heap) (hns : s1.heap.Ns mainGlobals mg) (hb : s1.heap.Ns builtinsNs mb) (hbb : ∀ x : Str, x ≠ "__name__" → mb x = bootBuiltins x) (hlim : s1.heap.NoLimit) (hg : s1.gens = #[])
    (ha : s1.heap.get? a = some { cls := .type "list", data := .seq vs.toArray }) (hi : IntsAre vs ns) (hl : ns.length ≤ sizeLine) (hr : Room k callerA)
    (F : ∀ base : Heap, K.In base → base.Ns mainGlobals mg → FnG P w K mg base CX0 k fa fd [x] sp) (hbind : ∀ (s : Shared) (u : Value), BindsTo s fd ⟨[u], []⟩ [(x, u)])
    (hsp : ∀ H : Hp, SqL K H a (ns.map V.int) → sp [.ref a] H (fun v _ => v = .bl true) E0) :
    codeAny (model P w) callerA (.call (.ref fa) ⟨[.ref a], []⟩) (fun r s' => r = .ok (.ret (.bool true)) ∧ PySem.OldK s1.heap s'.heap ∧ s'.os = s1.os ∧ AllBare s'.gens) s1 := by
  have rv := vals_ints hi
  have frozen : ∀ H : Hp, (∀ b u, H b = some u → b = a ∧ u = .frz { cls := .type "list", data := .seq vs.toArray } (.lst (ns.map V.int)) ∧ K.lookup a = none) → SqL K H a (ns.map V.int) →
      codeAny (model P w) callerA (.call (.ref fa) ⟨[.ref a], []⟩) (fun r s' => r = .ok (.ret (.bool true)) ∧ PySem.OldK s1.heap s'.heap ∧ s'.os = s1.os ∧ AllBare s'.gens) s1 := by
    intro H hH hS
    have free : ∀ b o, s1.heap.get? b = some o → (b = a → K.lookup a ≠ none ∨ (∀ its n, o.data ≠ .seq its n)) → H b = none := by
      intro b o e n
      cases q : H b with
      | none => rfl
      | some u =>
        obtain ⟨rfl, _, z3⟩ := hH b u q
        rw [ha] at e
        obtain rfl := Option.some.inj e
        rcases n rfl with n | n
        · exact absurd z3 n
        · exact absurd rfl (n vs.toArray _)
    have inK : K.In (hidT s1.heap H) := fun b o e => hidT_get (KI b o e) (free b o (KI b o e) fun z => .inl (by rw [← z, e]; simp))
    have nsOk : ∀ {b : Addr} {m : Str → Option Value}, s1.heap.Ns b m → (hidT s1.heap H).Ns b m := by
      rintro b m ⟨o, es, ep, e, d, r⟩
      exact ⟨o, es, ep, hidT_get e (free b o e fun _ => .inr fun its n z => by rw [d] at z; cases z), d, r⟩
    have hok : HOk P w H s1.heap := by
      intro b u q
      obtain ⟨rfl, rfl, _⟩ := hH b u q
      exact ⟨ha, by rw [List.length_map]; exact hl, vs, _, rv, ha⟩
    have md : Mod K mg (hidT s1.heap H) := ⟨inK, nsOk hns, ⟨mb, nsOk hb, hbb⟩, by
      obtain ⟨mc, h1, h2⟩ := hlim
      exact ⟨mc, nsOk h1, h2⟩⟩
    have e0 : Env0 P w K mg (hidT s1.heap H) callerA [] s1 H :=
      ⟨rfl, md, fun b o e => of_hidT e, Nat.le_of_eq (hidT_size _ _), trivial, fun b z => absurd (show b ∈ ([] : List Addr) from z) (by simp), hok, .of_eq hg⟩
    have go := (F _ inK (nsOk hns)).run callerA [] s1 H ⟨[.ref a], []⟩ [.ref a] [.ref a] _ _ rfl hr e0 (hbind s1 (.ref a)) (.cons rfl .nil) (hsp H hS)
    refine codeAny_mono go fun r s' z => ?_
    match r, z with
    | .error _, z => exact False.elim z
    | .ok .next, z => exact False.elim z
    | .ok .brk, z => exact False.elim z
    | .ok .cont, z => exact False.elim z
    | .ok (.ret u), ⟨v, G, os, bare, un, hok', rr, qv⟩ =>
      obtain rfl : v = .bl true := qv
      obtain rfl : u = Value.bool true := rr
      refine ⟨rfl, PySem.OldK.of_keep fun b o e => ?_, os, bare⟩
      cases q : H b with
      | none => exact un.keep b o e q (fun z => absurd (show b ∈ ([] : List Addr) from z) (by simp)) (by simp)
      | some t =>
        obtain ⟨rfl, rfl, _⟩ := hH b t q
        obtain ⟨e2, _⟩ := hok' _ _ (un.frzs _ _ _ q)
        exact e2.trans (ha.symm.trans e)
  cases hk : K.lookup a with
  | none =>
    refine frozen (fun b => if b = a then some (.frz { cls := .type "list", data := .seq vs.toArray } (.lst (ns.map V.int))) else none) (fun b u z => ?_) (.inl (.inr ⟨_, if_pos rfl⟩))
    by_cases hba : b = a
    · exact ⟨hba, (Option.some.inj ((if_pos hba).symm.trans z)).symm, hk⟩
    · exact nomatch (if_neg hba).symm.trans z
  | some o =>
    have e := KI a o hk
    rw [ha] at e
    obtain rfl := Option.some.inj e
    exact frozen (fun _ => none) (fun b u z => nomatch (show (none : Option HO) = some u from z))
      (.inr ⟨_, vs.toArray, _, hk, rfl, rfl, rfl, by rw [List.size_toArray, hi.length]; exact hl, by simpa using rv⟩)
/-- the goal that a head leaves, by the law's promise -/
theorem walk_atG {l : PySem.W.OpenLaw} {n k : Nat} {q : Program} {loose : List Str} {XP : (Str → Option Value) → Heap → Prop} {YP : World → Heap → Prop} {d : DefRec} {x : Str}
    (hn : l.most = some n) (hn2 : n ≤ sizeLine) (hdf : d.params.defaults = []) (hr : Room k callerA)
    (F : ∀ (w : World) (mg : Str → Option Value) (fa : Addr) (h : Heap), YP w h → h.Ns mainGlobals mg → mg d.name = some (.ref fa) →
      ∃ (K : PySem.W.Frag) (fd : FuncData) (sp : Sp), K.In h ∧ (∀ (s : Shared) (u : Value), BindsTo s fd ⟨[u], []⟩ [(x, u)]) ∧
        (∀ (H : Hp) (a : Addr) (ns : List Int), ns.length ≤ n → (∀ z ∈ ns, Builtin.Int.intBits z ≤ 1048576) → SqL K H a (ns.map V.int) → sp [.ref a] H (fun v _ => v = .bl true) E0) ∧
        ∀ base : Heap, K.In base → base.Ns mainGlobals mg → FnG l.prog w K mg base CX0 k fa fd [x] sp) :
    PySem.W.WalkO q loose XP YP l.row.toRowW d [] (fun f vs => PySem.call f vs) := by
  refine Att.attach_callB hn hdf fun w s₀ s₁ mg mb fa o pm cd doc a vs ns G Y ho hd hcd hmg hobj hints hlen hbits hg => ?_
  obtain ⟨K, fd, sp, KI, hb, hsp, hF⟩ := F w mg fa _ Y G.T.g hmg
  exact law_atG KI G.T.g G.T.b G.T.builtins G.T.nolimit hg hobj hints (Nat.le_trans hlen hn2) hr hF hb fun H hS => hsp H a ns hlen hbits hS
end KX

set_option Elab.async false
set_option maxRecDepth 100000
set_option maxHeartbeats 2000000
/-! The bag that a law draws from: what stands in it, what is promised of a draw. -/
namespace KX
open PySem PySem.Spec PyProof.Rows L2
/-- the bag at b: digits, a seed, a count of at most n -/
def Bag (H : Hp) (b : Addr) (n : Int) : Prop := ∃ d m c : Int, H b = some (.lst [.int d, .int m, .int c]) ∧ 0 ≤ d ∧ 0 ≤ m ∧ m < 2 ^ 61 ∧ 0 ≤ c ∧ c ≤ n
/-- all but b is as it was -/
def But (b : Addr) (H H' : Hp) : Prop := ∀ x, x ≠ b → H' x = H x
/-- what was tracked is as it was, but b -/
def Kept (b : Addr) (H H' : Hp) : Prop := ∀ x o, x ≠ b → H x = some o → H' x = some o
theorem But.kept {b : Addr} {H H' : Hp} (h : But b H H') : Kept b H H' := fun x o n e => (h x n).trans e
theorem Kept.refl (b : Addr) (H : Hp) : Kept b H H := fun _ _ _ e => e
theorem Kept.trans {b : Addr} {H H1 H2 : Hp} (h : Kept b H H1) (k : Kept b H1 H2) : Kept b H H2 := fun x o n e => k x o n (h x o n e)
theorem Kept.new {b p : Addr} {H : Hp} {o : HO} (h : H p = none) : Kept b H (upd H p o) := fun x u _ e => by
  rw [upd_ne (ne_of_none e h)]
  exact e
theorem Kept.seq {K : PySem.W.Frag} {b a : Addr} {H H' : Hp} {xs : List V} (k : Kept b H H') (n : a ≠ b) (h : SqL K H a xs) : SqL K H' a xs := by
  rcases h with (h | ⟨o, h⟩) | h
  · exact .inl (.inl (k _ _ n h))
  · exact .inl (.inr ⟨o, k _ _ n h⟩)
  · exact .inr h
theorem Bag.some {H : Hp} {b : Addr} {n : Int} (h : Bag H b n) : ∃ o, H b = some o := let ⟨_, _, _, e, _⟩ := h; ⟨_, e⟩
theorem Bag.ne {H : Hp} {b p : Addr} {n : Int} (h : Bag H b n) (hp : H p = none) : p ≠ b := by
  obtain ⟨o, e⟩ := h.some
  exact (ne_of_none e hp).symm
theorem Bag.put {H : Hp} {b p : Addr} {n : Int} {o : HO} (h : Bag H b n) (hp : p ≠ b) : Bag (upd H p o) b n := by
  obtain ⟨d, m, c, e, r⟩ := h
  exact ⟨d, m, c, (upd_ne hp.symm).trans e, r⟩
theorem Bag.mono {H : Hp} {b : Addr} {n n' : Int} (h : Bag H b n) (hn : n ≤ n') : Bag H b n' := by
  obtain ⟨d, m, c, e, r1, r2, r3, r4, r5⟩ := h
  exact ⟨d, m, c, e, r1, r2, r3, r4, by omega⟩
/-- _law_bag -/
def spBag (K : PySem.W.Frag) : Sp := fun vs H Q _ => ∃ (a : Addr) (ns : List Int) (i : Nat), vs = [.ref a, .int i] ∧ SqL K H a (ns.map V.int) ∧ ns.length ≤ 63 ∧ i ≤ 63 ∧ ∀ b H', H b = none → Kept b H H' → (∀ x, x ≠ b → H' x = H x) → Bag H' b 0 → Q (.ref b) H'
/-- _law_draw -/
def spDraw : Sp := fun vs H Q _ => ∃ (b : Addr) (n many : Int), vs = [.ref b, .int many] ∧ Bag H b n ∧ n < 1000000 ∧ 0 < many ∧ many.natAbs < 2 ^ 200 ∧ ∀ (r : Int) (H' : Hp), 0 ≤ r → r < many → But b H H' → Bag H' b (n + 1) → Q (.int r) H'
/-- _law_of -/
def spOf (K : PySem.W.Frag) : Sp := fun vs H Q _ => ∃ (b l : Addr) (n : Int) (xs : List V), vs = [.ref b, .ref l] ∧ Bag H b n ∧ n < 1000000 ∧ l ≠ b ∧ SqL K H l xs ∧ 0 < xs.length ∧ xs.length ≤ 1000 ∧
  ∀ (i : Nat) (v : V) (H' : Hp), xs[i]? = some v → But b H H' → Bag H' b (n + 1) → Q v H'
/-- the numbers of a draw -/
theorem draw_pow {m c : Int} (hm0 : 0 ≤ m) (hm : m < 2 ^ 61) (hc0 : 0 ≤ c) (hc : c ≤ 1000000) : CPow (m + 611953 * (c + 1)) 2 := by
  refine ⟨by decide, by decide, ?_⟩
  omega
theorem draw_pow3 {x c : Int} (hx0 : 0 ≤ x) (hx : x < 1152921504606846869) (hc0 : 0 ≤ c) (hc : c ≤ 1000000) : CPow (x + 15485863 * (c + 1)) 3 := by
  refine ⟨by decide, by decide, ?_⟩
  omega
theorem fmod_in {x y : Int} (h : 0 < y) : 0 ≤ x.fmod y ∧ x.fmod y < y := by
  rw [Int.fmod_eq_emod_of_nonneg x (Int.le_of_lt h)]
  exact ⟨Int.emod_nonneg x (by omega), Int.emod_lt_of_pos x h⟩
end KX

set_option Elab.async false
set_option maxRecDepth 100000
set_option maxHeartbeats 2000000
/-! Own exceptions raised with what they keep, caught with the context None; isinstance of a caught one that has a dict; defs called in the suite; C() of a class with *rest. -/
namespace KX
open PySem PySem.Spec PyProof.Rows L2 StX
theorem mk_endN {X : Cx} {pins : List (Addr × Obj)} {σ : L2.St} {H1 H2 : Hp} {Q : XK} {hp hp2 h2 : Heap} {g1 g2 : Array GenState} {d1 d2 : Drawn} {t1 t2 : Nat} {os1 os2 : OsState} {a C d : Addr} {fs : List (Str × V)} (T : Raises X (.ref C)) (I1 : Inv X pins σ H1 ⟨hp, g1, d1, t1, os1⟩)
    (ha : hp.objs.size ≤ a) (k : ∀ b o, hp.get? b = some o → hp2.get? b = some o) (un : Un (frs X.stack) [] (upd H1 a (exo a C none)) H2 hp2 h2) (hok : HOk X.prog X.w H2 h2) (ho : os2 = os1) (hb : AllBare g2)
    (ea : H2 a = some (exo a C (some d))) (ed : H2 d = some (exd d fs)) (hd1 : H1 d = none) (q : Q (.ref C) (some d) (upd (del H2 a) d (.xd fs))) : L2N.MkP X pins σ Q (.ref a) ⟨h2, g2, d2, t2, os2⟩ := by
  obtain ⟨t0, G, J, kG, ge, hoe, na⟩ := mk_end0 (d2 := d2) (t2 := t2) I1 ha k un hok ho hb ea ed hd1
  exact ⟨a, _, _, ⟨G, g2, d2, t2, os2⟩, _, .ref C, some d, rfl, J, kG, ge, hoe, ⟨rfl, rfl, fun vs e => by cases e; rfl⟩, rfl, rfl, na, rfl, hb, T, q⟩
section
variable {X : Cx} {CX : CXT} {x : Str} {C fI : Addr} {k : Nat} {fd : FuncData} {ps : List Str} {sp : Sp} {e : Expr} {es : List Expr} {ta : TA} {p pos : Pos}
theorem pmk_x {bmB : List Value} {newId : String} (T : ExK X.K C bmB newId) (tyC : PySem.W.typeIn X.K (.ref C) = some (.type "type")) (bs : Bs bmB newId) (iC : PySem.W.findIn X.K (.ref C) "__init__" = some (some (.ref fI))) (tI : PySem.W.isFn X.K (.ref fI) = true)
    (G : FnOk X.prog X.w X.K X.mg X.base CX k fI fd ps sp) (hr : Room (k + 1) X.A) (hb : Binds X.K fd ps []) (hx : Passes CX X (fun _ _ _ => False)) (hg : Gl X x) (hm : X.mg x = some (.ref C)) (ha : PA X (e :: es) ta)
    (hdb : (x == ("__debug__" : Str)) = false := by decide) (he : starEach (e :: es) X.env = (false, eval e X.env) :: starEach es X.env := by rfl) (hpl : (backTo pos (starEach es X.env)).any (·.1) = false := by rfl) :
    L2N.PMk X (.Call (.Name x p) (e :: es) [] pos) (tMkO C sp [] ta) := by
  intro pins s σ H Q I h
  refine wpAny_Call_Name_kw (ld_glob I hg hm ?_ hdb)
  refine PySem.W.callWith_K (h₀ := X.base) I.ok.mod.kin T.kC (thn (ha.run pos pins s σ H _ I h) fun us s1 hh => ?_) he hpl
  obtain ⟨vs, H1, I1, r1, hz, q1⟩ := hh
  refine ⟨I1.kIn, ?_⟩
  obtain ⟨B, iid, FB, SF⟩ := bs
  obtain ⟨nm, N', qn, bs', bm, hdct, sn, sub, ab, col, dd, k0, k1, k2, k3, k5, hC, hT⟩ := PySem.W.excInit_of I1.kIn T.init
  obtain ⟨oI, hoI, hcI⟩ : ∃ oI, s1.heap.get? fI = some oI ∧ oI.cls = .type "function" := by
    obtain ⟨oo, h1, h2⟩ := Option.map_eq_some_iff.mp (show (X.K.lookup fI).map (·.cls) = some (.type "function") from beq_iff_eq.mp tI)
    exact ⟨oo, I1.kIn _ _ h1, h2⟩
  obtain ⟨hp, g, dr, tk, os⟩ := s1
  have kk : ∀ b u, hp.get? b = some u → ((hp.push (PySem.W.kdv_tup us)).push (PySem.HandSPX.excO C hp.objs.size)).get? b = some u := fun b u z => Heap.get?_push_of_some _ (Heap.get?_push_of_some _ z)
  have hget : ((hp.push (PySem.W.kdv_tup us)).push (PySem.HandSPX.excO C hp.objs.size)).get? (hp.objs.size + 1) = some (PySem.HandSPX.excO C hp.objs.size) := by heap_get
  have I2 : Inv X pins σ (upd H1 (hp.objs.size + 1) (exo (hp.objs.size + 1) C none)) ⟨(hp.push (PySem.W.kdv_tup us)).push (PySem.HandSPX.excO C hp.objs.size), g, dr, tk, os⟩ := I1.laid (t' := tk) kk (Nat.le_succ _) (exo_ok hget)
  have hq := q1 (hp.objs.size + 1) (I1.hok.fresh (Nat.le_succ _))
  rw [List.append_nil] at hq
  have r2 : Vals (V.ref (hp.objs.size + 1) :: vs) (Value.ref (hp.objs.size + 1) :: us) := .cons rfl r1
  have hl : (Value.ref (hp.objs.size + 1) :: us ++ []).length = ps.length := by
    rw [List.append_nil, ← r2.length]
    exact G.len _ _ _ _ hq
  have hus : us.length ≤ sizeLine := by
    rw [← Paired.length r1, sizeLine_eq]
    omega
  have hbi := hb _ (Value.ref (hp.objs.size + 1) :: us) I2.kIn hl
  rw [List.append_nil] at hbi
  refine wpAny_call (PySem.HandSPX.call_own FB hT hC (PySem.W.looks_findIn I1.kIn iC) (fun self => PySem.W.exc_bind hoI hcI self) hus (codeAny_mono (G.run _ X.stack _ _ _ _ _ _ (fun _ _ _ => False) (hr.make C us []) (I2.env0.make C us []) hbi r2 hq) fun r s' hq' => ?_))
  cases r with
  | error er => exact hx pins σ _ _ er s' I2 hq'
  | ok fl =>
    cases fl with
    | ret u =>
      obtain ⟨v, H2, os2, bare2, un2, hok2, rv, ev, d, fs, ea, ed, hd1, q2⟩ := hq'
      subst ev
      obtain ⟨h2, g2, d2, t2, os'⟩ := s'
      exact ⟨rv, mk_endN (raises_own T.exC tyC) I1 (Nat.le_succ _) kk un2 hok2 os2 bare2 ea ed hd1 q2⟩
    | next => exact False.elim hq'
    | brk => exact False.elim hq'
    | cont => exact False.elim hq'
end
/-- isinstance(e, c), e the exception that the suite holds -/
theorem call_isEd {X : Cx} {a D d : Addr} {oe : Obj} {pn : List (Addr × Obj)} {bmB : List Value} {nid : String} (T : ExK X.K D bmB nid) (sp : PySem.W.specialIn X.K (.builtin "object.__class__") "__get__" = some (some (.builtin "getset_descriptor.__get__"))) (tk : PySem.W.takesIn X.K (.builtin "object.__class__") = some true)
    (hz : Zc (.ref D) (some d) oe) (hf : ∃ vs, oe.data = .fields vs) : CallR (X.suite a ((a, oe) :: pn)) (.builtin "isinstance") (fun xs H Q => (∃ fs, H d = some (.xd fs)) ∧ rIsE X.K D a xs H Q) := by
  intro pins s σ H xs us Q I r h
  obtain ⟨⟨fs, hd⟩, c, cv, b, rfl, hcv, e, q⟩ := h
  cases r with
  | cons rx rr =>
    cases rr with
    | cons rt rr =>
      cases rr
      cases rx
      have ec := hcv _ rt
      subst ec
      obtain ⟨hget, _⟩ := I.pin (a, oe) (List.mem_append.mpr (.inl List.mem_cons_self))
      obtain ⟨vs, hv⟩ := hf
      have hx : ObjOk X.prog X.w H s.heap d (.xd fs) := I.hok d _ hd
      obtain ⟨mA, hns, rel⟩ := hx
      obtain ⟨od, ho, _⟩ := lookIn_ns hns
      obtain ⟨cd, hc, _⟩ := PySem.W.any_some T.hd
      have J : PySem.W.InstAt s.heap a oe D (some od) := ⟨hget, hz.1, by unfold PySem.W.notCls; rw [hv] <;> rfl, by rw [hz.2]; exact ho⟩
      exact PySem.W.kia_one (PySem.W.kitx_exc (od := some od) (by rw [hc] <;> rfl) T.ga T.gg T.exC T.ha sp tk T.hm) I.kIn J e (fun z => nomatch z) fun tk' => ⟨.bl b, H, I.kept (t' := tk') fun _ _ z => z, rfl, q⟩
theorem cxUpN {P : Program} {w : World} : CXUp (L2N.CX P w) := by
  rintro outer s H s2 H2 E e s' un kp ho ⟨a, B, H', cls, d, ea, fl, hok, ub, na, os, ag, he⟩
  refine ⟨a, B, H', cls, d, ea, fl, hok, ⟨fun b o q n hb => ub.keep b o (kp b o q) (un.free b o q n (by simp)) hb, fun b o q hb => ub.slot b o (kp b o q) hb, fun b o q n => ub.free b o (kp b o q) (un.free b o q n (by simp)),
    fun b o q hb => ub.there b o (kp b o q) hb, fun b xs q => ub.tups b xs (un.tups b xs q), fun b o xs q => ub.frzs b o xs (un.frzs b o xs q), fun b ps q => ?_⟩, na, os.trans ho, ag, he⟩
  obtain ⟨m1, e1⟩ := un.tbls b ps q
  obtain ⟨m2, e2⟩ := ub.tbls b _ e1
  exact ⟨m1 ++ m2, by rw [e2, Array.append_assoc]⟩
theorem fnH_ok {P : Program} {w : World} {K : PySem.W.Frag} {mg : Str → Option Value} {base : Heap} {f : Addr} {x qual : Str} {params : Arguments} {body : List Stmt} {scope : Scope} {dvs : List V} {kws : List (Str × V)} {fd : FuncData} {CX : CXT} {N ps : List Str} {k : Nat} {sp : Sp}
    (F : FunD K x qual params body scope dvs kws f fd) (S : FnScope N ps scope) (len : ∀ vs H Q E, sp vs H Q E → vs.length = ps.length)
    (hbody : ∀ (cdv : Value) (A : Around) (outer : List Env) (s : Shared) (H : Hp) (vs : List V) (Q : VK) (E : XK) (p : Addr × Obj), L2H.Hot1 A p → L2H.RoomH k (A.deeper (envOfC qual scope s.heap.objs.size f cdv)) → sp vs H Q E →
      ∃ t, PSs (L2H.cxH CX P w K mg base N qual scope f cdv A outer s H E p) body t ∧ t { nx := fun _ H' => Q .non H', rt := Q } (start N vs) H) : L2H.FnH P w K mg base CX (k + 1) f fd ps sp := by
  obtain ⟨oc, od, dV, kV, doc, pm, an, cdv, ct, osl, rfl, lk, hcd, _, _⟩ := F.ex
  exact L2H.fn_ofH lk hcd S len fun A outer s H vs Q E p hot hr hsp => hbody cdv A outer s H vs Q E p hot hr hsp
theorem pe_makeR0 {X : Cx} {CX : CXT} {k : Nat} {f C : Addr} {sp : Sp} {E : XK} {x : Str} {p pos : Pos} (M : Mk X.K C f) (F : FnR X.prog X.w X.K X.mg X.base CX k f sp) (hr : Room (k + 1) X.A) (hg : Gl X x) (hm : X.mg x = some (.ref C)) (hx : Passes CX X E)
    (hdb : (x == ("__debug__" : Str)) = false := by decide) : PE X (.Call (.Name x p) [] [] pos) (tMakeR C sp E tNil) := by
  refine ⟨fun pins s σ H Q I h => ?_⟩
  refine wpAny_Call_Name_kw (ld_glob I hg hm ?_ hdb)
  exact PySem.W.callWith_K0 I.kIn M.kp (run_makeR (us := []) M F hr hx I .nil h)
end KX

set_option Elab.async false
set_option maxRecDepth 100000
set_option maxHeartbeats 2000000
/-! for i, x in enumerate(t), t a tuple. -/
namespace KX
open PySem PySem.Spec PyProof.Rows L2
open Sem (wp)
open AutoSeq1 (wpAny_loadPart')
/-- enumerate's maker, told of whatever begins to be walked -/
theorem enum_new1 {v : Value} {o : Obj} {G : Heap → Prop} (B : Begins v o G) :
    Meets (Builtin.«enumerate.__new__» ⟨[.type "enumerate", v], []⟩) (fun _ R s => G s.heap ∧ R (.ok (.ret (.ref (s.heap.push o).objs.size)))
        { s with heap := (s.heap.push o).push { cls := .type "enumerate", data := .fields #[.none, .bool false, .ref s.heap.objs.size, rawInt 0, .none, .none] } }) :=
  .of_wp fun prog w A R s hh => by
    obtain ⟨hp, g, d, tk, os⟩ := s
    have hsub := sub_enumerate
    have it : ∀ {A' : Around} {E Q : Value → Shared → Prop}, Q (.ref hp.objs.size) ⟨hp.push o, g, d, tk, os⟩ → wpAny (model prog w) A' (pyIter v) Q E ⟨hp, g, d, tk, os⟩ := fun q => B.iter _ _ _ _ ⟨hp, g, d, tk, os⟩ _ hh.1 q
    wp_walk using it
    refine wpAny_stack_any fun _ => wpAny_pure ?_
    split
    case h_1 c _ _ _ _ _ => cases (c == Value.type "enumerate") <;> (wp_walk using it; exact ⟨_, rfl, hh.2⟩)
    all_goals (wp_walk using it; exact ⟨_, rfl, hh.2⟩)
section
variable {prog : Program} {w : World} {A : Around} {E : Value → Shared → Prop} {s : Shared}
theorem enum_tup {t : Addr} {its : Array Value} {Q : Value → Shared → Prop} (ht : s.heap.IsTuple t its)
    (q : ∀ h', IsEnum h' (s.heap.objs.size + 1) s.heap.objs.size 0 .none → h'.IsTupleIter s.heap.objs.size t 0 → (∀ b u, s.heap.get? b = some u → h'.get? b = some u) → Q (.ref (s.heap.objs.size + 1)) { s with heap := h' }) :
    wpAny (model prog w) A (call (.type "enumerate") [.ref t]) Q E s := by
  refine callType_new F.called_enumerate (by decide) (F.typeCall_enumerate_1 _) (F.newCall_enumerate_1 _) (fun obj => F.args_object_init_2 obj _) F.entry_enumerate_new (enum_new1 (begins_tuple t its)) ⟨ht, ?_⟩
  generalize ho : ({ cls := .type "tuple_iterator", data := .fields #[.ref t, .int 0 0] } : Obj) = o
  have hf : o.isFreed = false := by rw [← ho]; rfl
  have hz : (s.heap.push o).objs.size = s.heap.objs.size + 1 := Heap.size_push ..
  show _ ∧ _
  rw [hz]
  have e1 : ((s.heap.push o).push { cls := .type "enumerate", data := .fields #[.none, .bool false, .ref s.heap.objs.size, rawInt 0, .none, .none] }).get? (s.heap.objs.size + 1) = some { cls := .type "enumerate", data := .fields #[.none, .bool false, .ref s.heap.objs.size, rawInt 0, .none, .none] } := by
    rw [← hz]
    exact Heap.get?_push_size _ rfl
  have e2 := Heap.get?_push_of_some ({ cls := .type "enumerate", data := .fields #[.none, .bool false, .ref s.heap.objs.size, rawInt 0, .none, .none] }) (Heap.get?_push_size s.heap hf)
  exact ⟨⟨_, e1, rfl⟩, q _ e1 ⟨o, e2, by rw [← ho], by rw [← ho]; rfl⟩ fun b u z => Heap.get?_push_of_some _ (Heap.get?_push_of_some _ z)⟩
end
/-- the tuple at a as it stands at each turn, each item in a new pair -/
def ItE (K : PySem.W.Frag) (a : Addr) : It where
  go := fun i H => ∃ (xs : List V) (x : V), SqT K H a xs ∧ xs[i]? = some x
  yld := fun i H v H' => ∃ T x, v = .ref T ∧ H T = none ∧ H' = upd H T (.tup [.int (i : Nat), x]) ∧ ∀ xs, SqT K H a xs → xs[i]? = some x
  stop := fun i H => ∃ xs : List V, SqT K H a xs ∧ xs.length = i
theorem tup_ne {h : Heap} {a it : Addr} {i : Nat} {its : Array Value} (hi : h.IsTupleIter it a i) (ht : h.IsTuple a its) : a ≠ it := by
  rintro rfl
  obtain ⟨o, ho, hc, _⟩ := hi
  obtain ⟨u, hu, uc, _⟩ := ht
  rw [ho] at hu
  cases hu
  rw [hc] at uc
  exact absurd (Value.type.inj uc) (by decide)
theorem turn_enumT {P : Program} {w : World} {K : PySem.W.Frag} {elts : List Expr} {kk : Nat} {tpos : Pos} (a e it : Addr) :
    Turn P w K (.Tuple elts kk tpos) (ItE K a) [e, it] e (fun i h => (∃ old, IsEnum h e it ((i : Nat) : Int) old) ∧ h.IsTupleIter it a i ∧ e ≠ it) where
  mem := by simp
  obj := fun i h st b hb => by
    obtain ⟨⟨old, he⟩, ⟨o, ho, hc, hd⟩, _⟩ := st
    rcases List.mem_cons.mp hb with rfl | hb
    · exact ⟨_, he, fun v q => nomatch q⟩
    · rw [List.mem_singleton.mp hb]
      exact ⟨o, ho, fun v q => by rw [hd] at q; cases q⟩
  keep := fun i h h' st k => ⟨st.1.imp fun old he => k e (by simp) _ he, st.2.1.at fun o q => k it (by simp) o q, st.2.2⟩
  item := by
    intro X hP hw hK hc i pins s σ H E I hf st hg
    subst hP hw hK
    obtain ⟨⟨old, he⟩, hit, hne⟩ := st
    obtain ⟨xs, x, hq, hx⟩ := hg
    obtain ⟨its, rv, p, hz⟩ := I.tuple hq
    obtain ⟨u, hu, ru⟩ := rv.get hx
    have p' : s.heap.IsTuple a its.toArray := p
    have hel : e < s.heap.objs.size := Heap.lt_size he
    have hil : it < s.heap.objs.size := by obtain ⟨_, q, _⟩ := hit; exact Heap.lt_size q
    have hlt : i < its.toArray.size := by
      have := (List.getElem?_eq_some_iff.mp hu).1
      simpa using this
    have hea : e ≠ a := by
      rintro rfl
      obtain ⟨o2, ho2, uc, _⟩ := p'
      rw [he] at ho2
      cases ho2
      exact absurd (Value.type.inj uc) (by decide)
    refine wpAny_pyNext_enum_itemD (Draws.tuple (A := X.A.in1) (I.ok.hd hc) it a (tup_ne hit p') its.toArray) he ⟨hit, p'⟩ hlt hne (by simp [hne, hea]) fun x2 h' tk hx2 ho st2 hT hsz hk => ?_
    obtain rfl : x2 = u := by
      have e1 : its.toArray[i]? = some u := by simpa using hu
      exact Option.some.inj (hx2.symm.trans e1)
    refine ⟨_, rfl, wpAny_letOwnedTupleGo_enum (s := { s with heap := h', toks := tk + 1 }) ho fun h'' he' sb => ?_⟩
    have hT2 : h''.get? s.heap.objs.size = some { cls := .type "tuple", data := .seq #[.int i tk, x2] } := (sb.2 _ (Nat.ne_of_gt hel)).trans hT
    have new : ObjOk X.prog X.w (upd H s.heap.objs.size (.tup [.int (i : Nat), x])) h'' s.heap.objs.size (.tup [.int (i : Nat), x]) :=
      ⟨by show 2 ≤ sizeLine; decide, [.int i tk, x2], .cons ⟨_, rfl⟩ (.cons ru .nil), ⟨_, hT2, rfl, _, rfl⟩⟩
    have I1 : Inv X pins σ (upd H s.heap.objs.size (.tup [.int (i : Nat), x])) { s with heap := h'', toks := tk + 1 } :=
      I.turnedNew (ch := [e, it]) (fun b ob hb q => (sb.2 b (fun z => hb (by simp [z]))).trans (hk b ob (fun z => hb (by simp [z])) (fun z => hb (by simp [z])) q)) hf (Nat.le_refl _) new
    refine ⟨.ref s.heap.objs.size, _, I1, rfl, ⟨_, x, rfl, I.hok.fresh (Nat.le_refl _), rfl, fun ys hy => by rw [I.tuple_inj hy hq]; exact hx⟩, ⟨⟨x2, ?_⟩, st2.1.at fun o q => (sb.2 it (Ne.symm hne)).trans q, hne⟩, fun b hb => ?_⟩
    · rw [show ((i + 1 : Nat) : Int) = (i : Int) + 1 by omega]
      exact he'
    · have hb' : b < s.heap.objs.size := by
        rcases List.mem_cons.mp hb with rfl | hb
        · exact hel
        · rw [List.mem_singleton.mp hb]
          exact hil
      rw [upd_ne (Nat.ne_of_lt hb')]
      exact (hf b hb).1
  done := by
    intro X hP hw hK hc i pins s σ H E I hf st hg
    subst hP hw hK
    obtain ⟨⟨old, he⟩, hit, hne⟩ := st
    obtain ⟨xs, hq, hx⟩ := hg
    obtain ⟨its, rv, p, hz⟩ := I.tuple hq
    have p' : s.heap.IsTuple a its.toArray := p
    obtain ⟨f0, f1, f2, f3, f4, f5⟩ := hf it (by simp)
    have hl := rv.length
    obtain rfl : i = its.toArray.size := by simp; omega
    exact wpAny_pyNext_enum_endD (Draws.tuple (A := X.A.in1) (I.ok.hd hc) it a (tup_ne hit p') its.toArray) he ⟨hit, p'⟩ fun h' eb => ⟨rfl, I.turned (t' := s.toks) (fun b o hb q => eb b o hb q) f0 f1 f3 f4 f5⟩
  self := fun A i s Q E st h => let ⟨⟨_, he⟩, _⟩ := st; wpAny_pyIter_enum he h
def iEnumT (K : PySem.W.Frag) (ta : TA) : TI := fun σ H R => ta σ H fun vs H1 => ∃ a xs, vs = [.ref a] ∧ SqT K H1 a xs ∧ R (ItE K a) H1
theorem pi_enumT {X : Cx} {e : Expr} {ta : TA} {p pos tpos : Pos} {elts : List Expr} {kk : Nat} (hg : Gl X "enumerate") (hm : X.mg "enumerate" = none) (ha : PA X [e] ta) (hs : starEach [e] X.env = [(false, eval e X.env)] := by rfl) :
    PI X (.Tuple elts kk tpos) (.Call (.Name "enumerate" p) [e] [] pos) (iEnumT X.K ta) := by
  refine ⟨fun pins s σ H R I h => Call_ (ld_blt I hg hm boot_enumerate (PyProof.Rows.callWith_type1 (thn (ha.run pos pins s σ H _ I h) fun us s1 hh => ?_) hs rfl))⟩
  obtain ⟨vs, H1, I1, r1, a, xs, rfl, hq, q⟩ := hh
  obtain rfl := Vals.ref1 r1
  obtain ⟨its, rv, p', hz⟩ := I1.tuple hq
  refine enum_tup p' fun h' he hit hk => wpAny_pyIter_enum he ?_
  have I2 : Inv X pins σ H1 { s1 with heap := h' } := I1.kept (t' := s1.toks) hk
  refine ⟨s1.heap.objs.size + 1, [s1.heap.objs.size + 1, s1.heap.objs.size], _, _, H1, rfl, I2, turn_enumT a (s1.heap.objs.size + 1) s1.heap.objs.size, ⟨⟨.none, he⟩, hit, Nat.succ_ne_self _⟩, fun b hb => ?_, q⟩
  have hle : s1.heap.objs.size ≤ b := by
    rcases List.mem_cons.mp hb with rfl | hb
    · exact Nat.le_succ _
    · rw [List.mem_singleton.mp hb]
      exact Nat.le_refl _
  exact I1.fpOk hle (I1.hok.fresh hle)
theorem walk_enumT {K : PySem.W.Frag} {a : Addr} {xs : List V} : Walk (ItE K a) xs.length (fun H => SqT K H a xs) (YPair (fun i => some (.int (i : Nat))) (fun i => xs[i]?)) :=
  ⟨fun i _ hi q => ⟨xs, xs[i], q, by simp [hi]⟩, fun _ q => ⟨xs, q, rfl⟩, fun i H v H' _ q y => y.elim fun T y => y.elim fun x y => ⟨T, .int (i : Nat), x, y.1, y.2.1, y.2.2.1, rfl, y.2.2.2 xs q⟩⟩
end KX

set_option Elab.async false
set_option maxRecDepth 100000
set_option maxHeartbeats 2000000
/-! Nested data on the abstract heap: it stays while what is tracked stays; bounds of its text. -/
namespace KX
open PySem PySem.Spec PyProof.Rows L2
theorem sqT_same {K : PySem.W.Frag} {H H' : Hp} {a : Addr} {xs : List V} (s : Same H H') (h : SqT K H a xs) : SqT K H' a xs := by
  rcases h with (h | ⟨o, h⟩) | h
  · exact .inl (.inl (s _ _ h))
  · exact .inl (.inr ⟨o, s _ _ h⟩)
  · exact .inr h
mutual
theorem dp_same {K : PySem.W.Frag} {H H' : Hp} (s : Same H H') : ∀ (d : PyData) (v : V), Dp K H v d → Dp K H' v d
  | .none, _, .non => .non
  | .bool _, _, .bl b => .bl b
  | .int _, _, .int i => .int i
  | .str _, _, .str x => .str x
  | .list ds, _, .lst hS ha => .lst (s.seq hS) (dps_same s ds _ ha)
  | .tuple ds, _, .tup hS ha => .tup (sqT_same s hS) (dps_same s ds _ ha)
  | .dict _, _, h => nomatch h
theorem dps_same {K : PySem.W.Frag} {H H' : Hp} (s : Same H H') : ∀ (ds : List PyData) (vs : List V), DpAll K H vs ds → DpAll K H' vs ds
  | [], _, .nil => .nil
  | d :: ds, _, .cons h hs => .cons (dp_same s d _ h) (dps_same s ds _ hs)
end
/-- what may be shown in little room -/
structure Small (d : PyData) (k n : Nat) : Prop where
  sh : d.showable = true
  nd : d.hasDict = false
  dp : d.depth ≤ k
  ln : d.shown.length ≤ n
/-- v is small data on H -/
def Good (K : PySem.W.Frag) (H : Hp) (v : V) : Prop := ∃ d, Dp K H v d ∧ Small d 2 100
theorem Good.same {K : PySem.W.Frag} {H H' : Hp} {v : V} (s : Same H H') (h : Good K H v) : Good K H' v := let ⟨d, h1, h2⟩ := h; ⟨d, dp_same s d v h1, h2⟩
theorem good_int {K : PySem.W.Frag} {H : Hp} {i : Int} (h : i.natAbs < 10 ^ 30) : Good K H (.int i) := by
  refine ⟨.int i, .int i, ⟨decide_eq_true ?_, rfl, Nat.zero_le _, ?_⟩⟩
  · have h2 : i.natAbs < 2 ^ 100 := Nat.lt_trans h (by decide)
    exact Nat.lt_trans (PySem.Flt.log2_lt_of (by decide) h2) (by decide)
  · have q := int_text_length_le10 (k := 30) (by decide) h
    show (Str.ofString (toString i)).length ≤ 100
    rw [PySem.ofString_length]
    omega
theorem textFrom_le {m : Nat} : ∀ (ts : List Str) (k : Nat) (acc : Str), (∀ t ∈ ts, t.length ≤ m) → (textFrom k acc ts).length ≤ acc.length + ts.length * (m + 2)
  | [], k, acc, _ => Nat.le_add_right _ _
  | t :: r, k, acc, h => by
    have q := textFrom_le r (k + 1) (acc ++ (if k > 0 then ", " else "" : String) ++ t) (fun u hu => h u (List.mem_cons_of_mem _ hu))
    have ht := h t List.mem_cons_self
    have e : (acc ++ (if k > 0 then ", " else "" : String) ++ t).length ≤ acc.length + 2 + t.length := by
      rw [Str.length_append, Str.length_append]
      have z : ((if k > 0 then ", " else "" : String) : Str).length ≤ 2 := by
        split <;> decide
      omega
    have f : (t :: r).length * (m + 2) = r.length * (m + 2) + (m + 2) := by rw [List.length_cons, Nat.succ_mul]
    show (textFrom (k + 1) _ r).length ≤ _
    omega
theorem listText_le {m : Nat} {ts : List Str} (h : ∀ t ∈ ts, t.length ≤ m) : (listText ts).length ≤ ts.length * (m + 2) + 2 := by
  have q := textFrom_le ts 0 ("[" : String) h
  unfold listText
  rw [Str.length_append]
  have e1 : (("[" : String) : Str).length = 1 := by decide
  have e2 : (("]" : String) : Str).length = 1 := by decide
  omega
theorem shownAll_mem : ∀ {ds : List PyData} {t : Str}, t ∈ PyData.shownAll ds → ∃ d ∈ ds, t = d.shown
  | [], _, h => nomatch h
  | d :: r, t, h => by
    rcases List.mem_cons.mp (show t ∈ d.shown :: PyData.shownAll r from h) with h | h
    · exact ⟨d, List.mem_cons_self, h⟩
    · obtain ⟨e, he, q⟩ := shownAll_mem h
      exact ⟨e, List.mem_cons_of_mem _ he, q⟩
theorem shownAll_len : ∀ ds : List PyData, (PyData.shownAll ds).length = ds.length
  | [] => rfl
  | d :: r => congrArg (· + 1) (shownAll_len r)
theorem small_all {k n : Nat} : ∀ {ds : List PyData}, (∀ d ∈ ds, Small d k n) → PyData.showableAll ds = true ∧ PyData.hasDictAll ds = false ∧ PyData.depthAll ds ≤ k
  | [], _ => ⟨rfl, rfl, Nat.zero_le _⟩
  | d :: r, h => by
    obtain ⟨h1, h2, h3⟩ := small_all (ds := r) fun e he => h e (List.mem_cons_of_mem _ he)
    have z := h d List.mem_cons_self
    refine ⟨?_, ?_, ?_⟩
    · show (d.showable && PyData.showableAll r) = true
      rw [z.sh, h1]
      rfl
    · show (d.hasDict || PyData.hasDictAll r) = false
      rw [z.nd, h2]
      rfl
    · exact Nat.max_le.mpr ⟨z.dp, h3⟩
/-- a list of small data is small, one deeper -/
theorem small_list {k n m : Nat} {ds : List PyData} (h : ∀ d ∈ ds, Small d k n) (hm : ds.length * (n + 2) + 2 ≤ m) : Small (.list ds) (k + 1) m := by
  obtain ⟨h1, h2, h3⟩ := small_all h
  refine ⟨h1, h2, Nat.succ_le_succ h3, Nat.le_trans (listText_le (m := n) fun t ht => ?_) (by rw [shownAll_len]; exact hm)⟩
  obtain ⟨d, hd, rfl⟩ := shownAll_mem ht
  exact (h d hd).ln
end KX

set_option Elab.async false
set_option maxRecDepth 100000
set_option maxHeartbeats 2000000
/-! Nested data: its type, what isinstance says of it; items of it; small walks. -/
namespace KX
open PySem PySem.Spec PyProof.Rows L2
def tyD : PyData → String
  | .none => "NoneType"
  | .bool _ => "bool"
  | .int _ => "int"
  | .str _ => "str"
  | .list _ => "list"
  | .tuple _ => "tuple"
  | .dict _ => "dict"
def isIntD : PyData → Bool
  | .int _ => true
  | _ => false
def isBoolD : PyData → Bool
  | .bool _ => true
  | _ => false
def isStrD : PyData → Bool
  | .str _ => true
  | _ => false
def isTupD : PyData → Bool
  | .tuple _ => true
  | _ => false
def isLstD : PyData → Bool
  | .list _ => true
  | _ => false
theorem dp_ty {K : PySem.W.Frag} {H : Hp} {v : V} {d : PyData} (h : Dp K H v d) : TyX K H v (.type (tyD d)) := by
  cases h with
  | non => exact .base .non
  | bl b => exact .base (.bl b)
  | int i => exact .base (.int i)
  | str z => exact .base (.str z)
  | tup h _ =>
    rcases h with h | ⟨o, its, n, h1, h2, _⟩
    · rcases h with h | ⟨o, h⟩
      · exact .base (.tup h)
      · exact .fTuple h
    · exact .kTuple h1 h2
  | lst h _ =>
    rcases h with h | ⟨o, its, n, h1, h2, _⟩
    · rcases h with h | ⟨o, h⟩
      · exact .base (.lst h)
      · exact .base (.frz h)
    · exact .kList h1 h2
theorem kit_int {K : PySem.W.Frag} (d : PyData) : PySem.W.kitOne K (.type (tyD d)) (.type "int") = some (isIntD d || isBoolD d) := by cases d <;> kernel_rfl
theorem kit_bool {K : PySem.W.Frag} (d : PyData) : PySem.W.kitOne K (.type (tyD d)) (.type "bool") = some (isBoolD d) := by cases d <;> kernel_rfl
theorem kit_str {K : PySem.W.Frag} (d : PyData) : PySem.W.kitOne K (.type (tyD d)) (.type "str") = some (isStrD d) := by cases d <;> kernel_rfl
theorem kit_tup {K : PySem.W.Frag} (d : PyData) : PySem.W.kitOne K (.type (tyD d)) (.type "tuple") = some (isTupD d) := by cases d <;> kernel_rfl
theorem kit_lst {K : PySem.W.Frag} (d : PyData) : PySem.W.kitOne K (.type (tyD d)) (.type "list") = some (isLstD d) := by cases d <;> kernel_rfl
theorem kit_seq {K : PySem.W.Frag} (d : PyData) : PySem.W.kitAny K (.type (tyD d)) [.type "list", .type "tuple"] = some (isLstD d || isTupD d) := by
  unfold PySem.W.kitAny PySem.W.kitAny PySem.W.kitAny
  rw [kit_lst, kit_tup]
  cases d <;> rfl
theorem ite2' {b : Bool} {A B : Prop} (h1 : b = true → A) (h2 : b = false → B) : if b = true then A else B := by
  cases b
  · exact h2 rfl
  · exact h1 rfl
theorem same_put {H : Hp} {p : Addr} {o : HO} (hp : H p = none) : Same H (upd H p o) := fun x u e => (upd_ne (ne_of_none e hp)).trans e
theorem sqL_same {K : PySem.W.Frag} {H H' : Hp} {a : Addr} {xs : List V} (s : Same H H') (h : SqL K H a xs) : SqL K H' a xs := by
  rcases h with (h | ⟨o, h⟩) | h
  · exact .inl (.inl (s _ _ h))
  · exact .inl (.inr ⟨o, s _ _ h⟩)
  · exact .inr h
theorem dpall_len {K : PySem.W.Frag} {H : Hp} : ∀ {xs : List V} {ds : List PyData}, DpAll K H xs ds → xs.length = ds.length
  | _, _, .nil => rfl
  | _, _, .cons _ h => congrArg (· + 1) (dpall_len h)
theorem dpall_at {K : PySem.W.Frag} {H : Hp} : ∀ {xs : List V} {ds : List PyData} {i : Nat} {x : V}, DpAll K H xs ds → xs[i]? = some x → ∃ d, ds[i]? = some d ∧ Dp K H x d
  | _, _, 0, _, .cons h _, e => ⟨_, rfl, by cases e; exact h⟩
  | _, _, i + 1, _, .cons _ t, e => dpall_at (i := i) t e
theorem dpall_snoc {K : PySem.W.Frag} {H : Hp} {x : V} {d : PyData} (h : Dp K H x d) : ∀ {xs : List V} {ds : List PyData}, DpAll K H xs ds → DpAll K H (xs ++ [x]) (ds ++ [d])
  | _, _, .nil => .cons h .nil
  | _, _, .cons h1 t => .cons h1 (dpall_snoc h t)
theorem dpall_app {K : PySem.W.Frag} {H : Hp} {ys : List V} {es : List PyData} (k : DpAll K H ys es) : ∀ {xs : List V} {ds : List PyData}, DpAll K H xs ds → DpAll K H (xs ++ ys) (ds ++ es)
  | _, _, .nil => k
  | _, _, .cons h1 t => .cons h1 (dpall_app k t)
theorem dpall_take {K : PySem.W.Frag} {H : Hp} : ∀ {xs : List V} {ds : List PyData} (i : Nat), DpAll K H xs ds → DpAll K H (xs.take i) (ds.take i)
  | _, _, 0, _ => .nil
  | _, _, _ + 1, .nil => .nil
  | _, _, i + 1, .cons h t => .cons h (dpall_take i t)
theorem dpall_drop {K : PySem.W.Frag} {H : Hp} : ∀ {xs : List V} {ds : List PyData} (i : Nat), DpAll K H xs ds → DpAll K H (xs.drop i) (ds.drop i)
  | _, _, 0, h => h
  | _, _, _ + 1, .nil => .nil
  | _, _, i + 1, .cons _ t => dpall_drop i t
theorem dpall_set {K : PySem.W.Frag} {H : Hp} {x : V} {d : PyData} (h : Dp K H x d) : ∀ {xs : List V} {ds : List PyData} (i : Nat), DpAll K H xs ds → DpAll K H (xs.set i x) (ds.set i d)
  | _, _, _, .nil => .nil
  | _, _, 0, .cons _ t => .cons h t
  | _, _, i + 1, .cons h1 t => .cons h1 (dpall_set h i t)
theorem dpall_erase {K : PySem.W.Frag} {H : Hp} : ∀ {xs : List V} {ds : List PyData} (i : Nat), DpAll K H xs ds → DpAll K H (xs.eraseIdx i) (ds.eraseIdx i)
  | _, _, _, .nil => .nil
  | _, _, 0, .cons _ t => t
  | _, _, i + 1, .cons h t => .cons h (dpall_erase i t)
theorem dpall_3 {K : PySem.W.Frag} {H : Hp} : ∀ {xs : List V} {ds : List PyData}, DpAll K H xs ds → xs.length = 3 → ∃ x y z a b c, xs = [x, y, z] ∧ ds = [a, b, c] ∧ Dp K H x a ∧ Dp K H y b ∧ Dp K H z c
  | _, _, .cons h1 (.cons h2 (.cons h3 .nil)), _ => ⟨_, _, _, _, _, _, rfl, rfl, h1, h2, h3⟩
  | _, _, .nil, e => nomatch e
  | _, _, .cons _ .nil, e => nomatch e
  | _, _, .cons _ (.cons _ .nil), e => nomatch e
  | _, _, .cons _ (.cons _ (.cons _ (.cons _ _))), e => absurd e (by simp)
/-- a text's data -/
theorem dpall_strs {K : PySem.W.Frag} {H : Hp} : ∀ zs : List Str, DpAll K H (zs.map V.str) (zs.map PyData.str)
  | [] => .nil
  | z :: zs => .cons (.str z) (dpall_strs zs)
/-- one of two walks -/
theorem pi_or {X : Cx} {tg e : Expr} {A B : TI} (ha : PI X tg e A) (hb : PI X tg e B) : PI X tg e (fun σ H R => A σ H R ∨ B σ H R) :=
  ⟨fun pins s σ H R I h => h.elim (ha.run pins s σ H R I) (hb.run pins s σ H R I)⟩
theorem take_at {α : Type} {xs : List α} {i : Nat} {x : α} (h : xs[i]? = some x) : xs.take (i + 1) = xs.take i ++ [x] := by
  rw [List.take_add_one, h]
  rfl
theorem ixN_nat {n j : Nat} (h : j < n) : ixN n (j : Int) = some j := by
  unfold ixN
  rw [if_pos (by omega), if_pos (by omega)]
  rfl
theorem len_is {α : Type} {xs : List α} (j : Nat) (c : decide (V.int ((xs.length : Nat) : Int) = V.int (j : Int)) = true) : xs.length = j := by
  have q := V.int.inj (of_decide_eq_true c)
  omega
theorem len_not {α : Type} {xs : List α} (j : Nat) (c : decide (V.int ((xs.length : Nat) : Int) = V.int (j : Int)) = false) : xs.length ≠ j := fun e => of_decide_eq_false c (by rw [e])
theorem len_isN {α : Type} {xs : List α} (j : Nat) (c : (!decide (V.int ((xs.length : Nat) : Int) = V.int (j : Int))) = false) : xs.length = j := by
  refine len_is j ?_
  revert c
  cases decide (V.int ((xs.length : Nat) : Int) = V.int (j : Int)) <;> intro q
  · cases q
  · rfl
theorem len_notN {α : Type} {xs : List α} (j : Nat) (c : (!decide (V.int ((xs.length : Nat) : Int) = V.int (j : Int))) = true) : xs.length ≠ j := by
  rintro e
  rw [e, decide_eq_true rfl] at c
  cases c
theorem lay_all {k : Nat} : ∀ {ds : List PyData}, (∀ d ∈ ds, d.canLay0 = true ∧ d.depth ≤ k) → PyData.canLayAll0 ds = true ∧ PyData.depthAll ds ≤ k
  | [], _ => ⟨rfl, Nat.zero_le _⟩
  | d :: ds, h => by
    obtain ⟨h1, h2⟩ := h d List.mem_cons_self
    obtain ⟨h3, h4⟩ := lay_all fun e he => h e (List.mem_cons_of_mem _ he)
    refine ⟨?_, ?_⟩
    · show (d.canLay0 && PyData.canLayAll0 ds) = true
      rw [h1, h3]
      rfl
    · show max d.depth (PyData.depthAll ds) ≤ k
      exact Nat.max_le.mpr ⟨h2, h4⟩
theorem list_shaped {ds : List PyData} (h : ∀ d ∈ ds, d.canLay0 = true ∧ d.depth ≤ 60) : SeqAt.shaped (.list ds) = true := by
  obtain ⟨h1, h2⟩ := lay_all h
  unfold SeqAt.shaped
  refine Bool.and_eq_true_iff.mpr ⟨h1, decide_eq_true ?_⟩
  show PyData.depthAll ds + 1 ≤ 64
  omega
end KX

set_option Elab.async false
set_option maxRecDepth 100000
set_option maxHeartbeats 2000000
/-! Names: texts of 1 to 8 letters a to z. -/
namespace KX
open PySem PySem.Spec PyProof.Rows L2
def isLet (c : Nat) : Bool := decide (97 ≤ c) && decide (c ≤ 122)
def isNm (z : Str) : Bool := decide (1 ≤ z.length) && decide (z.length ≤ 8) && z.cps.toList.all isLet
def nmD : PyData → Bool
  | .str z => isNm z
  | _ => false
def okN (d : PyData) : Prop := ∀ z, d = .str z → z.length ≤ 1000
theorem letters_eq : (("abcdefghijklmnopqrstuvwxyz" : Str)).cps.toList = [97, 98, 99, 100, 101, 102, 103, 104, 105, 106, 107, 108, 109, 110, 111, 112, 113, 114, 115, 116, 117, 118, 119, 120, 121, 122] := by decide +kernel
theorem mem_26 (c : Nat) : c ∈ ([97, 98, 99, 100, 101, 102, 103, 104, 105, 106, 107, 108, 109, 110, 111, 112, 113, 114, 115, 116, 117, 118, 119, 120, 121, 122] : List Nat) ↔ (97 ≤ c ∧ c ≤ 122) := by
  constructor
  · intro h
    have k : ∀ x ∈ ([97, 98, 99, 100, 101, 102, 103, 104, 105, 106, 107, 108, 109, 110, 111, 112, 113, 114, 115, 116, 117, 118, 119, 120, 121, 122] : List Nat), 97 ≤ x ∧ x ≤ 122 := by decide
    exact k c h
  · rintro ⟨h1, h2⟩
    obtain ⟨k, rfl⟩ : ∃ k, c = 97 + k := ⟨c - 97, by omega⟩
    have hk : k < 26 := by omega
    have z : ∀ k : Fin 26, 97 + k.val ∈ ([97, 98, 99, 100, 101, 102, 103, 104, 105, 106, 107, 108, 109, 110, 111, 112, 113, 114, 115, 116, 117, 118, 119, 120, 121, 122] : List Nat) := by decide
    exact z ⟨k, hk⟩
theorem mem_letters (c : Nat) : decide (c ∈ (("abcdefghijklmnopqrstuvwxyz" : Str)).cps.toList) = isLet c := by
  rw [letters_eq]
  unfold isLet
  by_cases h : 97 ≤ c ∧ c ≤ 122
  · rw [decide_eq_true h.1, decide_eq_true h.2]
    exact decide_eq_true ((mem_26 c).mpr h)
  · have e : (decide (97 ≤ c) && decide (c ≤ 122)) = false := by
      by_cases h1 : 97 ≤ c
      · rw [decide_eq_true h1, decide_eq_false (fun h2 => h ⟨h1, h2⟩)]
        rfl
      · rw [decide_eq_false h1]
        rfl
    rw [e]
    exact decide_eq_false fun q => h ((mem_26 c).mp q)
theorem one_lt (a b : Nat) : ([a] < [b]) ↔ a < b := by
  constructor
  · intro h
    rcases List.cons_lt_cons_iff.mp h with h | ⟨rfl, h⟩
    · exact h
    · exact absurd h (List.lt_irrefl _)
  · intro h
    exact List.cons_lt_cons_iff.mpr (.inl h)
theorem lo_let (c : Nat) : (!decide ((⟨#[c]⟩ : Str).cps.toList < (("a" : Str)).cps.toList)) = decide (97 ≤ c) := by
  have e : (("a" : Str)).cps.toList = [97] := by decide +kernel
  rw [e]
  show (!decide ([c] < [97])) = _
  by_cases h : 97 ≤ c
  · rw [decide_eq_true h, decide_eq_false (fun q => by have := (one_lt _ _).mp q; omega)]
    rfl
  · rw [decide_eq_false h, decide_eq_true ((one_lt _ _).mpr (by omega))]
    rfl
theorem hi_let (c : Nat) : (!decide ((("z" : Str)).cps.toList < (⟨#[c]⟩ : Str).cps.toList)) = decide (c ≤ 122) := by
  have e : (("z" : Str)).cps.toList = [122] := by decide +kernel
  rw [e]
  show (!decide ([122] < [c])) = _
  by_cases h : c ≤ 122
  · rw [decide_eq_true h, decide_eq_false (fun q => by have := (one_lt _ _).mp q; omega)]
    rfl
  · rw [decide_eq_false h, decide_eq_true ((one_lt _ _).mpr (by omega))]
    rfl
theorem nm_off {d : PyData} (h : isStrD d = false) : nmD d = false := by cases d <;> first | rfl | cases h
theorem nm_short {z : Str} (h : z.length < 1) : isNm z = false := by
  unfold isNm
  rw [decide_eq_false (by omega)]
  rfl
theorem nm_long {z : Str} (h : z.length > 8) : isNm z = false := by
  unfold isNm
  rw [decide_eq_false (show ¬ z.length ≤ 8 by omega), Bool.and_false]
  rfl
theorem nm_mid {z : Str} (h1 : ¬ z.length < 1) (h2 : ¬ z.length > 8) : isNm z = z.cps.toList.all isLet := by
  unfold isNm
  rw [decide_eq_true (by omega), decide_eq_true (by omega)]
  rfl
/-- what is promised of is_name -/
def spName (K : PySem.W.Frag) : Sp := fun vs H Q _ => ∃ (x : V) (d : PyData), vs = [x] ∧ Dp K H x d ∧ okN d ∧ ∀ H', Same H H' → Q (.bl (nmD d)) H'
def spInt (K : PySem.W.Frag) : Sp := fun vs H Q _ => ∃ (x : V) (d : PyData), vs = [x] ∧ Dp K H x d ∧ Q (.bl (isIntD d)) H
theorem str_dec (u v : Str) : decide (V.str u = V.str v) = decide (u = v) := by
  by_cases h : u = v
  · rw [h, decide_eq_true rfl, decide_eq_true rfl]
  · rw [decide_eq_false (fun q => h (V.str.inj q)), decide_eq_false h]
theorem str_dec' (u v : Str) : decide (V.str u = V.str v) = decide (v = u) := by
  rw [str_dec]
  by_cases h : u = v
  · rw [h]
  · rw [decide_eq_false h, decide_eq_false (fun q => h q.symm)]
end KX

set_option Elab.async false
set_option maxRecDepth 100000
set_option maxHeartbeats 2000000
/-! A walk over a thing that is a list or a tuple. -/
namespace KX
open PySem PySem.Spec PyProof.Rows L2
section
variable {X : Cx} {tg : Expr}
def Sq (K : PySem.W.Frag) (H : Hp) (a : Addr) (xs : List V) : Prop := SqL K H a xs ∨ SqT K H a xs
theorem Sq.same {K : PySem.W.Frag} {H H' : Hp} {a : Addr} {xs : List V} (s : Same H H') (h : Sq K H a xs) : Sq K H' a xs := h.imp (sqL_same s) (sqT_same s)
def iSeq (K : PySem.W.Frag) (tl : TE) : TI := fun σ H R => tl σ H fun x H1 => ∃ a xs, x = .ref a ∧ Sq K H1 a xs ∧ ∀ J, Walk J xs.length (fun G => Same H1 G) (YAt xs) → R J H1
theorem pi_seq {l : Expr} {tl : TE} (hl : PE X l tl) : PI X tg l (iSeq X.K tl) := by
  refine ⟨fun pins s σ H R I h => ?_⟩
  refine thn (hl.run pins s σ H _ I h) fun v s1 ⟨x, H1, I1, r1, q1⟩ => ?_
  obtain ⟨a, xs, e, hq, q⟩ := q1
  subst e
  cases r1
  rcases hq with hq | hq
  · obtain ⟨its, rv, p, hz⟩ := I1.list hq
    refine wpAny_pyIter_list p.isList ?_
    refine ⟨s1.heap.objs.size, [s1.heap.objs.size], _, _, H1, rfl, I1.kept (t' := s1.toks) fun b o e => Heap.get?_push_of_some _ e, turn_list a _, ⟨_, Heap.get?_push_size _ rfl, rfl, rfl⟩, fun b hb => ?_, q _ (walk_list.mono (fun G z => sqL_same z hq) fun _ _ _ _ _ _ y => y)⟩
    have e : b = s1.heap.objs.size := by simpa using hb
    subst e
    exact I1.fpOk (Nat.le_refl _) (I1.hok.fresh (Nat.le_refl _))
  · obtain ⟨its, rv, p, hz⟩ := I1.tuple hq
    refine wpAny_pyIter_tuple (show s1.heap.IsTuple a its.toArray from p) ?_
    refine ⟨s1.heap.objs.size, [s1.heap.objs.size], _, _, H1, rfl, I1.kept (t' := s1.toks) fun b o e => Heap.get?_push_of_some _ e, turn_tuple a _, ⟨_, Heap.get?_push_size _ rfl, rfl, rfl⟩, fun b hb => ?_, q _ (walk_tup.mono (fun G z => sqT_same z hq) fun _ _ _ _ _ _ y => y)⟩
    have e : b = s1.heap.objs.size := by simpa using hb
    subst e
    exact I1.fpOk (Nat.le_refl _) (I1.hok.fresh (Nat.le_refl _))
def iEnumS (K : PySem.W.Frag) (ta : TA) : TI := fun σ H R => ta σ H fun vs H1 => ∃ a xs, vs = [.ref a] ∧ Sq K H1 a xs ∧ ∀ J, Walk J xs.length (fun G => Same H1 G) (YPair (fun i => some (.int (i : Nat))) (fun i => xs[i]?)) → R J H1
theorem pi_enumS {e : Expr} {ta : TA} {p pos tpos : Pos} {elts : List Expr} {kk : Nat} (hg : Gl X "enumerate") (hm : X.mg "enumerate" = none) (ha : PA X [e] ta) (hs : starEach [e] X.env = [(false, eval e X.env)] := by rfl) :
    PI X (.Tuple elts kk tpos) (.Call (.Name "enumerate" p) [e] [] pos) (iEnumS X.K ta) := by
  refine ⟨fun pins s σ H R I h => Call_ (ld_blt I hg hm boot_enumerate (PyProof.Rows.callWith_type1 (thn (ha.run pos pins s σ H _ I h) fun us s1 hh => ?_) hs rfl))⟩
  obtain ⟨vs, H1, I1, r1, a, xs, rfl, hq, q⟩ := hh
  obtain rfl := Vals.ref1 r1
  rcases hq with hq | hq
  · obtain ⟨its, rv, p', hz⟩ := I1.list hq
    refine call_enumerate_list p'.isList fun h' he hit hsz hk => wpAny_pyIter_enum he ?_
    have I2 : Inv X pins σ H1 { s1 with heap := h' } := I1.kept (t' := s1.toks) hk
    refine ⟨s1.heap.objs.size + 1, [s1.heap.objs.size + 1, s1.heap.objs.size], _, _, H1, rfl, I2, turn_enum a (s1.heap.objs.size + 1) s1.heap.objs.size, ⟨⟨.none, he⟩, hit, Nat.succ_ne_self _⟩, fun b hb => ?_, q _ (walk_enum.mono (fun G z => sqL_same z hq) fun _ _ _ _ _ _ y => y)⟩
    have hle : s1.heap.objs.size ≤ b := by
      rcases List.mem_cons.mp hb with rfl | hb
      · exact Nat.le_succ _
      · rw [List.mem_singleton.mp hb]
        exact Nat.le_refl _
    exact I1.fpOk hle (I1.hok.fresh hle)
  · obtain ⟨its, rv, p', hz⟩ := I1.tuple hq
    refine enum_tup p' fun h' he hit hk => wpAny_pyIter_enum he ?_
    have I2 : Inv X pins σ H1 { s1 with heap := h' } := I1.kept (t' := s1.toks) hk
    refine ⟨s1.heap.objs.size + 1, [s1.heap.objs.size + 1, s1.heap.objs.size], _, _, H1, rfl, I2, turn_enumT a (s1.heap.objs.size + 1) s1.heap.objs.size, ⟨⟨.none, he⟩, hit, Nat.succ_ne_self _⟩, fun b hb => ?_, q _ (walk_enumT.mono (fun G z => sqT_same z hq) fun _ _ _ _ _ _ y => y)⟩
    have hle : s1.heap.objs.size ≤ b := by
      rcases List.mem_cons.mp hb with rfl | hb
      · exact Nat.le_succ _
      · rw [List.mem_singleton.mp hb]
        exact Nat.le_refl _
    exact I1.fpOk hle (I1.hok.fresh hle)
/-- xs[i] of a list or a tuple -/
theorem atI_len {α β : Type} (f : α → β) (xs : List α) (i : Int) : atI (xs.map f) i = (atI xs i).map f := by
  unfold atI
  rw [List.length_map]
  cases ixN xs.length i with
  | none => rfl
  | some j =>
    show (xs.map f)[j]? = (xs[j]?).map f
    rw [List.getElem?_map]
end
end KX
namespace KX
open PySem PySem.Spec PyProof.Rows L2
theorem ix_of {K : PySem.W.Frag} {H : Hp} {a : Addr} {xs : List V} {i : Int} {v : V} {Q : VK} (h : Sq K H a xs) (e : atI xs i = some v) (q : Q v H) : rIx K (.ref a) (.int i) H Q :=
  h.elim (fun h => .inl ⟨a, xs, i, v, rfl, rfl, h, e, q⟩) fun h => .inr (.inl ⟨a, xs, i, v, rfl, rfl, h, e, q⟩)
/-- the place ahead of i, around -/
def pred (n i : Nat) : Nat := if i = 0 then n - 1 else i - 1
theorem pred_lt {n i : Nat} (h : i < n) : pred n i < n := by unfold pred; split <;> omega
theorem ixN_pred {n i : Nat} (h : i < n) : ixN n ((i : Int) - 1) = some (pred n i) := by
  unfold ixN pred
  by_cases h0 : i = 0
  · subst h0
    rw [if_neg (by omega), if_pos (by omega), if_pos rfl]
    congr 1
    omega
  · rw [if_pos (by omega), if_pos (by omega), if_neg h0]
    congr 1
    omega
theorem atI_pred {α : Type} {xs : List α} {i : Nat} (h : i < xs.length) : atI xs ((i : Int) - 1) = xs[pred xs.length i]? := by
  unfold atI
  rw [ixN_pred h]
  rfl
theorem range_at {n i : Nat} : (List.range n).take n = List.range n := by rw [List.take_of_length_le (by rw [List.length_range]; exact Nat.le_refl _)]
theorem map_range_succ {α : Type} (f : Nat → α) (i : Nat) : (List.range (i + 1)).map f = (List.range i).map f ++ [f i] := by
  rw [List.range_succ, List.map_append]
  rfl
theorem walk_rng {n : Nat} : Walk (Itr 0 n) n (fun _ => True) (fun i H x H' => H' = H ∧ x = .int ((i : Nat) : Int)) :=
  walk_range.mono (fun _ h => h) fun i H x H' _ _ y => ⟨y.1, by rw [y.2]; show V.int (0 + (i : Int)) = _; rw [Int.zero_add]⟩
def rLenQ (K : PySem.W.Frag) : List V → Hp → VK → Prop := fun xs H Q => ∃ p ys, xs = [.ref p] ∧ (SqL K H p ys ∨ SqT K H p ys) ∧ Q (.int ys.length) H
end KX

set_option Elab.async false
set_option maxRecDepth 100000
set_option maxHeartbeats 2000000
/-! len, bool, abs, in, ==, >>, + of own instances, by own methods; max(.., default=). -/
namespace KX
open PySem PySem.Spec PySem.Calls PyProof.Rows L2
section
variable {X : Cx} {pins : List (Addr × Obj)} {σ : L2.St} {H : Hp} {s : Shared} {CX : CXT} {k : Nat} {f C : Addr} {fd : FuncData} {ps : List Str} {sp : Sp} {E : XK}
/-- f called by a built-in, one call deep -/
theorem run_in1 {us : List Value} {vs : List V} {Q : VK} (F : FnOk X.prog X.w X.K X.mg X.base CX k f fd ps sp) (hr : Room (k + 1) X.A) (hb : Binds X.K fd ps []) (hx : Passes CX X E) (I : Inv X pins σ H s) (r : Vals vs us) (h : sp vs H Q E) :
    wpAny (model X.prog X.w) X.A.in1 (call (.ref f) us) (EP X pins σ Q) X.xe s := by
  have hl : (us ++ []).length = ps.length := by
    rw [List.append_nil, ← r.length]
    exact F.len _ _ _ _ h
  have hbi := hb s us I.kIn hl
  rw [List.append_nil] at hbi
  refine wpAny_call (codeAny_mono (F.run X.A.in1 X.stack s H ⟨us, []⟩ us vs Q E hr.in1 I.env0.in1 hbi r h) fun res s' z => ?_)
  match res, z with
  | .error e, z => exact hx pins σ H s e s' I z
  | .ok (.ret u), z => exact I.after z
  | .ok .next, z => exact False.elim z
  | .ok .brk, z => exact False.elim z
  | .ok .cont, z => exact False.elim z
theorem run_in0 {us : List Value} {vs : List V} {Q : VK} (F : FnOk X.prog X.w X.K X.mg X.base CX k f fd ps sp) (hr : Room k X.A) (hb : Binds X.K fd ps []) (hx : Passes CX X E) (I : Inv X pins σ H s) (r : Vals vs us) (h : sp vs H Q E) :
    wpAny (model X.prog X.w) X.A (call (.ref f) us) (EP X pins σ Q) X.xe s :=
  run_fn (dvs := []) F hr hb .nil hx I r (by rw [List.append_nil]; exact h)
/-- an instance of C that H tracks -/
abbrev InsT (H : Hp) (a C : Addr) : Prop := ∃ dx fs, H a = some (.ins C dx fs)
theorem insT_at (I : Inv X pins σ H s) {a : Addr} (h : InsT H a C) : ∃ ox od, PySem.W.InstAt s.heap a ox C od := by
  obtain ⟨dx, fs, h⟩ := h
  obtain ⟨mA, O, _⟩ := ins_get I.hok h
  obtain ⟨od, J, _⟩ := O.look
  exact ⟨_, _, J⟩
/-- len(o) -/
theorem call_lenO (m : Meth X.K C "__len__" f) (F : FnOk X.prog X.w X.K X.mg X.base CX k f fd ps sp) (hr : Room (k + 1) X.A) (hb : Binds X.K fd ps []) (hx : Passes CX X E) :
    CallR X (.builtin "len") (fun xs H Q => ∃ a, xs = [.ref a] ∧ InsT H a C ∧ sp [.ref a] H (fun v H' => ∃ n : Nat, v = .int n ∧ n < 2 ^ 62 ∧ Q (.int n) H') E) := by
  intro pins s σ H xs us Q I r h
  obtain ⟨a, rfl, hi, q⟩ := h
  obtain rfl := Vals.ref1 r
  obtain ⟨ox, od, J⟩ := insT_at I hi
  obtain ⟨m', fr⟩ := I.fr
  refine PySem.W.len_K fr I.mod.kin J m.at_ m.fn (wpAny_mono (run_in1 F hr hb hx I r q) (fun u s' z => ?_) fun _ _ z => z)
  obtain ⟨v, H', I', rv, n, rfl, hn, q'⟩ := z
  obtain ⟨t, rfl⟩ := rv
  exact ⟨⟨by omega, by omega⟩, .int n, H', I'.tok _, ⟨_, rfl⟩, q'⟩
/-- the truth of o -/
theorem truthy_O (m : Meth X.K C "__bool__" f) (F : FnOk X.prog X.w X.K X.mg X.base CX k f fd ps sp) (hr : Room k X.A) (hb : Binds X.K fd ps []) (hx : Passes CX X E) {a : Addr} {Q : Bool → Hp → Prop} (I : Inv X pins σ H s) (hi : InsT H a C)
    (q : sp [.ref a] H (fun v H' => ∃ b, v = .bl b ∧ Q b H') E) : wpAny (model X.prog X.w) X.A (truthy (.ref a)) (TP X pins σ Q) X.xe s := by
  obtain ⟨ox, od, J⟩ := insT_at I hi
  obtain ⟨m', fr⟩ := I.fr
  refine PySem.W.truthy_K fr I.mod.kin J m.at_ m.fn (wpAny_mono (run_in0 F hr hb hx I (us := [.ref a]) (vs := [.ref a]) (.cons rfl .nil) q) (fun u s' z => ?_) fun _ _ z => z)
  obtain ⟨v, H', I', rv, b, rfl, q'⟩ := z
  cases (show u = Value.bool b from rv)
  exact ⟨H', I', q'⟩
/-- x in o -/
theorem op_inO (m : Meth X.K C "__contains__" f) (F : FnOk X.prog X.w X.K X.mg X.base CX k f fd ps sp) (hr : Room k X.A) (hb : Binds X.K fd ps []) (hx : Passes CX X E) :
    OpR X (compareOp .In) (fun x y H Q => ∃ a, y = .ref a ∧ InsT H a C ∧ sp [.ref a, x] H (fun v H' => ∃ b, v = .bl b ∧ Q (.bl b) H') E) := by
  intro pins s σ H x y v u Q I rx ry h
  obtain ⟨a, rfl, hi, q⟩ := h
  cases (show u = Value.ref a from ry)
  obtain ⟨ox, od, J⟩ := insT_at I hi
  obtain ⟨m', fr⟩ := I.fr
  refine PySem.W.in_K fr I.mod.kin J m.at_ m.fn (wpAny_mono (run_in0 F hr hb hx I (us := [.ref a, v]) (vs := [.ref a, x]) (.cons rfl (.cons rx .nil)) q) (fun u s' z => ?_) fun _ _ z => z)
  obtain ⟨v', H', I', rv, b, rfl, q'⟩ := z
  cases (show u = Value.bool b from rv)
  exact wpAny_truthy_bool ⟨.bl b, H', I', rfl, q'⟩
theorem op_notInO (m : Meth X.K C "__contains__" f) (F : FnOk X.prog X.w X.K X.mg X.base CX k f fd ps sp) (hr : Room k X.A) (hb : Binds X.K fd ps []) (hx : Passes CX X E) :
    OpR X (compareOp .NotIn) (fun x y H Q => ∃ a, y = .ref a ∧ InsT H a C ∧ sp [.ref a, x] H (fun v H' => ∃ b, v = .bl b ∧ Q (.bl (!b)) H') E) := by
  intro pins s σ H x y v u Q I rx ry h
  obtain ⟨a, rfl, hi, q⟩ := h
  cases (show u = Value.ref a from ry)
  obtain ⟨ox, od, J⟩ := insT_at I hi
  obtain ⟨m', fr⟩ := I.fr
  refine PySem.W.notIn_K fr I.mod.kin J m.at_ m.fn (wpAny_mono (run_in0 F hr hb hx I (us := [.ref a, v]) (vs := [.ref a, x]) (.cons rfl (.cons rx .nil)) q) (fun u s' z => ?_) fun _ _ z => z)
  obtain ⟨v', H', I', rv, b, rfl, q'⟩ := z
  cases (show u = Value.bool b from rv)
  exact wpAny_truthy_bool ⟨.bl (!b), H', I', rfl, q'⟩
/-- abs(o) -/
theorem call_absO (m : Meth X.K C "__abs__" f) (F : FnOk X.prog X.w X.K X.mg X.base CX k f fd ps sp) (hr : Room (k + 1) X.A) (hb : Binds X.K fd ps []) (hx : Passes CX X E) :
    CallR X (.builtin "abs") (fun xs H Q => ∃ a, xs = [.ref a] ∧ InsT H a C ∧ sp [.ref a] H Q E) := by
  intro pins s σ H xs us Q I r h
  obtain ⟨a, rfl, hi, q⟩ := h
  obtain rfl := Vals.ref1 r
  obtain ⟨ox, od, J⟩ := insT_at I hi
  refine call_function_entry kind_abs plain_abs entry_abs (args_abs _) ?_
  unfold Builtin.«abs»
  refine wpAny_bind (m := oneArg "abs" _) (wpAny_pure ?_)
  refine wpAny_bind (m := callSpecial? (.ref a) (Str.ofString "__abs__")) ?_
  refine PySem.W.special_fn I.kIn J m.at_ (beq_iff_eq.mp m.fn) ?_
  exact wpAny_mono (run_in1 F hr hb hx I r q) (fun u s' z => wpAny_pure ⟨u, rfl, z⟩) fun _ _ z => z
/-- max(xs, default=d), of whole numbers -/
def rMaxD (K : PySem.W.Frag) : List V → List V → Hp → VK → Prop := fun xs zs H Q => ∃ (a : Addr) (ns : List Int) (d : Int), xs = [.ref a] ∧ zs = [.int d] ∧ SqL K H a (ns.map V.int) ∧
  Q (.int (match ns with | [] => d | n :: r => r.foldl max n)) H
theorem cr_maxD (hc : X.calm = true) (hu : X.A.units + 64 < cLine) : CallRK X (.builtin "max") [Str.ofString "default"] (rMaxD X.K) := by
  intro pins s σ H xs zs us ws Q I r rz h
  obtain ⟨a, ns, d, rfl, rfl, hs, q⟩ := h
  obtain rfl := Vals.ref1 r
  obtain ⟨ud, rfl, td, rfl⟩ := vals1 rz
  obtain ⟨its, rv, hl, _⟩ := I.list hs
  obtain ⟨as, ra⟩ : ∃ as, ReadsAll s.heap its (ns.map PyData.int) as := by
    clear hs hl q
    rename_i hlen
    clear hlen
    induction ns generalizing its with
    | nil => cases rv; exact ⟨_, .nil⟩
    | cons n r ih =>
      cases rv with
      | cons h t =>
        obtain ⟨tk, rfl⟩ := h
        obtain ⟨as, ra⟩ := ih _ t
        exact ⟨_, .cons (.int _ _) ra⟩
  have dep : PyData.depthAll (ns.map PyData.int) = 0 := by
    clear ra hs q rv hl
    rename_i hlen
    clear hlen
    induction ns with
    | nil => rfl
    | cons n r ih => exact Nat.le_zero.mp (Nat.max_le.mpr ⟨Nat.le_refl _, Nat.le_of_eq ih⟩)
  refine PySem.W.max_list_default (I.ok.hd hc) hl.isList (by simpa using ra) ⟨fun x hx y hy => by
    obtain ⟨i, _, rfl⟩ := List.mem_map.mp hx
    obtain ⟨j, _, rfl⟩ := List.mem_map.mp hy
    rfl, fun x hx => by
    obtain ⟨i, _, rfl⟩ := List.mem_map.mp hx
    exact nofun⟩ (by rw [dep]; omega) (fun e h' tk kp => ?_) (fun y ys i v h' tk bs e hv hr kp => ?_)
  · have e0 : ns = [] := List.map_eq_nil_iff.mp e
    subst e0
    exact ⟨.int d, H, I.kept (t' := tk) kp, ⟨_, rfl⟩, q⟩
  · cases ns with
    | nil => cases e
    | cons n r =>
      cases e
      rw [PySem.W.maxD_ints] at hr
      cases hr
      exact ⟨.int _, H, I.kept (t' := tk) kp, ⟨_, rfl⟩, q⟩
/-- bool(o) -/
theorem bool_in {prog : Program} {w : World} (x : Value) : MeetsIn prog w (Builtin.«bool.__new__» ⟨[.type "bool", x], []⟩) (fun A R s => wpAny (model prog w) A.in1 (truthy x) (fun b s' => R (.ok (.ret (.bool b))) s') (fun e s' => R (.error e) s') s) :=
  .of_wp fun A R s h => by
    have f1 := F.conv_sub_bool
    obtain ⟨hp, g, d, tk, os⟩ := s
    repeat (any_goals (first | assumption | (with_reducible refine wpAny_bind (wpAny_mono h (fun b s' z => ?_) fun _ _ e => e)) | wp_step))
    exact ⟨_, rfl, z⟩
theorem op_eqO (m : Meth X.K C "__eq__" f) (F : FnOk X.prog X.w X.K X.mg X.base CX k f fd ps sp) (hr : Room k X.A) (hb : Binds X.K fd ps []) (hx : Passes CX X E) (hu : X.A.units < cLine) :
    OpR X (compareOp .Eq) (fun x y H Q => ∃ (a : Addr) (t : Value), x = .ref a ∧ InsT H a C ∧ TyX X.K H y t ∧ PySem.W.notFirst X.K C t = true ∧ sp [.ref a, y] H (fun v H' => ∃ b, v = .bl b ∧ Q (.bl b) H') E) := by
  intro pins s σ H x y v u Q I rx ry h
  obtain ⟨a, t, rfl, hi, ty, hn, q⟩ := h
  cases (show v = Value.ref a from rx)
  obtain ⟨ox, od, J⟩ := insT_at I hi
  obtain ⟨m', fr⟩ := I.fr
  obtain ⟨P, Z, p, _⟩ := kit_of I ry ty
  show wpAny _ _ (richCompare .Eq (.ref a) u) _ _ _
  refine PySem.W.cmp_K (op := .Eq) hu fr I.mod.kin J (Z.ty _ _ I.kIn p) hn m.at_ m.fn (wpAny_mono (run_in0 F hr hb hx I (us := [.ref a, u]) (vs := [.ref a, y]) (.cons rfl (.cons ry .nil)) q) (fun w s' z => ?_) fun _ _ z => z)
  obtain ⟨v', H', I', rv, b, rfl, q'⟩ := z
  cases (show w = Value.bool b from rv)
  exact ⟨.bl b, H', I', rfl, q'⟩
/-- bool(x), by the truth of x -/
theorem bool_of {x : Value} {Q : Bool → Hp → Prop} {R : VK} (h : wpAny (model X.prog X.w) X.A.in1.in1 (truthy x) (TP X pins σ Q) X.xe s) (q : ∀ b H', Q b H' → R (.bl b) H') : wpAny (model X.prog X.w) X.A (call (.type "bool") [x]) (EP X pins σ R) X.xe s :=
  callType_newIn F.called_bool F.newNe_bool (F.typeCall_bool_1 x) (F.newCall_bool_1 x) (fun obj => F.args_object_init_2 obj x) F.entry_bool_new (bool_in x) (wpAny_mono h (fun b s' z => by
    obtain ⟨H', I', q'⟩ := z
    exact ⟨PySem.typeIs_bool _ _, .bl b, H', I', rfl, q b H' q'⟩) fun _ _ z => z)
theorem run_in22 {us : List Value} {vs : List V} {Q : VK} (F : FnOk X.prog X.w X.K X.mg X.base CX k f fd ps sp) (hr : Room (k + 2) X.A) (hb : Binds X.K fd ps []) (hx : Passes CX X E) (I : Inv X pins σ H s) (r : Vals vs us) (h : sp vs H Q E) :
    wpAny (model X.prog X.w) X.A.in1.in1 (call (.ref f) us) (EP X pins σ Q) X.xe s := by
  have hl : (us ++ []).length = ps.length := by
    rw [List.append_nil, ← r.length]
    exact F.len _ _ _ _ h
  have hbi := hb s us I.kIn hl
  rw [List.append_nil] at hbi
  refine wpAny_call (codeAny_mono (F.run X.A.in1.in1 X.stack s H ⟨us, []⟩ us vs Q E hr.in1.in1 I.env0.in1.in1 hbi r h) fun res s' z => ?_)
  match res, z with
  | .error e, z => exact hx pins σ H s e s' I z
  | .ok (.ret u), z => exact I.after z
  | .ok .next, z => exact False.elim z
  | .ok .brk, z => exact False.elim z
  | .ok .cont, z => exact False.elim z
/-- bool(o) -/
theorem call_boolO (m : Meth X.K C "__bool__" f) (F : FnOk X.prog X.w X.K X.mg X.base CX k f fd ps sp) (hr : Room (k + 2) X.A) (hb : Binds X.K fd ps []) (hx : Passes CX X E) :
    CallR X (.type "bool") (fun xs H Q => ∃ a, xs = [.ref a] ∧ InsT H a C ∧ sp [.ref a] H (fun v H' => ∃ b, v = .bl b ∧ Q (.bl b) H') E) := by
  intro pins s σ H xs us Q I r h
  obtain ⟨a, rfl, hi, q⟩ := h
  obtain rfl := Vals.ref1 r
  obtain ⟨ox, od, J⟩ := insT_at I hi
  obtain ⟨m', fr⟩ := I.fr
  refine bool_of (Q := fun b H' => Q (.bl b) H') (PySem.W.truthy_K fr I.mod.kin J m.at_ m.fn (wpAny_mono (run_in22 F hr hb hx I r q) (fun u s' z => ?_) fun _ _ z => z)) fun b H' q => q
  obtain ⟨v, H', I', rv, b, rfl, q'⟩ := z
  cases (show u = Value.bool b from rv)
  exact ⟨H', I', q'⟩
/-- bool(t), t a tuple -/
theorem call_boolT : CallR X (.type "bool") (fun xs H Q => ∃ (a : Addr) (zs : List V), xs = [.ref a] ∧ SqT X.K H a zs ∧ Q (.bl (!zs.isEmpty)) H) := by
  intro pins s σ H xs us Q I r h
  obtain ⟨a, zs, rfl, hq, q⟩ := h
  obtain rfl := Vals.ref1 r
  obtain ⟨its, rv, pl, hz⟩ := I.tuple hq
  have hl := line63
  have hlen := rv.length
  exact bool_of (Q := fun b H' => Q (.bl b) H') (truthy_tuple pl (by simp only [List.size_toArray]; omega) ⟨H, I.tok _, by rw [isEmpty_of rv]; exact q⟩) fun b H' q => q
end
end KX

set_option Elab.async false
set_option maxRecDepth 100000
set_option maxHeartbeats 2000000
/-! The hook with properties beside: their getters as defs. -/
namespace KX
open PySem PySem.Spec PyProof.Rows L2 He
def gAd (K : PySem.W.Frag) (c x : Str) : Addr := match PySem.W.recIn K (ma K (ga K c) x) "property" with
  | some (.ref g :: _) => g
  | _ => 0
def fnA (K : PySem.W.Frag) (f : Addr) : FnW := match K.lookup f with
  | some ⟨_, _, .func r, _⟩ => some (r.name, r.qualname, r.params, r.body, r.scope, r.globals, r.closure, r.builtins)
  | _ => none
/-- the property x of the class c, whose getter is d -/
structure PrD where
  c : Str
  x : Str
  d : DefD
def okA (K : PySem.W.Frag) (f : Addr) (d : DefD) : Bool := PySem.W.keepIn K (.ref f) && (match K.lookup f with
  | some ⟨_, _, .func r, _⟩ => PySem.W.codeIn K r.code d.qual && (dflB K r.defaults (d.dvs K) && kwdB K r.kwdefaults (d.kws K))
  | _ => false)
def propB (K : PySem.W.Frag) (c x : Str) : Bool :=
  eqO (PySem.W.findIn K (.ref (ga K c)) x) (some (some (.ref (ma K (ga K c) x)))) && (eqO (PySem.W.specialIn K (.ref (ma K (ga K c) x)) "__get__") (some (some (.builtin "property.__get__"))) &&
  (decide (PySem.W.takesIn K (.ref (ma K (ga K c) x)) = some true) && (match PySem.W.recIn K (ma K (ga K c) x) "property" with
  | some (.ref _ :: _) => true
  | _ => false)))
theorem propB_ok {K : PySem.W.Frag} {c x : Str} (h : propB K c x = true) : PropOf K (ga K c) x (ma K (ga K c) x) (gAd K c x) := by
  unfold propB at h
  obtain ⟨h1, h⟩ := Bool.and_eq_true_iff.mp h
  obtain ⟨h2, h⟩ := Bool.and_eq_true_iff.mp h
  obtain ⟨h3, h4⟩ := Bool.and_eq_true_iff.mp h
  refine ⟨eqO_ok h1, eqO_ok h2, of_decide_eq_true h3, ?_⟩
  unfold gAd
  split at h4
  · rename_i g rest e
    rw [e]
    exact ⟨rest, rfl⟩
  · cases h4
theorem fnA_ok {K : PySem.W.Frag} {d : DefD} {f : Addr} (e : fnA K f = d.val) (c : okA K f d = true) : ∃ fd, FunD K d.name d.qual d.params d.body d.scope (d.dvs K) (d.kws K) f fd := by
  obtain ⟨kp, c2⟩ := Bool.and_eq_true_iff.mp c
  unfold fnA at e
  cases q : K.lookup f with
  | none => rw [q] at c2; cases c2
  | some o =>
    obtain ⟨u1, u2, u3, u4⟩ := o
    rw [q] at c2 e
    cases u3 with
    | func fd =>
      obtain ⟨m1, m2, m3, m4, m5, m6, m7, m8, m9, mA, mB, mC, mD, mE, mF⟩ := fd
      have e2 : (some (m1, m2, m3, m4, m5, m6, m7, mF) : FnW) = some (d.name, d.qual, d.params, .stmts d.body, d.scope, mainGlobals, [], builtinsNs) := e
      simp only [Option.some.injEq, Prod.mk.injEq] at e2
      obtain ⟨h1, h2, h3, h4, h5, h6, h7, h8⟩ := e2
      subst h1 h2 h3 h4 h5 h6 h7 h8
      obtain ⟨k1, k2⟩ := Bool.and_eq_true_iff.mp (show (PySem.W.codeIn K mD d.qual && (dflB K m8 (d.dvs K) && kwdB K m9 (d.kws K))) = true from c2)
      obtain ⟨k3, k4⟩ := Bool.and_eq_true_iff.mp k2
      exact ⟨_, ⟨u1, u2, m8, m9, mA, mB, mC, mD, mE, u4, rfl, q, k1, dflB_ok k3, kwdB_ok k4⟩, kp⟩
    | _ => cases c2
def prOk (K : PySem.W.Frag) (p : PrD) : Bool := propB K p.c p.x && okA K (gAd K p.c p.x) p.d
def lookP (n : Nat) (chk : PySem.W.Frag → Bool) (fn : List DefD) (ps : List PrD) (g : Addr → Option Obj) : Bool × List FnW :=
  let K := frG g (asD g n)
  (chk K && (fn.all (fun d => d.ok K) && ps.all (prOk K)), fn.map (fun d => fnW K d.at_) ++ ps.map fun p => fnA K (gAd K p.c p.x))
def SaysP (chk : PySem.W.Frag → Bool) (fn : List DefD) (ps : List PrD) (K : PySem.W.Frag) : Prop := SaysX chk fn K ∧ ps.all (prOk K) = true ∧ ps.map (fun p => fnA K (gAd K p.c p.x)) = ps.map fun p => p.d.val
def hookP (n : Nat) (chk : PySem.W.Frag → Bool) (fn : List DefD) (ps : List PrD) : PySem.W.Hook where
  α := Bool × List FnW
  obs := fun s => lookP n chk fn ps s.heap.get?
  val := fun _ => (true, fn.map DefD.val ++ ps.map fun p => p.d.val)
  says := fun _ h => ∃ K : PySem.W.Frag, K.In h ∧ SaysP chk fn ps K
  of := fun _ s e => by
    refine ⟨frG s.heap.get? (asD s.heap.get? n), frG_in, ?_⟩
    obtain ⟨a, b⟩ := Bool.and_eq_true_iff.mp (congrArg Prod.fst e)
    obtain ⟨b1, b2⟩ := Bool.and_eq_true_iff.mp b
    have e2 := List.append_inj (congrArg Prod.snd e) (by simp)
    exact ⟨⟨a, b1, e2.1⟩, b2, e2.2⟩
  keeps := fun _ _ _ h k => by
    obtain ⟨K, hK, c⟩ := h
    exact ⟨K, PySem.W.Frag.In.keeps hK k, c⟩
theorem lookP_eq {n : Nat} {chk : PySem.W.Frag → Bool} {fn : List DefD} {ps : List PrD} {g : Addr → Option Obj} {s : Shared} (h : ∀ a, g a = s.heap.get? a) : lookP n chk fn ps g = (hookP n chk fn ps).obs s := by
  obtain rfl : g = s.heap.get? := funext h
  rfl
theorem SaysP.pr {chk : PySem.W.Frag → Bool} {fn : List DefD} {ps : List PrD} {K : PySem.W.Frag} (c : SaysP chk fn ps K) (i : Nat) {p : PrD} (h : ps[i]? = some p := by rfl) :
    PropOf K (ga K p.c) p.x (ma K (ga K p.c) p.x) (gAd K p.c p.x) ∧ ∃ fd, FunD K p.d.name p.d.qual p.d.params p.d.body p.d.scope (p.d.dvs K) (p.d.kws K) (gAd K p.c p.x) fd := by
  obtain ⟨_, c2, c3⟩ := c
  have q := congrArg (·[i]?) c3
  simp only [List.getElem?_map, h, Option.map_some] at q
  obtain ⟨k1, k2⟩ := Bool.and_eq_true_iff.mp (List.all_eq_true.mp c2 p (List.mem_of_getElem? h))
  exact ⟨propB_ok k1, fnA_ok (Option.some.inj q) k2⟩
end KX

set_option Elab.async false
set_option maxRecDepth 100000
set_option maxHeartbeats 0
namespace K08
open PySem PySem.Spec PyProof.Rows L2 He KX
def top (i : Nat) : Stmt := PySem.Challenge.pw_rowsinplace_k08_whole_faults_of_boards.main.body.getD i (.Pass ⟨0, 0, 0, 0⟩)
def frees : List Str := ["isinstance", "int", "bool", "str", "len", "all", "tuple", "list", "enumerate", "sum", "abs", "range", "max", "min", "sorted", "zip", "set"]
def gls : List Str := ["is_integer", "is_name", "Board", "_fault_of", "_law_bag", "_law_draw", "_law_of", "_law_name", "_law_names", "_law_rows", "_law_places", "_law_fault", "_law_is_unlike", "law"]
def meths : List Str := ["__setitem__", "list_names", "first_fault", "_pairs"]
def brdB (K : PySem.W.Frag) : Bool :=
  let C := ga K "Board"
  (Fa.mkr "Board").ok K && ((Fa.cls "Board").ok K && ((Fa.noat "Board" "_spots").ok K && ((meths.all fun m => (Fa.meth "Board" m).ok K) && PySem.W.noSeq K C)))
def chk (K : PySem.W.Frag) : Bool := brdB K && ((frees.all fun x => (Fa.free x).ok K) && (gls.all fun x => (Fa.glo x).ok K))
def methD (i j : Nat) (c m : Str) : DefD := ⟨(c, some m), m, c ++ "." ++ m, defArgs (inClass (top i) j), defBody (inClass (top i) j), defScope (inClass (top i) j), [], []⟩
def initD (i : Nat) (c : Str) : DefD := ⟨(c, some "__init__"), "__init__", c ++ ".__init__", defArgs (inClass (top i) 0), defBody (inClass (top i) 0), defScope (inClass (top i) 0), [], []⟩
def fnD (i : Nat) (x : Str) : DefD := ⟨(x, none), x, x, defArgs (top i), defBody (top i), defScope (top i), [], []⟩
def fn : List DefD := [fnD 2 "is_integer", fnD 3 "is_name", initD 13 "Board", fnD 14 "_fault_of", fnD 16 "_law_bag", fnD 17 "_law_draw", fnD 18 "_law_of", fnD 19 "_law_name", fnD 20 "_law_names", fnD 21 "_law_rows", fnD 22 "_law_places", fnD 23 "_law_fault", fnD 24 "_law_is_unlike", fnD 25 "law",
  methD 13 2 "Board" "__setitem__", methD 13 11 "Board" "list_names", methD 13 13 "Board" "first_fault", methD 13 18 "Board" "_pairs"]
def prs : List PrD := [⟨"Board", "is_dense", methD 13 14 "Board" "is_dense"⟩, ⟨"Board", "is_unlike", methD 13 15 "Board" "is_unlike"⟩]
abbrev R : PySem.W.OpenRow := PySem.W.OpenLaw.row PySem.Challenge.rw_rowsinplace_k08_whole_faults_of_boards
abbrev hk : PySem.W.Hook := hookP 5 chk fn prs
def ob (s : PySem.W.SharedT) : Bool × List FnW := lookP 5 chk fn prs (HandSHeadRun.getT s)
theorem ob_eq (s : PySem.W.SharedT) : ob s = hk.obs s.abs := lookP_eq (HandSHeadRun.getT_eq s)
def loose : List Str := (["_wall", "is_integer", "is_name", "PlaceError", "MissingError", "NoRow", "NoPlace", "BadName", "BadPlace", "Twice", "Board", "_fault_of", "_law_bag", "_law_draw", "_law_of", "_law_name", "_law_names", "_law_rows", "_law_places", "_law_fault", "_law_is_unlike"] : List Str)
theorem run (w : World) : HandSHeadRun.RunEq R (PySem.W.view R.prog [25]) hk ob 20000 loose w := by
  intro os
  kernel_rfl
end K08

set_option Elab.async false
set_option maxRecDepth 100000
set_option maxHeartbeats 2000000
namespace K08
open PySem PySem.Spec PyProof.Rows L2 KX
abbrev sBag : Stmt := top 16
abbrev sDraw : Stmt := top 17
abbrev sOf : Stmt := top 18



abbrev sLaw : Stmt := top 25
abbrev FnP (K : PySem.W.Frag) (x : Str) (st : Stmt) (f : Addr) (fd : FuncData) : Prop := FunD K x x (defArgs st) (defBody st) (defScope st) [] [] f fd
section
variable {P : Program} {w : World} {K : PySem.W.Frag} {mg : Str → Option Value} {base : Heap}
theorem scBag : FnScope ["script", "at", "cell", "digits"] ["script", "at"] (defScope sBag) := ⟨rfl, rfl, rfl, by decide +kernel, rfl, by decide +kernel, by decide +kernel⟩
theorem ok_bag {f : Addr} {fd : FuncData} (F : FnP K "_law_bag" sBag f fd) (gLen : mg "len" = none) (gAbs : mg "abs" = none) (gInt : mg "int" = none) : FnOk P w K mg base CX0 1 f fd ["script", "at"] (spBag K) := by
  refine F.ok scBag (fun vs H Q E h => ?_) (fun cdv A outer s H vs Q E hr h => ?_)
  · obtain ⟨a, ns, i, rfl, _⟩ := h
    rfl
  · obtain ⟨a, ns, i, rfl, hS, hl, hi, k⟩ := h
    refine ⟨_, PSs.nox (pss_cons (ps_set (i := 2) scBag.nd rfl (Or.inl rfl) (pe_ifExp (pt_cmpR op_lt (pv 1) (pe_callB call_len_seq (by rfl) gLen PySem.boot_len (pa_cons (pv 0) pa_nil)) (nomark _)) (pe_ix ix_list (pv 0) (pv 1) (fun _ _ => rfl)) pe_int))
      (pss_cons (ps_set (i := 3) scBag.nd rfl (Or.inl rfl) (pe_ifExp (pt_cmpR op_ge (pe_callB call_abs (by rfl) gAbs (by decide +kernel) (pa_cons (pv 2) pa_nil)) (pe_op op_pow pe_int pe_int) (nomark _)) (pe_callB call_abs (by rfl) gAbs (by decide +kernel) (pa_cons (pv 2) pa_nil)) pe_int))
      (pss_one (ps_ret (pe_lst (pa_cons (pv 3) (pa_cons (pe_op op_add (pe_op op_add (pe_op op_modN (pe_callTy call_int1 (by rfl) gInt (by decide +kernel) (pa_cons (pv 2) pa_nil)) pe_int) (pe_op op_mul pe_int (pv 1))) pe_int) (pa_cons pe_int pa_nil)))))))), ?_⟩
    have fin : ∀ (d z : Int), 0 ≤ d → ∀ (p : Addr), H p = none → Q (.ref p) (upd H p (.lst [.int d, .int (z.fmod 1152921504606846883 + 7001 * (i : Int) + 17), .int 0])) := by
      intro d z hd p hp
      obtain ⟨h1, h2⟩ := fmod_in (x := z) (y := 1152921504606846883) (by decide)
      exact k p _ hp (Kept.new hp) (fun x n => upd_ne n) ⟨d, _, 0, upd_same, hd, by omega, by omega, by decide, by decide⟩
    refine ⟨_, rfl, _, rfl, _, _, rfl, .inl hS, _, _, rfl, rfl, _, rfl, ?_⟩
    refine ite2 (fun c => ?_) (fun c => ?_)
    · have ci : i < ns.length := by
        have c' : (i : Int) < ((ns.map V.int).length : Int) := of_decide_eq_true c
        rw [List.length_map] at c'
        omega
      have hx : (ns.map V.int)[i]? = some (.int ns[i]) := by
        rw [List.getElem?_map, List.getElem?_eq_getElem ci]
        rfl
      refine ⟨_, rfl, _, rfl, _, _, _, _, rfl, rfl, hS, atI_nat hx, ?_⟩
      refine ⟨_, rfl, _, rfl, _, _, rfl, rfl, ⟨by decide, by decide, by decide⟩, _, _, rfl, rfl, _, rfl, ?_⟩
      refine ite2 (fun c2 => ?_) (fun c2 => ?_)
      · refine ⟨_, rfl, _, rfl, _, rfl, _, rfl, .inl ⟨_, rfl, _, _, rfl, rfl, (by show (1152921504606846883 : Int) ≠ 0; decide), _, rfl, _, _, rfl, rfl, .inl ⟨by decide, by decide⟩, _, _, rfl, rfl, _, _, rfl, rfl, ?_⟩⟩
        exact ⟨(by show 3 ≤ sizeLine; decide), fun p hp => fin _ _ (by split <;> omega) p hp⟩
      · refine ⟨_, rfl, _, rfl, .inl ⟨_, rfl, _, _, rfl, rfl, (by show (1152921504606846883 : Int) ≠ 0; decide), _, rfl, _, _, rfl, rfl, .inl ⟨by decide, by decide⟩, _, _, rfl, rfl, _, _, rfl, rfl, ?_⟩⟩
        exact ⟨(by show 3 ≤ sizeLine; decide), fun p hp => fin _ _ (by decide) p hp⟩
    · refine ⟨_, rfl, _, rfl, _, _, rfl, rfl, ⟨by decide, by decide, by decide⟩, _, _, rfl, rfl, _, rfl, ?_⟩
      refine ite2 (fun c2 => ?_) (fun c2 => ?_)
      · refine ⟨_, rfl, _, rfl, _, rfl, _, rfl, .inl ⟨_, rfl, _, _, rfl, rfl, (by show (1152921504606846883 : Int) ≠ 0; decide), _, rfl, _, _, rfl, rfl, .inl ⟨by decide, by decide⟩, _, _, rfl, rfl, _, _, rfl, rfl, ?_⟩⟩
        exact ⟨(by show 3 ≤ sizeLine; decide), fun p hp => fin _ _ (by split <;> omega) p hp⟩
      · refine ⟨_, rfl, _, rfl, .inl ⟨_, rfl, _, _, rfl, rfl, (by show (1152921504606846883 : Int) ≠ 0; decide), _, rfl, _, _, rfl, rfl, .inl ⟨by decide, by decide⟩, _, _, rfl, rfl, _, _, rfl, rfl, ?_⟩⟩
        exact ⟨(by show 3 ≤ sizeLine; decide), fun p hp => fin _ _ (by decide) p hp⟩
/-- if bag[0] > 0: a digit; else the next mixed number -/
theorem scDraw : FnScope ["bag", "many", "digit", "mixed"] ["bag", "many"] (defScope sDraw) := ⟨rfl, rfl, rfl, by decide +kernel, rfl, by decide +kernel, by decide +kernel⟩
theorem ok_draw {f : Addr} {fd : FuncData} (F : FnP K "_law_draw" sDraw f fd) (gInt : mg "int" = none) : FnOk P w K mg base CX0 1 f fd ["bag", "many"] spDraw := by
  refine F.ok scDraw (fun vs H Q E h => ?_) (fun cdv A outer s H vs Q E hr h => ?_)
  · obtain ⟨b, n, many, rfl, _⟩ := h
    rfl
  · obtain ⟨b, n, many, rfl, ⟨d, m, c, hb, hd, hm0, hm, hc0, hc⟩, hn, hp, hw, k⟩ := h
    refine ⟨_, PSs.nox (pss_cons (ps_if (pt_cmpR op_gt (pe_ix ix_list (pv 0) pe_int (fun _ _ => rfl)) pe_int (nomark _))
        (pss_cons (ps_set (i := 2) scDraw.nd rfl (Or.inl rfl) (pe_op op_modN (pe_callTy call_int1 (by rfl) gInt (by decide +kernel) (pa_cons (pe_ix ix_list (pv 0) pe_int (fun _ _ => rfl)) pa_nil)) (pv 1)))
        (pss_cons (ps_asg (pe_op op_fdivW (pe_ix ix_list (pv 0) pe_int (fun _ _ => rfl)) (pv 1)) (pg_sub (pv 0) pe_int set_list))
        (pss_one (ps_ret (pv 2)))))
        pss_nil)
      (pss_cons (ps_asg (pe_op op_add (pe_ix ix_list (pv 0) pe_int (fun _ _ => rfl)) pe_int) (pg_sub (pv 0) pe_int set_list))
      (pss_cons (ps_set (i := 3) scDraw.nd rfl (Or.inl rfl) (pe_op op_add (pe_op op_pow (pe_op op_add (pe_ix ix_list (pv 0) pe_int (fun _ _ => rfl)) (pe_op op_mul pe_int (pe_ix ix_list (pv 0) pe_int (fun _ _ => rfl)))) pe_int) (pe_op op_mul pe_int (pe_ix ix_list (pv 0) pe_int (fun _ _ => rfl)))))
      (pss_cons (ps_set (i := 3) scDraw.nd rfl (Or.inl rfl) (pe_op op_modN (pe_callTy call_int1 (by rfl) gInt (by decide +kernel) (pa_cons (pv 3) pa_nil)) pe_int))
      (pss_cons (ps_set (i := 3) scDraw.nd rfl (Or.inl rfl) (pe_op op_modN (pe_callTy call_int1 (by rfl) gInt (by decide +kernel) (pa_cons (pe_op op_pow (pe_op op_add (pv 3) (pe_op op_mul pe_int (pe_ix ix_list (pv 0) pe_int (fun _ _ => rfl)))) pe_int) pa_nil)) pe_int))
      (pss_one (ps_ret (pe_op op_modN (pe_callTy call_int1 (by rfl) gInt (by decide +kernel) (pa_cons (pe_op op_fdivN (pv 3) pe_int) pa_nil)) (pv 1))))))))), ?_⟩
    refine ⟨_, rfl, _, _, _, _, rfl, rfl, SqL.of hb, rfl, _, _, rfl, rfl, _, rfl, ?_⟩
    refine ite2 (fun c0 => ?_) (fun c0 => ?_)
    · obtain ⟨f1, f2⟩ := fmod_in (x := d) hp
      refine ⟨_, rfl, _, _, _, _, rfl, rfl, SqL.of hb, rfl, .inl ⟨_, rfl, _, rfl, _, _, rfl, rfl, (by show many ≠ 0; omega), ?_⟩⟩
      refine ⟨_, rfl, _, _, _, _, rfl, rfl, SqL.of hb, rfl, _, rfl, _, _, rfl, rfl, wide_div hp hw (by decide) (by decide), _, rfl, b, _, 0, _, rfl, rfl, hb, rfl, _, rfl, ?_⟩
      refine k _ _ f1 f2 (fun x nx => upd_ne nx) ⟨d / many, m, c, upd_same, Int.ediv_nonneg hd (by omega), hm0, hm, hc0, by omega⟩
    · refine ⟨_, rfl, _, _, _, _, rfl, rfl, SqL.of hb, rfl, _, _, rfl, rfl, _, rfl, b, _, 2, _, rfl, rfl, hb, rfl, ?_⟩
      have hb2 : upd H b (.lst [.int d, .int m, .int (c + 1)]) b = some (.lst [.int d, .int m, .int (c + 1)]) := upd_same
      refine ⟨_, rfl, _, _, _, _, rfl, rfl, SqL.of hb2, rfl, _, rfl, _, _, _, _, rfl, rfl, SqL.of hb2, rfl, _, _, rfl, rfl, .inl ⟨by decide, by decide⟩, _, _, rfl, rfl, _, _, rfl, rfl, draw_pow hm0 hm hc0 (by omega), ?_⟩
      refine ⟨_, rfl, _, _, _, _, rfl, rfl, SqL.of hb2, rfl, _, _, rfl, rfl, .inl ⟨by decide, by decide⟩, _, _, rfl, rfl, ?_⟩
      refine ⟨_, rfl, .inl ⟨_, rfl, _, _, rfl, rfl, (by show (1152921504606846869 : Int) ≠ 0; decide), ?_⟩⟩
      refine ⟨_, rfl, _, rfl, _, _, _, _, rfl, rfl, SqL.of hb2, rfl, _, _, rfl, rfl, .inl ⟨by decide, by decide⟩, _, _, rfl, rfl, _, _, rfl, rfl, draw_pow3 (fmod_in (by decide)).1 (fmod_in (by decide)).2 hc0 (by omega), .inl ⟨_, rfl, _, _, rfl, rfl, (by show (2305843009213693951 : Int) ≠ 0; decide), ?_⟩⟩
      refine ⟨_, rfl, _, _, rfl, rfl, ⟨by decide, by decide⟩, .inl ⟨_, rfl, _, rfl, _, _, rfl, rfl, (by show many ≠ 0; omega), ?_⟩⟩
      exact k _ _ (fmod_in hp).1 (fmod_in hp).2 (fun x nx => upd_ne nx) ⟨d, m, c + 1, upd_same, hd, hm0, hm, by omega, by omega⟩
theorem scOf : FnScope ["bag", "some"] ["bag", "some"] (defScope sOf) := ⟨rfl, rfl, rfl, by decide +kernel, rfl, by decide +kernel, by decide +kernel⟩
theorem ok_of {f fD : Addr} {fd fdD : FuncData} (F : FnP K "_law_of" sOf f fd) (FD : FnP K "_law_draw" sDraw fD fdD) (gD : mg "_law_draw" = some (.ref fD)) (gLen : mg "len" = none) (gInt : mg "int" = none) : FnOk P w K mg base CX0 2 f fd ["bag", "some"] (spOf K) := by
  have GD : FnOk P w K mg base CX0 1 fD fdD ["bag", "many"] spDraw := ok_draw FD gInt
  have bD : Binds K fdD ["bag", "many"] [] := FD.bindsN fun _ _ _ _ _ _ us hl => match us, hl with | [_, _], _ => rfl
  refine F.ok scOf (fun vs H Q E h => ?_) (fun cdv A outer s H vs Q E hr h => ?_)
  · obtain ⟨b, l, n, xs, rfl, _⟩ := h
    rfl
  · obtain ⟨b, l, n, xs, rfl, hB, hn, nlb, hS, h0, h1, k⟩ := h
    refine ⟨_, PSs.nox (pss_one (ps_ret (pe_ix ix_list (pv 1) (pe_call GD hr rfl gD FD.kp bD .nil pass0 (pa_cons (pv 0) (pa_cons (pe_callB call_len_seq (by rfl) gLen PySem.boot_len (pa_cons (pv 1) pa_nil)) pa_nil))) (fun _ _ => rfl)))), ?_⟩
    refine ⟨_, rfl, _, rfl, _, rfl, _, _, rfl, .inl hS, b, n, _, rfl, hB, hn, by omega, ?_, fun r H' r0 r1 hk hB' => ?_⟩
    · have e : ((xs.length : Nat) : Int).natAbs = xs.length := by simp
      rw [e]
      exact Nat.lt_of_le_of_lt h1 (by decide)
    · obtain ⟨i, rfl⟩ : ∃ i : Nat, r = i := ⟨r.toNat, by omega⟩
      have hi : i < xs.length := by omega
      have hx : xs[i]? = some xs[i] := List.getElem?_eq_getElem hi
      exact ⟨_, _, _, _, rfl, rfl, hk.kept.seq nlb hS, atI_nat hx, k i _ H' hx hk hB'⟩
end
end K08

set_option Elab.async false
set_option maxRecDepth 100000
set_option maxHeartbeats 2000000
namespace K08
open PySem PySem.Spec PyProof.Rows L2 KX
abbrev sInt : Stmt := top 2
abbrev sName : Stmt := top 3
abbrev sOpp : Stmt := top 9999 /- opposite -/
abbrev sBound : Stmt := top 9999 /- is_bound -/
abbrev sRing : Stmt := top 9999 /- is_ring -/
section
variable {P : Program} {w : World} {K : PySem.W.Frag} {mg : Str → Option Value} {base : Heap}
theorem scInt : FnScope ["thing"] ["thing"] (defScope sInt) := ⟨rfl, rfl, rfl, by decide +kernel, rfl, by decide +kernel, by decide +kernel⟩
theorem ok_int {f : Addr} {fd : FuncData} (F : FnP K "is_integer" sInt f fd) (gI : mg "isinstance" = none) (gInt : mg "int" = none) (gB : mg "bool" = none) : FnOk P w K mg base CX0 1 f fd ["thing"] (spInt K) := by
  refine F.ok scInt (fun vs H Q E h => ?_) (fun cdv A outer s H vs Q E hr h => ?_)
  · obtain ⟨x, t, rfl, _⟩ := h
    rfl
  · obtain ⟨x, d, rfl, hk, k⟩ := h
    refine ⟨_, PSs.nox (pss_one (ps_ret (pe_and (pe_callB call_isi (by rfl) gI (by decide +kernel) (pa_cons (pv 0) (pa_cons (pe_bltn (v := .ty "int") (by rfl) gInt (by decide +kernel) rfl) pa_nil)))
      (pe_one (pe_not (pe_callB call_isi (by rfl) gI (by decide +kernel) (pa_cons (pv 0) (pa_cons (pe_bltn (v := .ty "bool") (by rfl) gB (by decide +kernel) rfl) pa_nil)))))))), ?_⟩
    refine ⟨_, rfl, _, _, _, _, _, rfl, .ty _, dp_ty hk, kit_int d, _, rfl, ite2' (fun c => ?_) (fun c => ?_)⟩
    · refine ⟨_, rfl, _, _, _, _, _, rfl, .ty _, dp_ty hk, kit_bool d, _, rfl, ?_⟩
      cases d <;> first | exact k | exact absurd c Bool.false_ne_true
    · have e : isIntD d = false := by cases d <;> first | rfl | exact absurd c.symm Bool.false_ne_true
      rw [← e]
      exact k
theorem scName : FnScope ["thing", "letter"] ["thing"] (defScope sName) := ⟨rfl, rfl, rfl, by decide +kernel, rfl, by decide +kernel, by decide +kernel⟩
theorem ok_name {f : Addr} {fd : FuncData} (F : FnP K "is_name" sName f fd) (gI : mg "isinstance" = none) (gS : mg "str" = none) (gL : mg "len" = none) (gA : mg "all" = none) : FnOk P w K mg base CX0 1 f fd ["thing"] (spName K) := by
  refine F.ok scName (fun vs H Q E h => ?_) (fun cdv A outer s H vs Q E hr h => ?_)
  · obtain ⟨x, t, rfl, _⟩ := h
    rfl
  · obtain ⟨x, d, rfl, hk, ho, k⟩ := h
    have nd := scName.nd
    refine ⟨_, PSs.nox (pss_cons (ps_if (PW.pt (pw_or (pt_not (pt_val (pe_callB call_isi (by rfl) gI (by decide +kernel) (pa_cons (pv 0) (pa_cons (pe_bltn (v := .ty "str") (by rfl) gS (by decide +kernel) rfl) pa_nil)))))
        (pw_or (pt_cmpR op_lt (pe_callB call_len_str (by rfl) gL PySem.boot_len (pa_cons (pv 0) pa_nil)) pe_int (nomark _)) (pw_or1 (pt_cmpR op_gt (pe_callB call_len_str (by rfl) gL PySem.boot_len (pa_cons (pv 0) pa_nil)) pe_int (nomark _)))))) (pss_one (ps_ret pe_bl)) pss_nil)
      (pss_one (ps_ret (pe_callB (cr_all rfl) (by rfl) gA (by decide +kernel) (pa_cons (pe_lc (own := [("letter", 1)]) (g := gName 1) (tt := tYes) rfl nd (pi_str (pv 0)) (blkOk_by (own := [("letter", 1)]) (N := ["thing", "letter"]) (sc := defScope sName) (by decide +kernel))
        (fun _ _ _ _ _ => pg_name (i := 1) nd rfl (Or.inl rfl)) (fun _ _ _ _ _ => pts_nil) (fun _ _ _ _ _ => pe_chain op_le_str op_le_str pe_str (pv 1) pe_str)) pa_nil))))), ?_⟩
    refine ⟨_, rfl, _, _, _, _, _, rfl, .ty _, dp_ty hk, kit_str d, _, rfl, ?_⟩
    by_cases hs : isStrD d = true
    · obtain ⟨z, rfl⟩ : ∃ z, d = .str z := by cases d <;> first | exact ⟨_, rfl⟩ | cases hs
      have hz := ho z rfl
      cases hk with
      | str =>
        have hzl : z.length ≤ sizeLine := by rw [sizeLine_eq]; omega
        refine ⟨_, rfl, _, rfl, hzl, _, _, rfl, rfl, _, rfl, ite2' (fun c1 => ?_) (fun c1 => ?_)⟩
        · have e := nm_short (z := z) (by have := of_decide_eq_true c1; omega)
          have q := k H (Same.refl H)
          rw [show nmD (.str z) = isNm z from rfl, e] at q
          exact q
        · have n1 : ¬ z.length < 1 := by have := of_decide_eq_false c1; omega
          refine ⟨_, rfl, _, rfl, hzl, _, _, rfl, rfl, _, rfl, ite2' (fun c2 => ?_) (fun c2 => ?_)⟩
          · have e := nm_long (z := z) (by have := of_decide_eq_true c2; omega)
            have q := k H (Same.refl H)
            rw [show nmD (.str z) = isNm z from rfl, e] at q
            exact q
          · have n2 : ¬ z.length > 8 := by have := of_decide_eq_false c2; omega
            refine ⟨_, rfl, z, rfl, fun D nD => ?_⟩
            refine lc_it (walk_str (z := z)) (fun i G => G D = some (.lst (((z.cps.toList.take i).map isLet).map V.bl)) ∧ Same H G) ⟨upd_same, same_put nD⟩ (fun _ _ _ _ => trivial) ?_ ?_
            · rintro i x G' G hi ⟨hD, s1⟩ ⟨rfl, c, hc, rfl⟩
              refine ⟨rfl, ?_⟩
              dsimp only [tYes]
              rw [if_pos rfl]
              have hcl : z.cps.toList[i]? = some c := by rw [Array.getElem?_toList]; exact hc
              have fin : ∃ acc, G D = some (.lst acc) ∧ acc.length < sizeLine ∧ ((upd G D (.lst (acc ++ [V.bl (isLet c)]))) D = some (.lst (((z.cps.toList.take (i + 1)).map isLet).map V.bl)) ∧ Same H (upd G D (.lst (acc ++ [V.bl (isLet c)])))) := by
                refine ⟨_, hD, ?_, ?_, fun y o e => ?_⟩
                · rw [List.length_map, List.length_map, List.length_take, sizeLine_eq]
                  have e1 : z.cps.toList.length ≤ 1000 := by rw [Array.length_toList]; exact hz
                  exact Nat.lt_of_le_of_lt (Nat.min_le_right _ _) (by omega)
                · rw [upd_same, take_at hcl, List.map_append, List.map_append]
                  rfl
                · rw [upd_ne (ne_of_none e nD)]
                  exact s1 _ _ e
              refine ⟨_, rfl, _, _, rfl, rfl, _, rfl, ?_⟩
              rw [lo_let]
              refine ite2' (fun c3 => ?_) (fun c3 => ?_)
              · refine ⟨_, _, rfl, rfl, ?_⟩
                rw [hi_let]
                have e : decide (c ≤ 122) = isLet c := by
                  unfold isLet
                  rw [c3]
                  rfl
                rw [e]
                exact fin
              · have e : isLet c = false := by
                  unfold isLet
                  rw [c3]
                  rfl
                rw [e] at fin
                exact fin
            · rintro G ⟨hD, s1⟩
              have hsz : z.cps.toList.take z.cps.size = z.cps.toList := by rw [← Array.length_toList, List.take_length]
              rw [hsz] at hD
              refine ⟨D, z.cps.toList.map isLet, rfl, SqL.of hD, ?_⟩
              have q := k G s1
              rw [show nmD (.str z) = isNm z from rfl, nm_mid n1 n2] at q
              have e : (z.cps.toList.map isLet).all id = z.cps.toList.all isLet := by rw [List.all_map]; rfl
              rw [e]
              exact q
    · have e : isStrD d = false := Bool.eq_false_iff.mpr hs
      rw [e]
      have q := k H (Same.refl H)
      rw [nm_off e] at q
      exact q
end
end K08

set_option Elab.async false
set_option maxRecDepth 100000
set_option maxHeartbeats 2000000
/-! Drawn names: what is promised of them, and their texts. -/
namespace KX
open PySem PySem.Spec PyProof.Rows L2
abbrev tlc (z : Str) : List Nat := z.cps.toList
theorem tlc_len (z : Str) : (tlc z).length = z.length := Array.length_toList
theorem tlc_app (x y : Str) : tlc (x ++ y) = tlc x ++ tlc y := Array.toList_append
theorem nm_inv {z : Str} (h : isNm z = true) : 1 ≤ z.length ∧ z.length ≤ 8 ∧ ∀ c ∈ tlc z, isLet c = true := by
  unfold isNm at h
  obtain ⟨h, h3⟩ := Bool.and_eq_true_iff.mp h
  obtain ⟨h1, h2⟩ := Bool.and_eq_true_iff.mp h
  exact ⟨of_decide_eq_true h1, of_decide_eq_true h2, List.all_eq_true.mp h3⟩
theorem nm_of {z : Str} (h1 : 1 ≤ z.length) (h2 : z.length ≤ 8) (h3 : ∀ c ∈ tlc z, isLet c = true) : isNm z = true := by
  unfold isNm
  rw [decide_eq_true h1, decide_eq_true h2, List.all_eq_true.mpr h3]
  rfl
theorem join0 : ∀ zs : List Nat, tlc (Str.join ⟨#[]⟩ (zs.map fun c => (⟨#[c]⟩ : Str))) = zs
  | [] => rfl
  | [c] => rfl
  | c :: d :: r => by
    have ih := join0 (d :: r)
    show tlc ((⟨#[c]⟩ : Str) ++ ⟨#[]⟩ ++ Str.join ⟨#[]⟩ ((d :: r).map fun c => (⟨#[c]⟩ : Str))) = _
    rw [tlc_app, tlc_app, ih]
    rfl
theorem letters_at : ∀ {j : Nat}, j < 26 → (("abcdefghijklmnopqrstuvwxyz" : Str)).cps.toList[j]? = some (97 + j) := by
  intro j h
  rw [letters_eq]
  have z : ∀ k : Fin 26, ([97, 98, 99, 100, 101, 102, 103, 104, 105, 106, 107, 108, 109, 110, 111, 112, 113, 114, 115, 116, 117, 118, 119, 120, 121, 122] : List Nat)[k.val]? = some (97 + k.val) := by decide
  exact z ⟨j, h⟩
theorem let_at {j : Nat} (h : j < 26) : isLet (97 + j) = true := by
  unfold isLet
  rw [decide_eq_true (by omega), decide_eq_true (by omega)]
  rfl
theorem inV_str (z : Str) (zs : List Str) : inV (.str z) (zs.map V.str) = decide (z ∈ zs) := by
  unfold inV
  rw [List.any_map]
  by_cases h : z ∈ zs
  · rw [decide_eq_true h]
    exact List.any_eq_true.mpr ⟨z, h, by show (z == z) = true; exact beq_self_eq_true z⟩
  · rw [decide_eq_false h]
    refine List.any_eq_false.mpr fun y hy => ?_
    show ¬ (y == z) = true
    rw [beq_iff_eq]
    rintro rfl
    exact h hy
theorem flat_strs (zs : List Str) : (zs.map V.str).all flatV = true := by
  rw [List.all_map]
  exact List.all_eq_true.mpr fun _ _ => rfl
theorem cutS_to {z : Str} {i : Nat} (h : i ≤ z.length) : tlc (cutS z none (some (i : Int))) = (tlc z).take i := by
  unfold cutS tlc
  rw [HT.sIx_none, HT.sIx_nat, List.drop_zero, Nat.min_eq_left h, Nat.sub_zero]
theorem cutS_from {z : Str} {i : Nat} (h : i ≤ z.length) : tlc (cutS z (some (i : Int)) none) = (tlc z).drop i := by
  unfold cutS tlc
  rw [HT.sIx_none, HT.sIx_nat, Nat.min_eq_left h]
  refine List.take_of_length_le ?_
  rw [List.length_drop, Array.length_toList]
  exact Nat.le_refl _
theorem nm_splice {one : Str} {at_ c : Nat} (h : isNm one = true) (ha : at_ < one.length) (hc : isLet c = true) : isNm (cutS one none (some (at_ : Int)) ++ ⟨#[c]⟩ ++ cutS one (some ((at_ : Int) + 1)) none) = true := by
  obtain ⟨h1, h2, h3⟩ := nm_inv h
  have e : tlc (cutS one none (some (at_ : Int)) ++ ⟨#[c]⟩ ++ cutS one (some ((at_ : Int) + 1)) none) = (tlc one).take at_ ++ [c] ++ (tlc one).drop (at_ + 1) := by
    rw [tlc_app, tlc_app, cutS_to (by omega)]
    congr 1
    exact cutS_from (i := at_ + 1) (by omega)
  have hl : (cutS one none (some (at_ : Int)) ++ ⟨#[c]⟩ ++ cutS one (some ((at_ : Int) + 1)) none).length = one.length := by
    rw [← tlc_len, e, List.length_append, List.length_append, List.length_take, List.length_drop, tlc_len]
    show min at_ one.length + 1 + (one.length - (at_ + 1)) = one.length
    omega
  refine nm_of (by omega) (by omega) fun d hd => ?_
  rw [e] at hd
  rcases List.mem_append.mp hd with hd | hd
  · rcases List.mem_append.mp hd with hd | hd
    · exact h3 d (List.mem_of_mem_take hd)
    · rw [List.mem_singleton.mp hd]
      exact hc
  · exact h3 d (List.mem_of_mem_drop hd)
theorem cutS_len (z : Str) (lo hi : Option Int) : (cutS z lo hi).length ≤ z.length := by
  rw [← tlc_len, ← tlc_len]
  unfold cutS tlc
  show (List.take _ (List.drop _ z.cps.toList)).length ≤ _
  rw [List.length_take, List.length_drop]
  omega
/-- _law_name -/
def spLName : Sp := fun vs H Q _ => ∃ (b : Addr) (n : Int), vs = [.ref b] ∧ Bag H b n ∧ n < 900000 ∧ ∀ z G, isNm z = true → Kept b H G → Bag G b (n + 9) → Q (.str z) G
/-- a new list of unlike names -/
def Names (b F : Addr) (H G : Hp) (zs : List Str) (m : Int) : Prop :=
  H F = none ∧ F ≠ b ∧ Kept b H G ∧ Bag G b m ∧ G F = some (.lst (zs.map V.str)) ∧ zs.Nodup ∧ ∀ z ∈ zs, isNm z = true
/-- _law_names -/
def spLNames : Sp := fun vs H Q _ => ∃ (b : Addr) (n : Int) (many : Nat), vs = [.ref b, .int (many : Int)] ∧ Bag H b n ∧ n < 800000 ∧ 1 ≤ many ∧ many ≤ 100 ∧ ∀ F zs G, Names b F H G zs (n + 20 * many) → 1 ≤ zs.length → zs.length ≤ many → Q (.ref F) G
/-- _law_numbers -/
def spLNums : Sp := fun vs H Q _ => ∃ (b : Addr) (n : Int) (many : Nat), vs = [.ref b, .int (many : Int)] ∧ Bag H b n ∧ n < 800000 ∧ 1 ≤ many ∧ many ≤ 100 ∧ ∀ F zs G, Names b F H G zs (n + 20 * many) → 1 ≤ zs.length → zs.length ≤ many + 1 → Q (.ref F) G
theorem seq_by {A B : TS} {D : Ends} {σ : L2.St} {H : Hp} (R : L2.St → Hp → Prop) (h2 : ∀ σ H, R σ H → B D σ H) (h1 : (∀ σ H, R σ H → B D σ H) → A { D with nx := fun σ H => B D σ H } σ H) : tSeq A B D σ H := h1 h2
theorem Bag.but {H G : Hp} {b : Addr} {m : Int} (k : But b H G) {x : Addr} (n : x ≠ b) : G x = H x := k x n
/-- within _law_names: the names found so far at F -/
structure LN (b F : Addr) (H G : Hp) (zs : List Str) (m : Int) : Prop where
  bag : Bag G b m
  fnd : G F = some (.lst (zs.map V.str))
  kept : Kept b H G
  ne : F ≠ b
  nd : zs.Nodup
  nm : ∀ z ∈ zs, isNm z = true
theorem LN.to {b F : Addr} {H G G' : Hp} {zs : List Str} {m m' : Int} (h : LN b F H G zs m) (k : Kept b G G') (hB : Bag G' b m') : LN b F H G' zs m' :=
  ⟨hB, k F _ h.ne h.fnd, h.kept.trans k, h.ne, h.nd, h.nm⟩
theorem LN.le {b F : Addr} {H G : Hp} {zs : List Str} {m m' : Int} (h : LN b F H G zs m) (q : m ≤ m') : LN b F H G zs m' := ⟨h.bag.mono q, h.fnd, h.kept, h.ne, h.nd, h.nm⟩
theorem LN.add {b F : Addr} {H G : Hp} {zs : List Str} {m : Int} {z : Str} (h : LN b F H G zs m) (hF : H F = none) (hz : isNm z = true) (n : z ∉ zs) : LN b F H (upd G F (.lst (zs.map V.str ++ [.str z]))) (zs ++ [z]) m := by
  refine ⟨h.bag.put h.ne, ?_, fun x o nx e => (upd_ne (ne_of_none e hF)).trans (h.kept x o nx e), h.ne, ?_, fun y hy => ?_⟩
  · rw [upd_same, List.map_append]
    rfl
  · refine List.nodup_append.mpr ⟨h.nd, by simp, fun x hx y hy => ?_⟩
    rw [List.mem_singleton.mp hy]
    rintro rfl
    exact n hx
  · rcases List.mem_append.mp hy with hy | hy
    · exact h.nm y hy
    · rw [List.mem_singleton.mp hy]
      exact hz
theorem atI_zero {α : Type} {xs : List α} (h : 0 < xs.length) : ∃ x, atI xs 0 = some x ∧ x ∈ xs := by
  match xs, h with
  | x :: r, _ => exact ⟨x, by unfold atI ixN; rw [if_pos (by decide), if_pos (by rw [List.length_cons]; omega)]; rfl, List.mem_cons_self⟩
theorem nm_line {z : Str} (h : isNm z = true) : z.length ≤ sizeLine := by
  have := (nm_inv h).2.1
  rw [sizeLine_eq]
  omega
theorem flt_take {α : Type} {xs : List α} {i : Nat} {x : α} {p : α → Bool} (h : xs[i]? = some x) : (xs.take (i + 1)).filter p = (xs.take i).filter p ++ (if p x = true then [x] else []) := by
  rw [take_at h, List.filter_append]
  congr 1
  by_cases e : p x = true
  · rw [if_pos e]
    exact List.filter_cons_of_pos e
  · rw [if_neg e]
    exact List.filter_cons_of_neg e
theorem ne_dec (u v : Str) : (!decide (V.str u = V.str v)) = decide (u ≠ v) := by
  rw [str_dec]
  by_cases h : u = v
  · rw [decide_eq_true h, decide_eq_false (fun q => q h)]
    rfl
  · rw [decide_eq_false h, decide_eq_true h]
    rfl
theorem atI_end {α : Type} {xs : List α} (h : 0 < xs.length) : ∃ x, atI xs (-1) = some x ∧ x ∈ xs := by
  have e : ixN xs.length (-1) = some (xs.length - 1) := by
    unfold ixN
    rw [if_neg (by decide), if_pos (by omega)]
    congr 1
    omega
  have hl : xs.length - 1 < xs.length := by omega
  refine ⟨xs[xs.length - 1], ?_, List.getElem_mem hl⟩
  unfold atI
  rw [e]
  exact List.getElem?_eq_getElem hl
theorem atI_map {α β : Type} {f : α → β} {xs : List α} {i : Int} {x : α} (h : atI xs i = some x) : atI (xs.map f) i = some (f x) := by
  rw [atI_len, h]
  rfl
theorem two_unlike {α : Type} : ∀ {xs : List α}, xs.Nodup → 2 ≤ xs.length → ∀ z, ∃ y ∈ xs, y ≠ z
  | x :: y :: r, h, _, z => by
    by_cases e : x = z
    · refine ⟨y, by simp, fun q => ?_⟩
      have := (List.nodup_cons.mp h).1
      rw [e, ← q] at this
      exact this (by simp)
    · exact ⟨x, by simp, e⟩
  | [_], _, h, _ => by simp at h
  | [], _, h, _ => by simp at h
theorem sum_le {m : Nat} : ∀ {ns : List Int}, (∀ x ∈ ns, x.natAbs ≤ m) → ns.sum.natAbs ≤ ns.length * m
  | [], _ => by simp
  | x :: r, h => by
    have h1 := h x List.mem_cons_self
    have h2 := sum_le (ns := r) fun y hy => h y (List.mem_cons_of_mem _ hy)
    rw [List.sum_cons, List.length_cons, Nat.succ_mul]
    omega
/-- a list that grows, made within -/
structure RD (b F : Addr) (H G : Hp) (rs : List Str) (m : Int) : Prop where
  bag : Bag G b m
  fnd : G F = some (.lst (rs.map V.str))
  kept : Kept b H G
  ne : F ≠ b
theorem RD.to {b F : Addr} {H G G' : Hp} {rs : List Str} {m m' : Int} (h : RD b F H G rs m) (k : Kept b G G') (hB : Bag G' b m') : RD b F H G' rs m' := ⟨hB, k F _ h.ne h.fnd, h.kept.trans k, h.ne⟩
theorem RD.le {b F : Addr} {H G : Hp} {rs : List Str} {m m' : Int} (h : RD b F H G rs m) (q : m ≤ m') : RD b F H G rs m' := ⟨h.bag.mono q, h.fnd, h.kept, h.ne⟩
theorem RD.set {b F : Addr} {H G : Hp} {rs qs : List Str} {m : Int} (h : RD b F H G rs m) (hF : H F = none) : RD b F H (upd G F (.lst (qs.map V.str))) qs m :=
  ⟨h.bag.put h.ne, upd_same, fun x o nx e => (upd_ne (ne_of_none e hF)).trans (h.kept x o nx e), h.ne⟩
end KX

set_option Elab.async false
set_option maxRecDepth 100000
set_option maxHeartbeats 1000000
namespace K08
open PySem PySem.Spec PyProof.Rows L2 KX
abbrev sLNm : Stmt := top 19
abbrev sLNms : Stmt := top 20
abbrev sLNum : Stmt := top 9999 /- _law_numbers -/
section
variable {P : Program} {w : World} {K : PySem.W.Frag} {mg : Str → Option Value} {base : Heap}
theorem scLNm : FnScope ["bag", "letters", "turn"] ["bag"] (defScope sLNm) := ⟨rfl, rfl, rfl, by decide +kernel, rfl, by decide +kernel, by decide +kernel⟩
theorem ok_lnm {f fD : Addr} {fd fdD : FuncData} (F : FnP K "_law_name" sLNm f fd) (GD : FnOk P w K mg base CX0 1 fD fdD ["bag", "many"] spDraw) (bD : Binds K fdD ["bag", "many"] []) (kD : PySem.W.keepIn K (.ref fD) = true) (gD : mg "_law_draw" = some (.ref fD))
    (n_range : mg "range" = none) : FnOk P w K mg base CX0 2 f fd ["bag"] spLName := by
  refine F.ok scLNm (fun vs H Q E h => ?_) (fun cdv A outer s H vs Q E hr h => ?_)
  · obtain ⟨b, n, rfl, _⟩ := h
    rfl
  · obtain ⟨b, n, rfl, hB, hn, k⟩ := h
    have nd := scLNm.nd
    refine ⟨_, PSs.nox (pss_cons (ps_set (i := 1) nd rfl (Or.inr rfl) pe_str)
(pss_one (ps_ret (pe_join pe_str (pe_lc (own := [("turn", 2)]) (g := (gName 2)) (tt := tYes) rfl nd (pi_range1 (by rfl) n_range (pa_cons (pe_op op_add pe_int (pe_call GD hr rfl gD kD bD .nil pass0 (pa_cons (pv 0) (pa_cons pe_int pa_nil)))) pa_nil)) (blkOk_by (own := [("turn", 2)]) (N := ["bag", "letters", "turn"]) (sc := defScope sLNm) (by decide +kernel)) (fun _ _ _ _ _ => (pg_name (i := 2) nd rfl (Or.inl rfl))) (fun _ _ _ _ _ => pts_nil) (fun _ _ _ _ _ => (pe_ix ix_str (pv 1) (pe_call GD hr rfl gD kD bD .nil pass0 (pa_cons (pv 0) (pa_cons pe_int pa_nil))) (fun _ _ => rfl)))))))), ?_⟩
    refine ⟨⟨_, rfl⟩, _, rfl, b, n, 8, rfl, hB, by omega, by decide, by decide, fun r G1 r0 r1 k1 hB1 => ⟨_, _, rfl, rfl, _, rfl, by omega, by omega, fun D nD => ?_⟩⟩
    obtain ⟨nn, hnn⟩ : ∃ nn : Nat, (1 + r).toNat = nn ∧ 1 ≤ nn ∧ nn ≤ 8 := ⟨_, rfl, by omega, by omega⟩
    rw [hnn.1]
    have hDb := hB1.ne nD
    have hDH : ∀ y o, H y = some o → y ≠ D := fun y o e => by
      rintro rfl
      have q := (k1 y hDb).trans e
      rw [nD] at q
      cases q
    refine lc_it (walk_rng (n := nn)) (fun i G => ∃ zs : List Nat, G D = some (.lst ((zs.map fun c => (⟨#[c]⟩ : Str)).map V.str)) ∧ zs.length = i ∧ (∀ c ∈ zs, isLet c = true) ∧ Bag G b (n + 1 + i) ∧ Kept b H G)
      ⟨[], upd_same, rfl, fun _ z => (nomatch z), (hB1.put hDb).mono (by omega), fun y o e q => (upd_ne (hDH y o q)).trans ((k1 y e).trans q)⟩ (fun _ _ _ _ => trivial) ?_ ?_
    · rintro i x G' G hi ⟨zs, hD, hl, hz, hBG, kG⟩ ⟨rfl, rfl⟩
      refine ⟨rfl, ?_⟩
      dsimp only [tYes]
      rw [if_pos rfl]
      refine ⟨_, rfl, _, rfl, b, _, 26, rfl, hBG, by omega, by decide, by decide, fun q G2 q0 q1 k2 hB2 => ?_⟩
      obtain ⟨j, rfl⟩ : ∃ j : Nat, q = j := ⟨q.toNat, by omega⟩
      have hj : j < 26 := by omega
      refine ⟨_, _, _, rfl, rfl, (by decide +kernel), atI_nat (letters_at hj), _, (k2 D hDb).trans hD, ?_, zs ++ [97 + j], ?_, ?_, ?_, ?_, fun y o e z => ?_⟩
      · rw [List.length_map, List.length_map, sizeLine_eq]
        omega
      · rw [upd_same, List.map_append, List.map_append]
        rfl
      · rw [List.length_append, hl]
        rfl
      · intro c hc
        rcases List.mem_append.mp hc with hc | hc
        · exact hz c hc
        · rw [List.mem_singleton.mp hc]
          exact let_at hj
      · exact (hB2.put hDb).mono (by omega)
      · rw [upd_ne (hDH y o z)]
        exact (k2 y e).trans (kG y o e z)
    · rintro G ⟨zs, hD, hl, hz, hBG, kG⟩
      refine ⟨_, D, zs.map fun c => (⟨#[c]⟩ : Str), rfl, rfl, .inl (SqL.of hD), ?_, ?_⟩
      · have e1 : ((zs.map fun c => (⟨#[c]⟩ : Str)).map (·.length)) = zs.map fun _ => 1 := by rw [List.map_map]; rfl
        have e2 : (("" : String) : Str).length = 0 := by decide +kernel
        rw [e1, e2, List.map_const', List.sum_replicate_nat]
        omega
      · have e0 : (("" : String) : Str) = ⟨#[]⟩ := by decide +kernel
        rw [TL.join_eq, e0]
        have e := join0 zs
        have hL : (Str.join ⟨#[]⟩ (zs.map fun c => (⟨#[c]⟩ : Str))).length = nn := by rw [← tlc_len, e, hl]
        exact k _ G (nm_of (by omega) (by omega) (fun c hc => hz c (by rw [← e]; exact hc))) kG (hBG.mono (by omega))
theorem scLNms : FnScope ["bag", "many", "found", "turn", "name", "one", "at"] ["bag", "many"] (defScope sLNms) := ⟨rfl, rfl, rfl, by decide +kernel, rfl, by decide +kernel, by decide +kernel⟩
theorem ok_lnms {f fD fO fN : Addr} {fd fdD fdO fdN : FuncData} (F : FnP K "_law_names" sLNms f fd) (GD : FnOk P w K mg base CX0 1 fD fdD ["bag", "many"] spDraw) (bD : Binds K fdD ["bag", "many"] []) (kD : PySem.W.keepIn K (.ref fD) = true) (gD : mg "_law_draw" = some (.ref fD))
    (GO : FnOk P w K mg base CX0 2 fO fdO ["bag", "some"] (spOf K)) (bO : Binds K fdO ["bag", "some"] []) (kO : PySem.W.keepIn K (.ref fO) = true) (gO : mg "_law_of" = some (.ref fO))
    (GN : FnOk P w K mg base CX0 2 fN fdN ["bag"] spLName) (bN : Binds K fdN ["bag"] []) (kN : PySem.W.keepIn K (.ref fN) = true) (gN : mg "_law_name" = some (.ref fN))
    (n_range : mg "range" = none) (n_len : mg "len" = none) : FnOk P w K mg base CX0 3 f fd ["bag", "many"] spLNames := by
  refine F.ok scLNms (fun vs H Q E h => ?_) (fun cdv A outer s H vs Q E hr2 h => ?_)
  · obtain ⟨b, n, m, rfl, _⟩ := h
    rfl
  · obtain ⟨b, n, many, rfl, hB, hn, h1, h100, k⟩ := h
    have nd := scLNms.nd
    have hr1 := hr2.mono (j := 1) (by decide)
    refine ⟨_, PSs.nox (pss_cons (ps_set (i := 2) nd rfl (Or.inl rfl) (pe_lst (pa_cons (pe_call GN hr2 rfl gN kN bN .nil pass0 (pa_cons (pv 0) pa_nil)) pa_nil)))
(pss_cons (ps_for PassesOwn.never rfl (pi_range1 (by rfl) n_range (pa_cons (pe_op op_sub (pv 1) pe_int) pa_nil)) (pg_name (i := 3) nd rfl (Or.inl rfl))
(pss_cons (ps_set (i := 4) nd rfl (Or.inl rfl) (pe_call GN hr2 rfl gN kN bN .nil pass0 (pa_cons (pv 0) pa_nil)))
(pss_cons (ps_if (pt_cmpR op_eq (pe_call GD hr1 rfl gD kD bD .nil pass0 (pa_cons (pv 0) (pa_cons pe_int pa_nil))) pe_int (nomark _))
(pss_cons (ps_set (i := 5) nd rfl (Or.inl rfl) (pe_call GO hr2 rfl gO kO bO .nil pass0 (pa_cons (pv 0) (pa_cons (pv 2) pa_nil))))
(pss_cons (ps_set (i := 6) nd rfl (Or.inl rfl) (pe_call GD hr1 rfl gD kD bD .nil pass0 (pa_cons (pv 0) (pa_cons (pe_callB call_len_str (by rfl) n_len PySem.boot_len (pa_cons (pv 5) pa_nil)) pa_nil))))
(pss_one (ps_set (i := 4) nd rfl (Or.inl rfl) (pe_op op_add_str (pe_op op_add_str (pe_slice sl_str (pv 5) po_none (po_some (pv 6))) (pe_ix ix_str (pv 4) pe_int (fun _ _ => rfl))) (pe_slice sl_str (pv 5) (po_some (pe_op op_add (pv 6) pe_int)) po_none))))))
pss_nil)
(pss_one (ps_if (pt_cmpR op_notIn_seq (pv 4) (pv 2) rfl)
(pss_one (ps_expr (pe_bm PySem.F.plainAttrs_list PySem.F.slot_list_append PySem.F.type_list_append mt_append (pv 2) (pa_cons (pv 4) pa_nil))))
pss_nil)))))
(pss_one (ps_ret (pv 2))))), ?_⟩
    refine ⟨_, rfl, b, n, rfl, hB, by omega, fun z0 G1 hz0 k1 hB1 => ⟨(by show 1 ≤ sizeLine; decide), fun F0 nF => ?_⟩⟩
    have hFb := hB1.ne nF
    have hFH : H F0 = none := by
      cases e : H F0 with
      | none => rfl
      | some o => exact absurd (k1 F0 o hFb e) (by rw [nF]; exact nofun)
    have lp0 : LN b F0 H (upd G1 F0 (.lst [.str z0])) [z0] (n + 9) := ⟨hB1.put hFb, upd_same, fun x o nx e => (upd_ne (ne_of_none e hFH)).trans (k1 x o nx e), hFb, by simp, fun z hz => by rw [List.mem_singleton.mp hz]; exact hz0⟩
    generalize upd G1 F0 (.lst [.str z0]) = G2 at lp0
    refine ⟨_, rfl, _, _, rfl, rfl, _, rfl, by omega, by omega, ?_⟩
    have e1 : ((many : Int) - 1).toNat = many - 1 := by omega
    rw [e1]
    refine for_it (walk_rng (n := many - 1)) (fun i σ G => ∃ zs y3 y4 y5 y6, σ = [some (.ref b), some (.int (many : Int)), some (.ref F0), y3, y4, y5, y6] ∧ LN b F0 H G zs (n + 9 + 12 * i) ∧ 1 ≤ zs.length ∧ zs.length ≤ i + 1)
      ⟨[z0], _, _, _, _, rfl, lp0.le (by omega), by simp, by simp⟩ (fun _ _ _ _ _ => trivial) ?_ ?_
    · rintro i x σ G' G hi ⟨zs, y3, y4, y5, y6, rfl, lp, hl1, hl2⟩ ⟨rfl, rfl⟩
      refine ⟨_, rfl, b, _, rfl, lp.bag, by omega, fun z G3 hz k3 hB3 => ?_⟩
      have lp3 := lp.to k3 hB3
      dsimp only [gName, List.set]
      refine seq_by (fun σ G => ∃ z y5 y6, σ = [some (.ref b), some (.int (many : Int)), some (.ref F0), some (.int (i : Int)), some (.str z), y5, y6] ∧ isNm z = true ∧ LN b F0 H G zs (n + 9 + 12 * (i + 1 : Nat))) ?_ (fun nxt => ?_)
      · rintro σ G ⟨z, y5, y6, rfl, hz, lp⟩
        refine ⟨_, rfl, _, rfl, F0, _, rfl, .inl (SqL.of lp.fnd), rfl, flat_strs zs, _, rfl, ite2' (fun c => ?_) (fun c => ?_)⟩
        · have c' : (!inV (.str z) (zs.map V.str)) = true := c
          rw [inV_str] at c'
          have hnot : z ∉ zs := fun q => by
            rw [decide_eq_true q] at c'
            cases c'
          refine ⟨_, rfl, .inl ⟨rfl, _, SqL.of lp.fnd⟩, _, rfl, F0, _, _, rfl, rfl, lp.fnd, (by rw [List.length_map, sizeLine_eq]; omega), ?_⟩
          exact ⟨zs ++ [z], _, _, _, _, rfl, lp.add hFH hz hnot, by rw [List.length_append]; omega, by rw [List.length_append]; show zs.length + 1 ≤ _; omega⟩
        · exact ⟨zs, _, _, _, _, rfl, lp, hl1, by omega⟩
      · refine ⟨_, rfl, b, _, 2, rfl, lp3.bag, by omega, by decide, by decide, fun r G4 r0 r1 k4 hB4 => ⟨rfl, _, rfl, ite2' (fun c => ?_) (fun c => ?_)⟩⟩
        · have lp4 := lp3.to k4.kept hB4
          refine ⟨_, rfl, _, rfl, b, F0, _, _, rfl, lp4.bag, by omega, hFb, SqL.of lp4.fnd, by rw [List.length_map]; omega, by rw [List.length_map]; omega, fun j v G5 hv k5 hB5 => ?_⟩
          obtain ⟨one, ho, rfl⟩ := Option.map_eq_some_iff.mp ((List.getElem?_map ..).symm.trans hv)
          have hno := lp4.nm one (List.mem_of_getElem? ho)
          have hlo := nm_line hno
          obtain ⟨o1, o8, _⟩ := nm_inv hno
          have lp5 := lp4.to k5.kept hB5
          refine ⟨_, rfl, _, rfl, _, rfl, hlo, b, _, _, rfl, lp5.bag, by omega, by omega, by omega, fun a G6 a0 a1 k6 hB6 => ?_⟩
          have lp6 := lp5.to k6.kept hB6
          obtain ⟨at_, rfl⟩ : ∃ j : Nat, a = j := ⟨a.toNat, by omega⟩
          have hat : at_ < one.length := by omega
          obtain ⟨c0, hc0, hm⟩ := atI_zero (xs := tlc z) (by rw [tlc_len]; have := (nm_inv hz).1; omega)
          have hlet := (nm_inv hz).2.2 c0 hm
          have l1 := cutS_len one none (some (at_ : Int))
          have l2 := cutS_len one (some ((at_ : Int) + 1)) none
          have l3 : (⟨#[c0]⟩ : Str).length = 1 := rfl
          refine ⟨_, rfl, _, rfl, _, rfl, _, rfl, hlo, _, rfl, _, _, c0, rfl, rfl, nm_line hz, hc0, _, _, rfl, rfl, (by rw [sizeLine_eq]; omega), _, rfl, _, rfl, _, _, rfl, rfl, _, rfl, _, rfl, hlo, _, _, rfl, rfl, (by rw [Str.length_append, sizeLine_eq]; omega), ?_⟩
          exact nxt _ _ ⟨_, _, _, rfl, nm_splice hno hat hlet, lp6.le (by omega)⟩
        · exact nxt _ _ ⟨z, _, _, rfl, hz, (lp3.to k4.kept hB4).le (by omega)⟩
    · rintro σ G ⟨zs, y3, y4, y5, y6, rfl, lp, hl1, hl2⟩
      exact ⟨_, rfl, k F0 zs G ⟨hFH, hFb, lp.kept, lp.bag.mono (by omega), lp.fnd, lp.nd, lp.nm⟩ hl1 (by omega)⟩
end
end K08

set_option Elab.async false
set_option maxRecDepth 100000
set_option maxHeartbeats 2000000
/-! sorted(xs) and min(xs) of a list of alike data (numbers, texts, tuples of these). -/
namespace KX
open PySem PySem.Spec PySem.W PyProof.Rows L2
theorem dp_all {K : PySem.W.Frag} {H : Hp} {d : V → PyData} : ∀ {xs : List V}, (∀ x ∈ xs, Dp K H x (d x)) → DpAll K H xs (xs.map d)
  | [], _ => .nil
  | x :: xs, h => .cons (h x List.mem_cons_self) (dp_all fun y hy => h y (List.mem_cons_of_mem _ hy))
theorem each_rel : ∀ {xs : List V} {us : List Value}, Vals xs us → EachIs (fun u x => RelV x u) us xs
  | _, _, .nil => .nil
  | _, _, .cons h t => .cons h (each_rel t)
theorem rel_each : ∀ {xs : List V} {us : List Value}, EachIs (fun u x => RelV x u) us xs → Vals xs us
  | _, _, .nil => .nil
  | _, _, .cons h t => .cons h (rel_each t)
/-- what sorted makes of xs, by their data -/
abbrev srtD (d : V → PyData) (xs : List V) : List V := xs.mergeSort (dataLe false d)
def rSortDp (K : PySem.W.Frag) : List V → Hp → VK → Prop := fun vs H Q => ∃ (a : Addr) (xs : List V) (d : V → PyData), vs = [V.ref a] ∧ SqL K H a xs ∧ (∀ x ∈ xs, Dp K H x (d x)) ∧ AllAlike (xs.map d) ∧ Sortable (xs.map d) ∧ (∀ x ∈ xs, (d x).depth ≤ 60) ∧
  ∀ p, H p = none → Q (.ref p) (upd H p (.lst (srtD d xs)))
def rMinDp (K : PySem.W.Frag) : List V → Hp → VK → Prop := fun vs H Q => ∃ (a : Addr) (x : V) (xs : List V) (d : V → PyData), vs = [V.ref a] ∧ SqL K H a (x :: xs) ∧ (∀ y ∈ x :: xs, Dp K H y (d y)) ∧ AlikeAll ((x :: xs).map d) ∧ PyData.depthAll ((x :: xs).map d) ≤ 60 ∧
  ∀ y ∈ x :: xs, d y = minD (d x) (xs.map d) → Q y H
section
variable {X : Cx}
theorem cr_sortedDp (hu : X.A.units + 64 < cLine) : CallR X (.builtin "sorted") (rSortDp X.K) := by
  intro pins s σ H vs us Q I r h
  obtain ⟨a, xs, d, rfl, hs, hd, hal, hk, hdp, q⟩ := h
  obtain ⟨its, rv, hl, hlen⟩ := I.list hs
  rw [Vals.ref1 r]
  obtain ⟨as, ra⟩ := Dp.readsAll I (xs.map d) xs its (dp_all hd) rv
  refine sorted_data (bs := xs) (enc := d) (R := fun u x => RelV x u) hl.isList (each_rel rv) (readsAll_each d ra) hal hk ?_ (fun b hb => by have := hdp b hb; omega) fun out h1 h2 => ?_
  · first | exact hlen | (have := rv.length; omega)
  obtain ⟨ep, he'⟩ := PyProof.Rows.sortedAll_at s.heap its out.toArray
  have hL : (srtD d xs).length ≤ sizeLine := by
    rw [List.length_mergeSort]
    first | exact hlen | (have := rv.length; omega)
  exact ⟨.ref _, upd H (s.heap.objs.size + 1) (.lst (srtD d xs)), I.laid (t' := s.toks) (fun _ _ => PyProof.Rows.sortedAll_old) (Nat.le_succ _) ⟨hL, out.toArray.toList, ep, rel_each (by simpa using h2), by simpa using he'⟩, rfl, q _ (I.hok.fresh (Nat.le_succ _))⟩
theorem cr_minDp (hc : X.calm = true) (hu : X.A.units + 64 < cLine) : CallR X (.builtin "min") (rMinDp X.K) := by
  intro pins s σ H vs us Q I r h
  obtain ⟨a, x, xs, d, rfl, hs, hd, hal, hdp, q⟩ := h
  obtain ⟨its, rv, hl, hlen⟩ := I.list hs
  rw [Vals.ref1 r]
  obtain ⟨as, ra⟩ := Dp.readsAll I ((x :: xs).map d) (x :: xs) its (dp_all hd) rv
  refine min_list_data (I.ok.hd hc) hl.isList (x := d x) (xs := xs.map d) (by simpa using ra) hal (by show _ + 1 + PyData.depthAll ((x :: xs).map d) < _; omega) fun i v h' tk bs hv hr kp => ?_
  have hv' : its[i]? = some v := by simpa using hv
  have hix : i < (x :: xs).length := by
    have := (List.getElem?_eq_some_iff.mp hv').1
    rw [rv.length]
    exact this
  obtain ⟨u, hu2, ru⟩ := rv.get (List.getElem?_eq_getElem hix)
  obtain rfl : u = v := Option.some.inj (hu2.symm.trans hv')
  have hm : (x :: xs)[i] ∈ x :: xs := List.getElem_mem hix
  obtain ⟨as2, r2⟩ := Dp.reads I _ _ u (hd _ hm) ru
  have e := (Reads.unique (PyProof.Rows.Reads.keeps kp r2) _ _ hr).1
  exact ⟨_, H, I.kept kp, ru, q _ hm e⟩
end
end KX

set_option Elab.async false
set_option maxRecDepth 100000
set_option maxHeartbeats 2000000
/-! Sets of texts: added to, and taken in some order. -/
namespace KX
open PySem PySem.Spec PyProof.Rows
def keyS (e : Int × Value) : Str := match e.2 with | .str x _ => x | _ => Str.empty
/-- a set of just the texts L -/
def SetX (P : Program) (w : World) (h : Heap) (a : Addr) (L : List Str) : Prop :=
  ∃ o es ep t, h.get? a = some o ∧ o.ExactSet ∧ o.data = .set es ep t ∧ ElemsOf (PySem.strKind P w) es.toList ∧ (es.toList.map keyS).Perm L ∧ es.size < scanBound ∧ t.fits es.size = true ∧ L2.Ris t.place.toList ∧ (w.params.followText "set-order" = true ∨ t.led = true)
theorem isStr_key {e : Int × Value} {k : Str} {P : Program} {w : World} (h : (PySem.strKind P w).is k e.2 = true) : keyS e = k := by
  obtain ⟨i, v⟩ := e
  have h' : Value.isStrOf k v = true := h
  cases v <;> simp [Value.isStrOf, Value.isStr] at h'
  exact h'
section
variable {P : Program} {w : World} {A : Around} {E : Value → Shared → Prop} {s : Shared} {a : Addr}
theorem elems_key {l : List (Int × Value)} (h : ElemsOf (PySem.strKind P w) l) (x : Str) : (∃ e ∈ l, (PySem.strKind P w).is x e.2 = true) ↔ x ∈ l.map keyS := by
  constructor
  · rintro ⟨e, he, hk⟩
    exact List.mem_map.mpr ⟨e, he, isStr_key hk⟩
  · intro hx
    obtain ⟨e, he, rfl⟩ := List.mem_map.mp hx
    obtain ⟨⟨k, hk, _⟩, _⟩ := h e he
    rw [isStr_key hk]
    exact ⟨e, he, hk⟩
theorem setX_tail {g : Bool → Sem Unit} (hg : ∀ (b : Bool) (s₁ : Shared) (Q' : Unit → Shared → Prop), Q' () s₁ → wpAny (model P w) A (g b) Q' E s₁) {o : Obj} {es : Array (Int × Value)} {ep : Nat} {t : SetTable}
    (ho : s.heap.get? a = some o) (hx : o.ExactSet) (hd : o.data = .set es ep t) {es1 : Array (Int × Value)} {t2 : SetTable} {L' : List Str} (hel : ElemsOf (PySem.strKind P w) es1.toList) (hk : (es1.toList.map keyS).Perm L') (hlt : es1.size < scanBound)
    (hf : t2.fits es1.size = true) (hr : L2.Ris t2.place.toList) (hl : w.params.followText "set-order" = true ∨ t2.led = true) {wasDummy : Bool} {R : Option Bool → Shared → Prop}
    (k : ∀ h', Heap.SameBut a s.heap h' → SetX P w h' a L' → R (some true) { s with heap := h' }) :
    wpAny (model P w) A (do
      storeSet a es1 t2
      if (!wasDummy && SetTable.tooFull t2) = true then do
        g (relayAll t2 es1 (SetTable.grown es1.size)).2.2
        storeSet a (relayAll t2 es1 (SetTable.grown es1.size)).1 (relayAll t2 es1 (SetTable.grown es1.size)).2.1
        pure (some true)
      else pure (some true)) R E s := by
  have h1 := L2.store_at (h := s.heap) (es' := es1) (t' := t2) ho hd
  have sb : Heap.SameBut a s.heap (s.heap.update a (Obj.putSet es1 t2)) := Heap.SameBut.update _ _ _
  refine wpAny_bind (wpAny_storeSet_of ho hd ?_ (fits_of_scanBound hlt))
  by_cases c : (!wasDummy && SetTable.tooFull t2) = true
  · rw [if_pos c]
    refine wpAny_bind (hg _ _ _ ?_)
    have hp := relayAll_perm t2 es1 (SetTable.grown es1.size)
    have hz : (relayAll t2 es1 (SetTable.grown es1.size)).1.size < scanBound := by
      have := hp.length_eq
      simp only [Array.length_toList] at this
      omega
    have h2 := L2.store_at (h := s.heap.update a (Obj.putSet es1 t2)) (es' := (relayAll t2 es1 (SetTable.grown es1.size)).1) (t' := (relayAll t2 es1 (SetTable.grown es1.size)).2.1) h1 rfl
    refine wpAny_bind (wpAny_storeSet_of h1 rfl (wpAny_pure (k _ (sb.trans (Heap.SameBut.update _ _ _)) ?_)) (fits_of_scanBound hz))
    exact ⟨_, _, _, _, h2, hx, rfl, hel.perm hp, (hp.map _).trans hk, hz, relayAll_fits _ _ _, L2.relayAll_ris _ _ _, hl.imp id fun e => (L2.relayAll_led _ _ _).trans e⟩
  · rw [if_neg c]
    exact wpAny_pure (k _ sb ⟨_, _, _, _, h1, hx, rfl, hel, hk, hlt, hf, hr, hl⟩)
theorem setX_add {L : List Str} {x : Str} {tk : Tok} {Q : Bool → Shared → Prop} (h : SetX P w s.heap a L) (hn : L.length + 1 < scanBound)
    (k : ∀ b h', Heap.SameBut a s.heap h' → SetX P w h' a (if x ∈ L then L else L ++ [x]) → Q b { s with heap := h' }) : wpAny (model P w) A (setAddHashed a (.str x tk) (hashStr w x)) Q E s := by
  obtain ⟨o, es, ep, t, ho, hx, hd, hel, hk, hlt, hf, hr, hl⟩ := h
  have his : (PySem.strKind P w).is x (.str x tk) = true := by
    show Value.isStrOf x (.str x tk) = true
    simp [Value.isStrOf, Value.isStr]
  have hsz : es.size = L.length := by rw [← hk.length_eq, List.length_map, Array.length_toList]
  unfold setAddHashed
  refine wpAny_holding ?_
  rw [show (100000 : Nat) = 99999 + 1 from rfl, setAddHashedIn.eq_def]
  refine wpAny_bind (wpAny_setState_of ho hd hf ?_)
  dsimp only
  rw [if_pos (byScan_of (knd := PySem.strKind P w) rfl hlt hel)]
  refine wpAny_bind ?_
  unfold setAddByScan
  refine wpAny_bind (wpAny_rule ?_)
  refine wpAny_bind (wpAny_setScan_of (knd := PySem.strKind P w) (k := x) his ho hd hf hel ?_)
  cases hfi : List.findIdx? (fun e => (PySem.strKind P w).is x e.2) es.toList with
  | some j =>
    have hm : x ∈ L := by
      obtain ⟨hj, hp, _⟩ := List.findIdx?_eq_some_iff_getElem.mp hfi
      exact hk.mem_iff.mp ((elems_key hel x).mp ⟨_, List.getElem_mem hj, hp⟩)
    refine wpAny_pure (wpAny_pure ?_)
    have := k false s.heap (Heap.SameBut.refl _ _) (by rw [if_pos hm]; exact ⟨o, es, ep, t, ho, hx, hd, hel, hk, hlt, hf, hr, hl⟩)
    exact this
  | none =>
    have hm : x ∉ L := fun hm => by
      obtain ⟨e, he, hke⟩ := (elems_key hel x).mpr (hk.mem_iff.mpr hm)
      have := List.findIdx?_eq_none_iff.mp hfi e he
      rw [hke] at this
      cases this
    rw [if_neg hm] at k
    dsimp only
    have hp := layNew_perm t es (hashStr w x) (.str x tk)
    have hel1 : ElemsOf (PySem.strKind P w) (layNew t es (hashStr w x) (.str x tk)).1.toList := (hel.push his rfl).perm (hp.trans (by rw [Array.toList_push]; exact .refl _))
    have hk1 : ((layNew t es (hashStr w x) (.str x tk)).1.toList.map keyS).Perm (L ++ [x]) := (hp.map _).trans (by rw [Array.toList_push, List.map_append]; exact hk.append_right _)
    have hz1 : (layNew t es (hashStr w x) (.str x tk)).1.size < scanBound := by
      have := hp.length_eq
      simp only [Array.length_toList, Array.size_push] at this
      omega
    have hf1 := layNew_fits t es (hashStr w x) (.str x tk)
    have hr1 := L2.layNew_ris t es (hashStr w x) (.str x tk) hr
    have hl1 : w.params.followText "set-order" = true ∨ (layNew t es (hashStr w x) (.str x tk)).2.1.led = true := hl.imp id fun e => (L2.layNew_led _ _ _ _).trans e
    generalize layNew t es (hashStr w x) (.str x tk) = R at hel1 hk1 hz1 hf1 hr1 hl1
    obtain ⟨es1, t1, wd, gave⟩ := R
    dsimp only at hel1 hk1 hz1 hf1 hr1 hl1 ⊢
    have fin : ∀ h', Heap.SameBut a s.heap h' → SetX P w h' a (L ++ [x]) → wpAny (model P w) A (pure true) Q E { s with heap := h' } :=
      fun h' sb hs => wpAny_pure (k true h' sb hs)
    refine wpAny_bind ?_
    cases gave
    · refine wpAny_pure ?_
      by_cases c : t1.plain = true
      · rw [if_pos c, hashByValue.eq_5]
        refine wpAny_bind (wpAny_pure ?_)
        exact setX_tail (fun b _ _ h => by cases b <;> first | exact wpAny_pure h | exact wpAny_rule h) ho hx hd hel1 hk1 hz1 (SetTable.fits_plain_off hf1) hr1 hl1 fin
      · rw [if_neg c]
        refine wpAny_bind (wpAny_pure ?_)
        exact setX_tail (fun b _ _ h => by cases b <;> first | exact wpAny_pure h | exact wpAny_rule h) ho hx hd hel1 hk1 hz1 hf1 hr1 hl1 fin
    · refine wpAny_rule ?_
      by_cases c : t1.plain = true
      · rw [if_pos c, hashByValue.eq_5]
        refine wpAny_bind (wpAny_pure ?_)
        exact setX_tail (fun b _ _ h => by cases b <;> first | exact wpAny_pure h | exact wpAny_rule h) ho hx hd hel1 hk1 hz1 (SetTable.fits_plain_off hf1) hr1 hl1 fin
      · rw [if_neg c]
        refine wpAny_bind (wpAny_pure ?_)
        exact setX_tail (fun b _ _ h => by cases b <;> first | exact wpAny_pure h | exact wpAny_rule h) ho hx hd hel1 hk1 hz1 hf1 hr1 hl1 fin
theorem SetX.typeIs {L : List Str} (h : SetX P w s.heap a L) : Shared.TypeIs s (.ref a) "set" := by
  obtain ⟨o, es, ep, t, ho, hx, _⟩ := h
  exact ⟨o, ho, hx.1⟩
theorem call_setX_add {L : List Str} {x : Str} {tk : Tok} {Q : Value → Shared → Prop} (h : SetX P w s.heap a L) (hn : L.length + 1 < scanBound)
    (k : ∀ h', Heap.SameBut a s.heap h' → SetX P w h' a (if x ∈ L then L else L ++ [x]) → Q .none { s with heap := h', toks := s.toks + 1 }) : wpAny (model P w) A (call (.builtin "set.add") [.ref a, .str x tk]) Q E s := by
  refine wpAny_call_entry F.slot_set_add h.typeIs F.entry_set_add ?_ (F.args_set_add_2 _ _)
  unfold Builtin.«set.add»
  refine wpAny_bind (m := Builtin.Frozenset.oneOther "add" _) (wpAny_bind (wpAny_pure (wpAny_pure ?_)))
  dsimp only
  refine wpAny_bind ?_
  unfold setAdd
  refine wpAny_holding (wpAny_bind (wpAny_pyHash_str (setX_add h hn fun b h' sb hs => ?_)))
  exact wpAny_pure ⟨_, rfl, k h' sb hs⟩
theorem sorted_setX {L : List Str} {Q : Value → Shared → Prop} (hA : A.handled = none) (hu : A.units + 64 < cLine) (h : SetX P w s.heap a L)
    (k : ∀ (s' : Shared) (p : Addr) (out : List Value) (c : Nat) (L' : List Str), (∀ b o, s.heap.get? b = some o → s'.heap.get? b = some o) → s'.gens = s.gens → s'.os = s.os → s.heap.objs.size ≤ p → s'.heap.get? p = some (seqObj "list" out.toArray c) →
      PySem.W.EachIs (fun v x => ∃ t, v = Value.str x t) out (L'.mergeSort (PySem.W.dataLe false PyData.str)) → L'.Perm L → Q (.ref p) s') : wpAny (model P w) A (call (.builtin "sorted") [.ref a]) Q E s := by
  obtain ⟨o, es, ep, t, ho, hx, hd, hel, hk, hlt, hf, hr, hl⟩ := h
  refine PyProof.Rows.call_function_entry_kw (kw := []) kind_sorted plain_sorted entry_sorted (args_sorted1 _) ?_
  unfold Builtin.«sorted»
  refine wpAny_bind (m := checkCount "sorted" 1 1 _) (wpAny_pure ?_)
  refine wpAny_bind (L2.collect_set hA ⟨o, ho, hx.1, hd⟩ hf hlt hr hl fun s1 out old hsz hg hos hp => ?_)
  have hz : out.length ≤ sizeLine := by
    have h1 := hp.length_eq
    rw [List.length_map, show es.toList.length = es.size from Array.length_toList] at h1
    exact Nat.le_trans (Nat.le_of_eq h1) (fits_of_scanBound hlt)
  refine wpAny_bind (wpAny_newList ?_ hz)
  have hstr : ∀ v ∈ out, ∃ x t, v = Value.str x t := by
    intro v hv
    obtain ⟨e, he, rfl⟩ := List.mem_map.mp (hp.mem_iff.mp hv)
    obtain ⟨⟨x, hk, _⟩, _⟩ := hel e he
    have h' : Value.isStrOf x e.2 = true := hk
    obtain ⟨i, v⟩ := e
    cases v <;> simp [Value.isStrOf, Value.isStr] at h'
    exact ⟨_, _, rfl⟩
  have hperm : (out.map fun v => keyS (0, v)).Perm L := (hp.map _).trans (by rw [List.map_map]; exact hk)
  have hL : (s1.heap.push (seqObj "list" out.toArray 0)).get? s1.heap.objs.size = some (seqObj "list" out.toArray 0) := Heap.get?_push_size _ rfl
  have each : ∀ l : List Value, (∀ v ∈ l, ∃ x t, v = Value.str x t) → PySem.W.EachIs (fun v x => ∃ t, v = Value.str x t) l (l.map fun v => keyS (0, v)) ∧
      PySem.W.EachIs (fun v x => ∃ as, Reads (s1.heap.push (seqObj "list" out.toArray 0)) v (PyData.str x) as ∧ s1.heap.objs.size ∉ as) l (l.map fun v => keyS (0, v)) := by
    intro l hl
    induction l with
    | nil => exact ⟨.nil, .nil⟩
    | cons v r ih =>
      obtain ⟨x, t, rfl⟩ := hl v List.mem_cons_self
      have := ih fun u hu => hl u (List.mem_cons_of_mem _ hu)
      exact ⟨.cons ⟨t, rfl⟩ this.1, .cons ⟨[], .str x t, by simp⟩ this.2⟩
  have hlen : (out.map fun v => keyS (0, v)).length ≤ sizeLine := by rw [List.length_map]; exact hz
  refine wpAny_bind (wpAny_holding (PySem.W.list_sort_data (bs := out.map fun v => keyS (0, v)) (enc := PyData.str) hL (each out hstr).1 (each out hstr).2 ?_ ?_ hlen ?_ fun out2 hl2 he2 => ?_))
  · intro d hd d' hd'
    obtain ⟨x, _, rfl⟩ := List.mem_map.mp hd
    obtain ⟨y, _, rfl⟩ := List.mem_map.mp hd'
    rfl
  · refine .inr fun d hd => ?_
    obtain ⟨x, _, rfl⟩ := List.mem_map.mp hd
    exact ⟨(fun e => by cases e), fun _ e => by cases e⟩
  · intro b _
    have e1 : (PyData.str b).depth = 0 := rfl
    have e2 : A.in1.units = A.units + 1 := rfl
    omega
  · obtain ⟨c, hc⟩ := sortedHeap_at (out := out2.toArray) hL
    refine wpAny_pure ⟨_, rfl, ?_⟩
    refine k _ _ out2 c (out.map fun v => keyS (0, v)) (fun b o e => ?_) hg hos hsz hc he2 hperm
    have e1 := old b o e
    have e2 : (s1.heap.push (seqObj "list" out.toArray 0)).get? b = some o := Heap.get?_push_of_some _ e1
    exact (sortedHeap_old (Nat.ne_of_lt (Heap.lt_size e1)) (Heap.lt_size e2)).trans e2
end
end KX

set_option Elab.async false
set_option maxRecDepth 100000
set_option maxHeartbeats 2000000
/-! sorted({t[0] for t in d.values()}): the first parts (texts) of the tuples that stand in a dict. -/
namespace KX
open PySem PySem.Spec PyProof.Rows
def uniqS (xs : List Str) : List Str := xs.foldl (fun L x => if x ∈ L then L else L ++ [x]) []
theorem uniqS_snoc (xs : List Str) (x : Str) : uniqS (xs ++ [x]) = if x ∈ uniqS xs then uniqS xs else uniqS xs ++ [x] := by
  unfold uniqS
  rw [List.foldl_append]
  rfl
theorem uniqS_len : ∀ (xs : List Str), (uniqS xs).length ≤ xs.length := by
  have : ∀ (xs L : List Str), (xs.foldl (fun L x => if x ∈ L then L else L ++ [x]) L).length ≤ L.length + xs.length := by
    intro xs
    induction xs with
    | nil => intro L; simp
    | cons x r ih =>
      intro L
      refine Nat.le_trans (ih _) ?_
      dsimp only [List.length_cons]
      split
      · omega
      · rw [List.length_append, List.length_singleton]; omega
  intro xs
  have := this xs []
  simpa [uniqS] using this
theorem uniqS_mem (x : Str) (xs : List Str) : x ∈ uniqS xs ↔ x ∈ xs := by
  have : ∀ (xs L : List Str), x ∈ xs.foldl (fun L x => if x ∈ L then L else L ++ [x]) L ↔ x ∈ L ∨ x ∈ xs := by
    intro xs
    induction xs with
    | nil => intro L; simp
    | cons y r ih =>
      intro L
      rw [List.foldl_cons, ih]
      split
      · rename_i h
        constructor
        · rintro (h1 | h1)
          · exact .inl h1
          · exact .inr (List.mem_cons_of_mem _ h1)
        · rintro (h1 | h1)
          · exact .inl h1
          · rcases List.mem_cons.mp h1 with rfl | h1
            · exact .inl h
            · exact .inr h1
      · rw [List.mem_append, List.mem_singleton, List.mem_cons]
        constructor
        · rintro ((h1 | h1) | h1)
          · exact .inl h1
          · exact .inr (.inl h1)
          · exact .inr (.inr h1)
        · rintro (h1 | h1 | h1)
          · exact .inl (.inl h1)
          · exact .inl (.inr h1)
          · exact .inr h1
  have := this xs []
  simpa [uniqS] using this
theorem uniqS_nodup (xs : List Str) : (uniqS xs).Nodup := by
  have : ∀ (xs L : List Str), L.Nodup → (xs.foldl (fun L x => if x ∈ L then L else L ++ [x]) L).Nodup := by
    intro xs
    induction xs with
    | nil => intro L h; exact h
    | cons y r ih =>
      intro L h
      rw [List.foldl_cons]
      refine ih _ ?_
      split
      · exact h
      · rename_i hn
        exact List.nodup_append.mpr ⟨h, by simp, by intro a ha b hb; rw [List.mem_singleton] at hb; rintro rfl; exact hn (hb ▸ ha)⟩
  exact this xs [] List.nodup_nil
theorem SetX.at {P : Program} {w : World} {h h' : Heap} {a : Addr} {L : List Str} (z : SetX P w h a L) (k : ∀ o, h.get? a = some o → h'.get? a = some o) : SetX P w h' a L := by
  obtain ⟨o, es, ep, t, ho, r⟩ := z
  exact ⟨o, es, ep, t, k o ho, r⟩
theorem setX_fresh {P : Program} {h : Heap} {a : Addr} (w : World) (e : h.get? a = some { cls := .type "set", data := .set #[] 0 (SetTable.fresh 0 0 !w.params.followText "set-order") }) : SetX P w h a [] := by
  refine ⟨_, _, _, _, e, ⟨rfl, rfl, rfl⟩, rfl, (fun e he => absurd he (by simp)), .refl _, by decide, rfl, List.Pairwise.nil, ?_⟩
  cases hf : w.params.followText "set-order"
  · exact .inr rfl
  · exact .inl rfl
section
variable {P : Program} {w : World} {A : Around} {E : Value → Shared → Prop} {s : Shared}
theorem setFst_pass {env : Env} {scope : Scope} {cl : List (Str × Addr)} {v d : Addr} {y : Str} {pt pe pc ps : Pos} {kk : Nat} {kvs : List (L2.Key × Value)} {ep : Nat} {xs : List Str} {Q : Value → Shared → Prop} (hh : A.handled = none) (hkind : scope.kind = .function) (hy : scope.names.lookup y = some .local) (hdb : (y == Str.ofString "__debug__") = false)
    (hv : s.heap.IsValuesView v d) (hd : Heap.DictAt (L2.mixKind P w) s.heap d kvs ep) (hx : ∀ (i : Nat) k u, kvs[i]? = some (k, u) → ∃ (t : Addr) (its : Array Value) (x : Str) (tk : Tok), u = Value.ref t ∧ IsTup s.heap t its ∧ its[0]? = some (Value.str x tk) ∧ xs[i]? = some x) (hlen : xs.length = kvs.length) (hlt : kvs.length + 1 < scanBound)
    (k : ∀ D h' tk, s.heap.objs.size ≤ D → SetX P w h' D (uniqS xs) → (∀ b o, s.heap.get? b = some o → h'.get? b = some o) → Q (.ref D) { s with heap := h', toks := tk }) :
    wpAny (model P w) A (pyIter (.ref v)) (ScGoes P w A E env scope cl (.Name y pt) [] (.Subscript (.Name y pe) (.Constant (.int 0) kk pc) ps) none Q) E s := by
  have hdl : d < s.heap.objs.size := by obtain ⟨o, _, ho, _⟩ := hd; exact Heap.lt_size ho
  refine wpAny_pyIter_values hv hd ?_
  refine ⟨_, _, _, _, _, _, rfl, Goes.dictValues (knd := L2.mixKind P w) hh s.heap.objs.size d (Nat.ne_of_lt hdl) kvs ep, ⟨⟨_, Heap.get?_push_size _ rfl, rfl, rfl⟩, ?_⟩, fun D C s₃ hB hDset => ?_⟩
  · obtain ⟨o, es, ho, r⟩ := hd
    exact ⟨o, es, Heap.get?_push_of_some _ ho, r⟩
  · obtain ⟨⟨h₃, tk₃, rfl⟩, old, nD, nC, hDC, hnm⟩ := hB
    have nC' : s.heap.objs.size + 1 ≤ C := by
      have := nC
      rwa [size_push'] at this
    have nD' : s.heap.objs.size + 1 ≤ D := by
      have := nD
      rwa [size_push'] at this
    have kinds : (compEnvC scope cl C env).kindOf y = some .local := lookup_relabel_local hy
    have hp : ((compEnvC scope cl C env).scope.kind == .class || ((compEnvC scope cl C env).scope.kind == .module && (compEnvC scope cl C env).locals != (compEnvC scope cl C env).globals)) = false := by
      show (scope.kind == .class || (scope.kind == .module && _)) = false
      rw [hkind]; rfl
    have offC : ∀ b : Addr, b < s.heap.objs.size → b ≠ C := fun b hb e => by
      subst e
      exact absurd (Nat.lt_of_lt_of_le (Nat.lt_succ_of_lt hb) nC') (Nat.lt_irrefl _)
    have offD : ∀ b : Addr, b < s.heap.objs.size → b ≠ D := fun b hb e => by
      subst e
      exact absurd (Nat.lt_of_lt_of_le (Nat.lt_succ_of_lt hb) nD') (Nat.lt_irrefl _)
    have CI : C ≠ s.heap.objs.size := fun e => by
      rw [e] at nC'
      exact Nat.not_succ_le_self _ nC'
    have DI : D ≠ s.heap.objs.size := fun e => by
      rw [e] at nD'
      exact Nat.not_succ_le_self _ nD'
    refine ⟨fun i s₁ => ∃ h' tk m, s₁ = { s with heap := h', toks := tk } ∧ h'.Ns C m ∧ SetX P w h' D (uniqS (xs.take i)) ∧ ∀ b o, s.heap.get? b = some o → h'.get? b = some o,
      ⟨h₃, tk₃, _, rfl, hnm, setX_fresh w hDset, fun b o e => old b o (Heap.get?_push_of_some _ e)⟩, ?_, ?_, ?_⟩
    · rintro i s₁ h' tk ⟨h₄, tk₄, m, rfl, n₄, x₄, k₄⟩ hk' _
      refine ⟨h', tk, m, rfl, n₄.at' fun o e => hk' _ o (by simpa using CI) e, x₄.at fun o e => hk' _ o (by simpa using DI) e, fun b o e => hk' b o ?_ (k₄ b o e)⟩
      rw [List.mem_singleton]
      exact Nat.ne_of_lt (Heap.lt_size e)
    · rintro i u s₁ hi ⟨kk', hu⟩ st ⟨h₄, tk₄, m, rfl, n₄, x₄, k₄⟩
      obtain ⟨t, its, x, tkx, rfl, hT, hx0, hxi⟩ := hx i kk' u hu
      refine wpAny_assign_Name (wpAny_storeName_local kinds n₄ (fun h₆ n₆ s₆ => ?_) hp)
      refine wpAny_tests_nil ?_
      dsimp only
      rw [if_pos rfl]
      have k6 : ∀ b o, s.heap.get? b = some o → h₆.get? b = some o := fun b o e => (s₆.2 b (offC b (Heap.lt_size e))).trans (k₄ b o e)
      refine Subscript_ (wpAny_Name (wpAny_loadName_local hkind kinds n₆ (if_pos rfl) ?_) hdb)
      refine wpAny_Constant_int ?_
      obtain ⟨oT, hoT, r⟩ := hT
      refine item_tuple ⟨oT, k6 _ _ hoT, r⟩ (by decide) (by decide) (j := 0) ?_ hx0 ?_
      · have hz : 0 < its.size := (Array.getElem?_eq_some_iff.mp hx0).1
        have h2 : (0 : Int) < (its.size : Int) := by omega
        simp [seqIndex?, hz]
      · refine call_setX_add (L := uniqS (xs.take i)) (x₄.at fun o e => (s₆.2 D hDC).trans e) ?_ fun h₇ sb₇ x₇ => ?_
        · have h1 := uniqS_len (xs.take i)
          rw [List.length_take] at h1
          omega
        · refine ⟨⟨h₇, _, _, rfl, n₆.at' fun o e => (sb₇.2 C (Ne.symm hDC)).trans e, ?_, fun b o e => (sb₇.2 b (offD b (Heap.lt_size e))).trans (k6 b o e)⟩, ?_⟩
          · rw [List.take_succ, hxi]
            exact (uniqS_snoc _ _) ▸ x₇
          · obtain ⟨⟨oI, hoI, rI⟩, oD, es, hoD, rD⟩ := st
            have mv : ∀ b o, b ≠ C → b ≠ D → h₄.get? b = some o → h₇.get? b = some o := fun b o e1 e2 e => (sb₇.2 b e2).trans ((s₆.2 b e1).trans e)
            exact ⟨⟨oI, mv _ _ CI.symm DI.symm hoI, rI⟩, oD, es, mv _ _ (offC d hdl) (offD d hdl) hoD, rD⟩
    · rintro s₁ ⟨h₄, tk₄, m, rfl, n₄, x₄, k₄⟩
      refine ⟨m, n₄, fun h' sb => ?_⟩
      refine k D h' tk₄ (Nat.le_of_succ_le nD') ?_ fun b o e => (sb.2 b (offC b (Heap.lt_size e))).trans (k₄ b o e)
      rw [show kvs.length = xs.length from hlen.symm, List.take_length] at x₄
      exact x₄.at fun o e => (sb.2 D hDC).trans e
end
open L2
/-- the view d.values() at v -/
def ViewO (v d : Addr) : HO := .ext fun h => h.IsValuesView v d
/-- a set of just the texts L at a -/
def SetXO (P : Program) (w : World) (a : Addr) (L : List Str) : HO := .ext fun h => SetX P w h a L
def rVals : V → List V → Hp → VK → Prop := fun x xs H Q => ∃ d kvs, x = V.ref d ∧ xs = [] ∧ H d = some (.dK kvs) ∧ ∀ v, H v = none → Q (.ref v) (upd H v (ViewO v d))
def tSetFst (P : Program) (w : World) (K : PySem.W.Frag) (td : TE) : TE := fun σ H Q => td σ H fun x H1 => tyV K "dict" x H1 ∧ rVals x [] H1 fun x2 H2 => ∃ (v d : Addr) (kvs : List (Key × V)) (xs : List Str), x2 = V.ref v ∧ H2 v = some (ViewO v d) ∧ H2 d = some (.dK kvs) ∧
  (∀ (i : Nat) k v, kvs[i]? = some (k, v) → ∃ (t : Addr) (x : Str) (rest : List V), v = V.ref t ∧ H2 t = some (.tup (V.str x :: rest)) ∧ xs[i]? = some x) ∧ xs.length = kvs.length ∧ kvs.length + 1 < scanBound ∧
  ∀ D, H2 D = none → Q (.ref D) (upd H2 D (SetXO P w D (uniqS xs)))
def rSortX (P : Program) (w : World) : List V → Hp → VK → Prop := fun vs H Q => ∃ (a : Addr) (L : List Str), vs = [V.ref a] ∧ H a = some (SetXO P w a L) ∧ ∀ (p : Addr) (L' : List Str), L'.Perm L → H p = none → Q (.ref p) (upd H p (.lst ((L'.mergeSort (PySem.W.dataLe false PyData.str)).map V.str)))
section
variable {X : Cx}
theorem mt_values : MtR X "dict.values" rVals := by
  intro pins s σ H x xs v us Q I rx rs h
  obtain ⟨d, kvs, rfl, rfl, hd, q⟩ := h
  obtain rfl : v = Value.ref d := rx
  cases rs
  obtain ⟨_, hsys, vs, _, hD⟩ := (I.hok d _ hd : ObjOk _ _ _ _ _ (.dK kvs))
  obtain ⟨o, es, ep, ho, hx, hdt, _⟩ := id hD
  refine call_meetsIn F.slot_dict_values hD.typeIs F.entry_dict_values (F.args_dict_values_1 _) (meets_dict_values_raw d hsys) ⟨⟨es, ep, o, ho, hx, hdt⟩, ?_⟩
  have e : (s.heap.push { cls := .type "dict_values", data := .fields #[.ref d] }).get? s.heap.objs.size = some { cls := .type "dict_values", data := .fields #[.ref d] } := Heap.get?_push_size _ rfl
  refine ⟨.ref _, upd H s.heap.objs.size (ViewO s.heap.objs.size d), I.laid (t' := s.toks) (fun b u z => Heap.get?_push_of_some _ z) (Nat.le_refl _) ⟨⟨_, e, rfl, rfl⟩, ⟨_, e⟩, fun h1 h2 z k => ?_⟩, rfl, q _ (I.hok.fresh (Nat.le_refl _))⟩
  obtain ⟨o, h3, h4⟩ := z
  exact ⟨o, k o h3, h4⟩
theorem cr_sortedX (hc : X.calm = true) (hu : X.A.units + 64 < cLine) : CallR X (.builtin "sorted") (rSortX X.prog X.w) := by
  intro pins s σ H vs us Q I r h
  obtain ⟨a, L, rfl, ha, q⟩ := h
  rw [Vals.ref1 r]
  obtain ⟨hS, _⟩ := (I.hok a _ ha : ObjOk _ _ _ _ _ (SetXO X.prog X.w a L))
  refine sorted_setX (I.ok.hd hc) hu hS fun s' p out c L' old hg hos hp hL he hperm => ?_
  obtain ⟨S0, rfl⟩ : ∃ z, z = s' := ⟨_, rfl⟩
  have vals : ∀ (out : List Value) (ys : List Str), PySem.W.EachIs (fun v x => ∃ t, v = Value.str x t) out ys → Vals (ys.map V.str) out := by
    intro out ys z
    induction z with
    | nil => exact .nil
    | cons h t ih =>
      obtain ⟨tk, rfl⟩ := h
      exact .cons ⟨tk, rfl⟩ ih
  have J : Inv X pins σ (upd H p (.lst ((L'.mergeSort (PySem.W.dataLe false PyData.str)).map V.str))) { heap := S0.heap, gens := s.gens, drawn := S0.drawn, toks := S0.toks, os := s.os } := by
    have hl : ((L'.mergeSort (PySem.W.dataLe false PyData.str)).map V.str).length ≤ sizeLine := by
      obtain ⟨o, es, ep, t, _, _, _, _, h1, h2, _⟩ := hS
      rw [List.length_map, List.length_mergeSort, hperm.length_eq, ← h1.length_eq, List.length_map, Array.length_toList]
      exact fits_of_scanBound h2
    have J := I.laid (h' := S0.heap) (a := p) (o := .lst ((L'.mergeSort (PySem.W.dataLe false PyData.str)).map V.str)) (t' := S0.toks) old hp ⟨hl, out, c, vals _ _ he, hL⟩
    exact ⟨J.ok, J.os, J.bare, J.base, J.loc, J.cell, J.free, J.freeC, J.pin, J.hok, J.len⟩
  have e : S0 = { heap := S0.heap, gens := s.gens, drawn := S0.drawn, toks := S0.toks, os := s.os } := by
    rw [← hg, ← hos]
  rw [e]
  exact ⟨.ref p, _, J, rfl, q p L' hperm (I.hok.fresh hp)⟩
theorem kv_at : ∀ {kvs : List (Key × V)} {vs : List (Key × Value)}, KV kvs vs → ∀ {i : Nat} {k : Key} {u : Value}, vs[i]? = some (k, u) → ∃ v, kvs[i]? = some (k, v) ∧ RelV v u
  | _, _, .nil, _, _, _, e => by simp at e
  | (k1, v1) :: _, _, .cons h t, 0, k, u, e => by
    obtain ⟨rfl, rfl⟩ := Prod.mk.inj (Option.some.inj e)
    obtain ⟨h1, h2⟩ := h
    cases h1
    exact ⟨v1, rfl, h2⟩
  | _ :: _, _, .cons h t, i + 1, k, u, e => kv_at t (i := i) e
theorem kv_len : ∀ {kvs : List (Key × V)} {vs : List (Key × Value)}, KV kvs vs → kvs.length = vs.length
  | _, _, .nil => rfl
  | _, _, .cons _ t => congrArg (· + 1) (kv_len t)
theorem pe_setFst (hc : X.calm = true) {e : Expr} {td : TE} {y : Str} {pt pe pc ps ap cp pos : Pos} {scope : Scope} {kk : Nat} (hk : scope.kind = .function) (hl : ∀ z ∈ scope.names, z.2 = .local ∧ scope.names.lookup z.1 = some .local) (hy : scope.names.lookup y = some .local) (hdb : (y == Str.ofString "__debug__") = false) (he : PE X e td)
    (hbase : attributeBase e (Str.ofString "values") X.env (eval e X.env) = eval e X.env := by first | rfl | (intros; rfl)) (hline : (ap.endLine == cp.line) = true := by rfl) (fold : ∀ x, foldedSetIterable (.Call (.Attribute e (Str.ofString "values") ap) [] [] cp) X.env x = pure x := by intro _; rfl) :
    PE X (.SetComp (.Subscript (.Name y pe) (.Constant (.int 0) kk pc) ps) [⟨.Name y pt, .Call (.Attribute e (Str.ofString "values") ap) [] [] cp, [], 0⟩] scope pos) (tSetFst X.prog X.w X.K td) := by
  refine ⟨fun pins s σ H Q I h => ?_⟩
  refine SetComp_goes (cl := cloFrom X.env.cells scope.names []) (closure_ok fun z hz e => ?_) (fun z hz => ?_) hk (fun z hz _ => (hl z hz).2) ?_ fold
  · rw [(hl z hz).1] at e
    cases e
  · rw [(hl z hz).1]
    decide
  refine wpAny_mono ((pe_bm0 F.plainAttrs_dict F.slot_dict_values F.type_dict_values mt_values he hbase hline).run pins s σ H _ I h) (fun u s1 z => ?_) (fun _ _ z => z)
  obtain ⟨x2, H2, I2, ru, v, d, kvs, xs, rfl, hv, hd, hx, hlen, hlt, q⟩ := z
  obtain rfl : u = Value.ref v := ru
  obtain ⟨hview, _⟩ := (I2.hok v _ hv : ObjOk _ _ _ _ _ (ViewO v d))
  obtain ⟨_, hsys, vs, hkv, hD⟩ := (I2.hok d _ hd : ObjOk _ _ _ _ _ (.dK kvs))
  obtain ⟨ep, hDA⟩ := hD.dictAt
  have hlv := kv_len hkv
  refine setFst_pass (xs := xs) (I.ok.hd hc) hk hy hdb hview hDA (fun i k u hu => ?_) (hlen.trans hlv) (by omega) fun D h' tk hD' hS old => ?_
  · obtain ⟨w1, hw, rw1⟩ := kv_at hkv hu
    obtain ⟨t, x, rest, rfl, ht, hxi⟩ := hx i k w1 hw
    obtain rfl : u = Value.ref t := rw1
    obtain ⟨_, its, hvs, hT⟩ := (I2.hok t _ ht : ObjOk _ _ _ _ _ (.tup _))
    cases hvs with
    | cons h1 h2 =>
      obtain ⟨tk, rfl⟩ := h1
      exact ⟨t, _, x, tk, rfl, hT, rfl, hxi⟩
  · obtain ⟨o, es, ep2, t, ho, r⟩ := id hS
    exact ⟨.ref D, upd H2 D (SetXO X.prog X.w D (uniqS xs)), I2.laid (t' := tk) old hD' ⟨hS, ⟨o, ho⟩, fun h1 h2 z k => z.at k⟩, rfl, q D (I2.hok.fresh hD')⟩
end
end KX

set_option Elab.async false
set_option maxRecDepth 100000
set_option maxHeartbeats 2000000
/-! dict displays with ** in them: {**d, k: v}, {**d, **e}. -/
namespace KX
open PySem PySem.Spec PyProof.Rows
section
variable {P : Program} {w : World} {A : Around} {E : Value → Shared → Prop} {s : Shared} {K : Type} [DecidableEq K] {knd : PySem.KeyKind P w K}
theorem wp_dictPut {d : Addr} {kvs : List (K × Value)} {k : K} {key v : Value} {Q : Unit → Shared → Prop} (hk : knd.is k key = true) (h : Heap.DictOf knd s.heap d kvs) (hsz : kvs.length ≤ sizeLine)
    (q : ∀ h', Heap.DictOf knd h' d (stored kvs k v) → Heap.SameBut d s.heap h' → Q () { s with heap := h' }) : wpAny (model P w) A (dictPut d (knd.hash k) key v) Q E s := by
  obtain ⟨o, es, ep, ho, hx, hd, hks, hp, hn⟩ := h
  have hz : es.size ≤ sizeLine := by
    have := hp.length
    rw [Array.length_toList] at this
    omega
  have hob : o = { cls := o.cls, dict := o.dict, data := .dict es ep, slots := o.slots } := by
    obtain ⟨c, di, da, sl⟩ := o
    cases hd
    rfl
  have fi : Array.findIdx? (fun e => knd.is k e.key) es = List.findIdx? (fun kv => decide (kv.1 = k)) kvs := by
    rw [← hp.findIdx k]
    obtain ⟨l⟩ := es
    simp
  unfold dictPut
  refine wpAny_bind (wpAny_dictFind_of hk ho hd hks ?_)
  rw [fi]
  cases hf : List.findIdx? (fun kv => decide (kv.1 = k)) kvs with
  | some i =>
    have hany : (kvs.any fun kv => decide (kv.1 = k)) = true := by
      obtain ⟨hi, hpi, _⟩ := List.findIdx?_eq_some_iff_getElem.mp hf
      exact List.any_eq_true.mpr ⟨_, List.getElem_mem hi, hpi⟩
    refine wpAny_updateDict ho hd (q _ ?_ (Heap.SameBut.update _ _ _)) (Nat.le_of_eq Array.size_modify)
    refine ⟨_, es.modify i fun e => { hash := e.hash, key := e.key, val := v }, ep, Heap.get?_update_self _ ho (by rw [hob]; rfl), ?_, by rw [hob]; rfl, hks.modify i v, ?_, ?_⟩
    · rw [hob]; exact hx
    · have := hp.modify hn ((hp.findIdx k).trans hf) v
      unfold stored
      rw [if_pos hany]
      rw [Array.toList_modify]
      exact this
    · unfold stored
      rw [if_pos hany, List.map_map]
      rw [show (Prod.fst ∘ fun kv : K × Value => if kv.1 = k then (kv.1, v) else kv) = Prod.fst from funext fun kv => by dsimp only [Function.comp]; split <;> rfl]
      exact hn
  | none =>
    have hany : (kvs.any fun kv => decide (kv.1 = k)) = false := by
      rw [List.any_eq_false]
      intro kv hkv
      have := List.findIdx?_eq_none_iff.mp hf kv hkv
      rw [this]
      simp
    refine wpAny_updateDictKeys ho hd (q _ ?_ (Heap.SameBut.update _ _ _)) hz (Nat.le_of_eq (Array.size_push _))
    refine ⟨_, es.push { hash := knd.hash k, key := key, val := v }, ep + 1, Heap.get?_update_self _ ho (by rw [hob]; rfl), ?_, by rw [hob]; rfl, hks.push hk v, ?_, ?_⟩
    · rw [hob]; exact hx
    · unfold stored
      rw [if_neg (by rw [hany]; simp), Array.toList_push]
      exact hp.append hk _ v
    · unfold stored
      rw [if_neg (by rw [hany]; simp), List.map_append]
      refine List.nodup_append.mpr ⟨hn, by simp, ?_⟩
      intro a ha b hb
      rw [List.map_cons, List.map_nil, List.mem_singleton] at hb
      rintro rfl
      obtain ⟨kv, hkv, e⟩ := List.mem_map.mp ha
      have := List.any_eq_false.mp hany kv hkv
      rw [e, hb] at this
      simp at this
theorem pairs_at : ∀ {es : List DictEntry} {kvs : List (K × Value)}, Pairs knd es kvs → ∀ {i : Nat} {e : DictEntry}, es[i]? = some e → ∃ kv, kvs[i]? = some kv ∧ knd.is kv.1 e.key = true ∧ e.val = kv.2
  | _, _, .nil, _, _, h => by simp at h
  | _, _, .cons h1 h2 t, 0, e, h => by
    cases h
    exact ⟨_, rfl, h1, h2⟩
  | _, _, .cons h1 h2 t, i + 1, e, h => pairs_at t (i := i) h
theorem mm_loop {f : Nat → PUnit → Sem (ForInStep PUnit)} {d a : Addr} {kvs more : List (K × Value)} {Q : PUnit → Shared → Prop} {o2 : Obj} {es2 : Array DictEntry} {ep2 : Nat} (hne : d ≠ a) (h : Heap.DictOf knd s.heap d kvs) (hsz : kvs.length + more.length ≤ sizeLine)
    (ho2 : s.heap.get? a = some o2) (hd2 : o2.data = .dict es2 ep2) (hks2 : PySem.KeysOf knd es2) (hp2 : Pairs knd es2.toList more)
    (hf : ∀ (i : Nat) (s1 : Shared) (e : DictEntry) (Q' : ForInStep PUnit → Shared → Prop), es2[i]? = some e → s1.heap.get? a = some o2 → wpAny (model P w) A (dictPut d e.hash e.key e.val) (fun _ s2 => s2.heap.get? a = some o2 ∧ Q' (.yield ⟨⟩) s2) E s1 → wpAny (model P w) A (f i ⟨⟩) Q' E s1)
    (q : ∀ h', Heap.DictOf knd h' d (merged kvs more) → Heap.SameBut d s.heap h' → Q ⟨⟩ { s with heap := h' }) : wpAny (model P w) A (forIn (List.range es2.size) (⟨⟩ : PUnit) f) Q E s := by
  have hlen : es2.size = more.length := by
    have := hp2.length
    rwa [Array.length_toList] at this
  refine wpAny_forIn_list f (fun l b s1 => ∃ i h', i ≤ es2.size ∧ l = (List.range es2.size).drop i ∧ s1 = { s with heap := h' } ∧ Heap.DictOf knd h' d (merged kvs (more.take i)) ∧ Heap.SameBut d s.heap h') Q ?_ ?_ _ _ ⟨0, s.heap, Nat.zero_le _, rfl, rfl, h, Heap.SameBut.refl _ _⟩
  · rintro x rest b s1 ⟨i, h', hi, hl, rfl, hD, hS⟩
    have hlt : i < es2.size := by
      rcases Nat.lt_or_ge i es2.size with h | h
      · exact h
      · rw [List.drop_eq_nil_of_le (by rw [List.length_range]; exact h)] at hl
        cases hl
    rw [List.drop_eq_getElem_cons (by rw [List.length_range]; exact hlt)] at hl
    obtain ⟨hx, hr⟩ := List.cons.inj hl
    rw [List.getElem_range] at hx
    subst hx
    have he : es2[x]? = some es2[x] := Array.getElem?_eq_getElem hlt
    generalize es2[x] = e at he
    have he' : es2.toList[x]? = some e := by rw [Array.getElem?_toList]; exact he
    obtain ⟨kv, hkv, hk1, hk2⟩ := pairs_at hp2 he'
    have hash : e.hash = knd.hash kv.1 := by
      obtain ⟨k', hk', hh⟩ := hks2 e (Array.mem_of_getElem? he)
      rw [hh, knd.inj _ _ _ hk' hk1]
    have ha1 : h'.get? a = some o2 := (hS.2 a (Ne.symm hne)).trans ho2
    refine hf x _ e _ he ha1 ?_
    rw [hash, hk2]
    have hml : (merged kvs (more.take x)).length ≤ sizeLine := by
      have h1 := merged_length_le kvs (more.take x)
      rw [List.length_take] at h1
      omega
    refine wp_dictPut hk1 hD hml fun h2 hD2 hS2 => ⟨(hS2.2 a (Ne.symm hne)).trans ha1, x + 1, h2, hlt, hr, rfl, ?_, hS.trans hS2⟩
    rw [merged_take_succ kvs more x kv hkv]
    exact hD2
  · rintro b s1 ⟨i, h', hi, hl, rfl, hD, hS⟩
    have hge : es2.size ≤ i := by
      rcases Nat.lt_or_ge i es2.size with h | h
      · rw [List.drop_eq_getElem_cons (by rw [List.length_range]; exact h)] at hl
        cases hl
      · exact h
    rw [List.take_of_length_le (by omega)] at hD
    exact q h' hD hS
theorem wp_mergeMapping {d a : Addr} {kvs more : List (K × Value)} {Q : Unit → Shared → Prop} (hne : d ≠ a) (hsys : (a == sysModules) = false) (h : Heap.DictOf knd s.heap d kvs) (h2 : Heap.DictOf knd s.heap a more) (hsz : kvs.length + more.length ≤ sizeLine)
    (q : ∀ h', Heap.DictOf knd h' d (merged kvs more) → Heap.SameBut d s.heap h' → Q () { s with heap := h' }) : wpAny (model P w) A (mergeMapping d (.ref a) false) Q E s := by
  unfold mergeMapping
  obtain ⟨o, es, ep, ho, hx, hd, hks, hp, hn⟩ := id h
  obtain ⟨o2, es2, ep2, ho2, hx2, hd2, hks2, hp2, hn2⟩ := id h2
  have hz2 : es2.size = more.length := by
    have := hp2.length
    rwa [Array.length_toList] at this
  refine wpAny_bind (wpAny_isInstance h2.typeIs (b := true) (by kernel_rfl) ?_)
  rw [if_pos rfl]
  refine wpAny_bind (wpAny_specialOf h2.typeIs (r := some (.builtin "dict.__iter__")) (by rw [typeLookup_type, builtinLookup_eq_fast]; kernel_rfl) ?_)
  refine wpAny_bind (wpAny_pure ?_)
  rw [show (some (Value.builtin "dict.__iter__") == some (Value.builtin "dict.__iter__")) = true from by decide +kernel]
  dsimp only
  rw [if_neg (by rw [hsys]; simp)]
  refine wpAny_bind (wpAny_dictEntries ho hd ?_)
  have body : ∀ (i : Nat) (s1 : Shared) (e : DictEntry), es2[i]? = some e → True := fun _ _ _ _ => trivial
  by_cases c : es.isEmpty = true
  · rw [if_pos c]
    refine wpAny_bind (wpAny_dictEntries ho2 hd2 ?_)
    refine wpAny_bind (wpAny_mono (Q := fun _ s1 => s1 = s) (wpAny_forIn_array' _ (fun l _ s1 => s1 = s ∧ ∀ e ∈ l, carriedByValue e.key = true) _ ?_ (fun _ _ z => z.1) _ _ ⟨rfl, fun e he => ?_⟩) (fun _ s1 z => ?_) (fun _ _ z => z))
    · rintro e rest b s1 ⟨rfl, hl⟩
      have hk := hl e List.mem_cons_self
      have hr : ∀ e ∈ rest, carriedByValue e.key = true := fun e he => hl e (List.mem_cons_of_mem _ he)
      cases hkey : e.key with
      | ref r => rw [hkey] at hk; cases hk
      | _ => exact wpAny_pure ⟨rfl, hr⟩
    · obtain ⟨k, hk, _⟩ := hks2 e (Array.mem_toList_iff.mp he)
      exact knd.byValue k _ hk
    subst z
    refine wpAny_bind (wpAny_dictEntries ho2 hd2 ?_)
    refine wpAny_bind (wpAny_dictEpoch ho2 hd2 ?_)
    refine wpAny_bind (mm_loop hne h hsz ho2 hd2 hks2 hp2 (fun i s1 e Q' he ha hq => ?_) fun h' h1 h2 => wpAny_pure (q h' h1 h2))
    refine wpAny_bind (wpAny_dictEntries ha hd2 ?_)
    rw [he]
    dsimp only
    refine wpAny_bind (wpAny_holding ?_)
    rw [if_neg (by simp)]
    refine wpAny_mono hq (fun _ s2 z => ?_) (fun _ _ z => z)
    refine wpAny_bind (wpAny_dictEpoch z.1 hd2 ?_)
    rw [if_neg (by simp)]
    exact wpAny_pure z.2
  · rw [if_neg c]
    refine wpAny_bind (wpAny_dictEntries ho2 hd2 ?_)
    refine wpAny_bind (wpAny_dictEpoch ho2 hd2 ?_)
    refine wpAny_bind (mm_loop hne h hsz ho2 hd2 hks2 hp2 (fun i s1 e Q' he ha hq => ?_) fun h' h1 h2 => wpAny_pure (q h' h1 h2))
    refine wpAny_bind (wpAny_dictEntries ha hd2 ?_)
    rw [he]
    dsimp only
    refine wpAny_bind (wpAny_holding ?_)
    rw [if_neg (by simp)]
    refine wpAny_mono hq (fun _ s2 z => ?_) (fun _ _ z => z)
    refine wpAny_bind (wpAny_dictEpoch z.1 hd2 ?_)
    rw [if_neg (by simp)]
    exact wpAny_pure z.2
end
open L2
section
variable {X : Cx}
theorem v_merge {pins : List (Addr × Obj)} {σ : List (Option V)} {H : Hp} {s : Shared} {d a : Addr} {kvs more : List (Key × V)} {A : Around} {E : Value → Shared → Prop} {Q : Unit → Shared → Prop} (I : Inv X pins σ H s) (hd : H d = some (.dK kvs)) (ha : H a = some (.dK more)) (hne : d ≠ a) (hsz : kvs.length + more.length ≤ sizeLine)
    (q : ∀ s', Inv X pins σ (upd H d (.dK (mergeK kvs more))) s' → Q () s') : wpAny (model X.prog X.w) A (mergeMapping d (.ref a) false) Q E s := by
  obtain ⟨_, hs1, vs, kv1, D1⟩ := dk_of I.hok hd
  obtain ⟨_, hs2, ws, kv2, D2⟩ := dk_of I.hok ha
  refine wp_mergeMapping (knd := mixKind X.prog X.w) hne hs2 D1 D2 (by rw [← kv1.length, ← kv2.length]; exact hsz) fun h' D' sb => q _ ?_
  refine I.write (x := d) (e := d) (o := .dK (mergeK kvs more)) (t' := s.toks) (by rw [hd]; exact trivial) (.inl rfl) (fun b u hb e => (sb.2 b hb).trans e) ?_ (dk_new (Nat.le_trans (length_mergeK _ _) hsz) hs1 (kv2.merge kv1) D')
  obtain ⟨o, _, _, ho, _⟩ := D'
  exact ⟨o, ho⟩
def tDispMM (t1 t2 : TE) : TE := fun σ H Q => ∀ p, H p = none → t1 σ (upd H p (.dK [])) fun x H1 => ∃ (a : Addr) (kvs : List (Key × V)), x = V.ref a ∧ p ≠ a ∧ H1 p = some (.dK []) ∧ H1 a = some (.dK kvs) ∧
  t2 σ (upd H1 p (.dK (mergeK [] kvs))) fun y H2 => ∃ (b : Addr) (more : List (Key × V)), y = V.ref b ∧ p ≠ b ∧ H2 p = some (.dK (mergeK [] kvs)) ∧ H2 b = some (.dK more) ∧ (mergeK [] kvs).length + more.length ≤ sizeLine ∧ Q (.ref p) (upd H2 p (.dK (mergeK (mergeK [] kvs) more)))
theorem pe_dispMM {e1 e2 : Expr} {t1 t2 : TE} {pos : Pos} (h1 : PE X e1 t1) (h2 : PE X e2 t2) : PE X (.Dict [none, none] [e1, e2] pos) (tDispMM t1 t2) := by
  refine ⟨fun pins s σ H Q I h => ?_⟩
  rw [arm_eval_Dict]
  refine wpAny_bind (wpAny_standAt ?_)
  show wpAny _ _ (dictDisplay [(none, do let x ← eval e1 X.env; standAt pos; pure x), (none, do let x ← eval e2 X.env; standAt pos; pure x)]) _ _ _
  unfold dictDisplay
  simp only [List.forIn_cons, List.forIn_nil]
  refine wpAny_bind (wpAny_bind (wpAny_bind ?_))
  refine wp_if_pos (by rfl) (wpAny_pure ?_)
  dsimp only
  refine wpAny_bind (wpAny_alloc ?_)
  have big := I.big
  have I0 : Inv X pins σ (upd H s.heap.objs.size (.dK [])) { s with heap := s.heap.push { cls := .type "dict", data := .dict #[] } } := I.laid (t' := s.toks) (fun b u z => Heap.get?_push_of_some _ z) (Nat.le_refl _) (dk_empty _ big)
  have nP := I.hok.fresh (Nat.le_refl s.heap.objs.size)
  have h := h _ nP
  refine wpAny_bind (wpAny_holding (wpAny_bind (wpAny_mono (h1.run pins _ σ _ _ I0 h) (fun u s1 z => ?_) (fun _ _ z => z))))
  obtain ⟨x, H1, I1, rx, a, kvs, rfl, hne, hp, ha, h⟩ := z
  obtain rfl : u = Value.ref a := rx
  refine wpAny_bind (wpAny_standAt (wpAny_pure ?_))
  have hl : kvs.length ≤ sizeLine := (dk_of I1.hok ha).1
  refine wpAny_bind (wpAny_onRaise (wpAny_tryCatch (wpAny_onRaise (wpAny_holding (v_merge I1 hp ha hne (by simpa using hl) fun s2 I2 => ?_)))))
  refine wpAny_pure ?_
  dsimp only
  refine wpAny_bind (wpAny_bind ?_)
  refine wp_if_pos (by rfl) (wpAny_pure ?_)
  dsimp only
  refine wpAny_bind (wpAny_pure ?_)
  refine wpAny_bind (wpAny_holding (wpAny_bind (wpAny_mono (h2.run pins _ σ _ _ I2 h) (fun u s3 z => ?_) (fun _ _ z => z))))
  obtain ⟨x, H3, I3, rx, b, more, rfl, hne2, hp2, hb, hsz, h⟩ := z
  obtain rfl : u = Value.ref b := rx
  refine wpAny_bind (wpAny_standAt (wpAny_pure ?_))
  refine wpAny_bind (wpAny_onRaise (wpAny_tryCatch (wpAny_onRaise (wpAny_holding (v_merge I3 hp2 hb hne2 hsz fun s4 I4 => ?_)))))
  refine wpAny_pure ?_
  dsimp only
  refine wpAny_pure ?_
  refine wpAny_bind (wp_if_pos (by rfl) (wpAny_pure ?_))
  dsimp only
  exact wpAny_pure ⟨.ref _, _, I4, rfl, h⟩
def tDispMK (t1 tk tv : TE) : TE := fun σ H Q => ∀ p, H p = none → t1 σ (upd H p (.dK [])) fun x H1 => ∃ (a : Addr) (kvs : List (Key × V)), x = V.ref a ∧ p ≠ a ∧ H1 p = some (.dK []) ∧ H1 a = some (.dK kvs) ∧
  ∀ q, upd H1 p (.dK (mergeK [] kvs)) q = none → tk σ (upd (upd H1 p (.dK (mergeK [] kvs))) q (.dK [])) fun y H2 => tv σ H2 fun z H3 => ∃ k, y = kV k ∧ p ≠ q ∧ H3 p = some (.dK (mergeK [] kvs)) ∧ H3 q = some (.dK []) ∧ (mergeK [] kvs).length + 1 ≤ sizeLine ∧
    Q (.ref p) (upd (upd H3 q (.dK [(k, z)])) p (.dK (mergeK (mergeK [] kvs) [(k, z)])))
theorem pe_dispMK {e1 kx vx : Expr} {t1 tk tv : TE} {pos : Pos} (h1 : PE X e1 t1) (hk : PE X kx tk) (hv : PE X vx tv) : PE X (.Dict [none, some kx] [e1, vx] pos) (tDispMK t1 tk tv) := by
  refine ⟨fun pins s σ H Q I h => ?_⟩
  rw [arm_eval_Dict]
  refine wpAny_bind (wpAny_standAt ?_)
  show wpAny _ _ (dictDisplay [(none, do let x ← eval e1 X.env; standAt pos; pure x), (some (eval kx X.env), do let x ← eval vx X.env; standAt pos; pure x)]) _ _ _
  unfold dictDisplay
  simp only [List.forIn_cons, List.forIn_nil]
  refine wpAny_bind (wpAny_bind (wpAny_bind ?_))
  refine wp_if_pos (by rfl) (wpAny_pure ?_)
  dsimp only
  refine wpAny_bind (wpAny_alloc ?_)
  have big := I.big
  have I0 : Inv X pins σ (upd H s.heap.objs.size (.dK [])) { s with heap := s.heap.push { cls := .type "dict", data := .dict #[] } } := I.laid (t' := s.toks) (fun b u z => Heap.get?_push_of_some _ z) (Nat.le_refl _) (dk_empty _ big)
  have nP := I.hok.fresh (Nat.le_refl s.heap.objs.size)
  have h := h _ nP
  refine wpAny_bind (wpAny_holding (wpAny_bind (wpAny_mono (h1.run pins _ σ _ _ I0 h) (fun u s1 z => ?_) (fun _ _ z => z))))
  obtain ⟨x, H1, I1, rx, a, kvs, rfl, hne, hp, ha, h⟩ := z
  obtain rfl : u = Value.ref a := rx
  refine wpAny_bind (wpAny_standAt (wpAny_pure ?_))
  have hl : kvs.length ≤ sizeLine := (dk_of I1.hok ha).1
  refine wpAny_bind (wpAny_onRaise (wpAny_tryCatch (wpAny_onRaise (wpAny_holding (v_merge I1 hp ha hne (by simpa using hl) fun s2 I2 => ?_)))))
  refine wpAny_pure ?_
  dsimp only
  refine wpAny_bind (wpAny_pure ?_)
  dsimp only
  refine wpAny_pure ?_
  refine wpAny_bind ?_
  dsimp only
  refine wpAny_bind (wpAny_holding (wpAny_subDict_any (by show 1 ≤ 15; decide) ?_))
  have I3 : Inv X pins σ (upd (upd H1 s.heap.objs.size (.dK (mergeK [] kvs))) s2.heap.objs.size (.dK [])) { s2 with heap := s2.heap.push { cls := .type "dict", data := .dict #[] } } := I2.laid (t' := s2.toks) (fun b u z => Heap.get?_push_of_some _ z) (Nat.le_refl _) (dk_empty _ I2.big)
  have h := h _ (I2.hok.fresh (Nat.le_refl s2.heap.objs.size))
  rw [List.nil_append]
  simp only [evalPairs, storeAll, List.forIn_cons, List.forIn_nil]
  refine wpAny_bind (wpAny_mono (hk.run pins _ σ _ _ I3 h) (fun uk s4 z => ?_) (fun _ _ z => z))
  obtain ⟨y, H4, I4, ry, h⟩ := z
  refine wpAny_bind (wpAny_holding (wpAny_bind (wpAny_mono (hv.run pins _ σ _ _ I4 h) (fun uv s5 z => ?_) (fun _ _ z => z))))
  obtain ⟨zz, H5, I5, rz, k, rfl, hpq, hp5, hq5, hsz, h⟩ := z
  refine wpAny_bind (wpAny_standAt (wpAny_pure ?_))
  refine wpAny_bind (wpAny_holding (wpAny_pure (wpAny_pure ?_)))
  simp only [List.forIn_cons, List.forIn_nil]
  refine wpAny_bind (wpAny_bind (d_dictSet I5 hq5 (by show 0 < sizeLine; decide) ry rz fun s6 I6 => wpAny_pure ?_))
  dsimp only
  refine wpAny_pure ?_
  have hp6 : upd H5 s2.heap.objs.size (.dK (putK [] k zz)) s.heap.objs.size = some (.dK (mergeK [] kvs)) := by rw [upd_ne hpq]; exact hp5
  refine wpAny_bind (wpAny_onRaise (wpAny_holding (v_merge I6 hp6 upd_same hpq (by show (mergeK [] kvs).length + 1 ≤ sizeLine; exact hsz) fun s7 I7 => ?_)))
  refine wpAny_pure ?_
  dsimp only
  exact wpAny_pure ⟨.ref _, _, I7, rfl, h⟩
end
end KX

set_option Elab.async false
set_option maxRecDepth 100000
set_option maxHeartbeats 2000000
/-! f"{n:>6}", "c" * n, o[i] = v and o[i] by own methods. -/
namespace KX
open PySem PySem.Spec PySem.Calls PyProof.Rows L2
/-- a number's text, at least n signs wide, to the right -/
def padL (n : Nat) (t : Str) : Str := ⟨(List.replicate (n - t.cps.size) 32 ++ t.cps.toList).toArray⟩
theorem digits_map (n : Nat) : (Nat.toDigits 10 n).map (fun c => Char.toNat (if (100 == 88) = true then Char.toUpper c else c)) = (Nat.toDigits 10 n).map Char.toNat := List.map_congr_left fun c _ => by rw [if_neg (by decide)]
theorem ofString_cps (s : String) : (Str.ofString s).cps.toList = s.toList.map Char.toNat := signs_ofString s
theorem toString_cps (a : Int) : (Str.ofString (toString a)).cps.toList = (if a < 0 then [45] else []) ++ (Nat.toDigits 10 a.natAbs).map Char.toNat := by
  rw [ofString_cps]
  cases a with
  | ofNat n =>
    rw [if_neg (by simp)]
    show (Nat.repr n).toList.map _ = _
    simp [Nat.repr]
  | negSucc n =>
    rw [if_pos (Int.negSucc_lt_zero n)]
    show ("-" ++ Nat.repr (n + 1)).toList.map _ = _
    simp [Nat.repr, String.toList_append]
theorem spec6 (a : Int) : intSpecTextOf (Str.ofString ">6") a = padL 6 (Str.ofString (toString a)) := by
  have hp : Builtin.Float.parseFormatSpec (Str.ofString ">6").cps.toList "int" 62 = .ok ⟨32, 62, none, false, false, some 6, none, none, none⟩ := by rfl
  have hd : (Nat.toDigits 10 a.natAbs).map Char.toNat ≠ [] := fun e => Nat.toDigits_ne_nil (List.map_eq_nil_iff.mp e)
  have hsz : (Str.ofString (toString a)).cps.size = (if a < 0 then 1 else 0) + ((Nat.toDigits 10 a.natAbs).map Char.toNat).length := by
    rw [← Array.length_toList, toString_cps, List.length_append]
    split <;> simp
  unfold padL
  rw [hsz, toString_cps, intSpecTextOf.eq_1, hp]
  dsimp only
  rw [intSpecText.eq_1, digits_map]
  generalize (Nat.toDigits 10 a.natAbs).map Char.toNat = ds at hd
  unfold intField'
  simp
  rw [if_neg hd]
  by_cases c : a < 0
  · rw [if_pos c, if_pos c]
    congr 1
    simp
    omega
  · rw [if_neg c, if_neg c]
    congr 1
    simp
theorem int_fmt6 {P : Program} {w : World} {A : Around} {E : Value → Shared → Prop} {s : Shared} {a : Int} {t t2 : Tok} {Q : Value → Shared → Prop} (hs : a.natAbs.log2 < 1920)
    (q : ∀ u, Q (.str (padL 6 (Str.ofString (toString a))) u) { s with toks := s.toks + 1 }) : wpAny (model P w) A (Builtin.«int.__format__» ⟨[.int a t, .str (Str.ofString ">6") t2], []⟩) (fun fin s' => ∃ v, fin = Fin.done (Flow.ret v) ∧ Q v s') E s := by
  have hp : Builtin.Float.parseFormatSpec (Str.ofString ">6").cps.toList "int" 62 = .ok ⟨32, 62, none, false, false, some 6, none, none, none⟩ := by rfl
  have e : padL 6 (Str.ofString (toString a)) = intSpecText ⟨32, 62, none, false, false, some 6, none, none, none⟩ a := by rw [← spec6, intSpecTextOf.eq_1, hp]
  rw [e] at q
  have hlen : (intSpecText ⟨32, 62, none, false, false, some 6, none, none, none⟩ a).length ≤ sizeLine := by
    rw [intSpecText_length a rfl rfl]
    have h1 : (Nat.toDigits 10 a.natAbs).length ≤ 1921 := by
      refine (Nat.length_toDigits_le_iff (by decide) (by decide)).mpr ?_
      have h2 : a.natAbs < 2 ^ 1920 := by
        by_cases c : a.natAbs = 0
        · rw [c]; exact Nat.two_pow_pos _
        · exact (Nat.log2_lt c).mp hs
      refine Nat.lt_of_lt_of_le h2 (Nat.le_trans (Nat.pow_le_pow_left (by decide : 2 ≤ 10) _) (Nat.pow_le_pow_right (by decide) (by decide)))
    show max 6 _ ≤ 16777216
    split <;> omega
  rw [intSpecText.eq_1] at q hlen
  unfold Builtin.«int.__format__»
  refine wpAny_bind (m := selfAndOne _ _) (wpAny_pure ?_)
  refine wpAny_bind (m := Builtin.Int.intOfSelf _) (wpAny_pure ?_)
  refine wpAny_bind (m := if ((Value.str (Str.ofString ">6") t2) == Value.none) = true then (pure "None" : Sem String) else typeNameOf (Value.str (Str.ofString ">6") t2)) ?_
  refine wp_if_neg (by simp) ?_
  have ty : Shared.TypeIs s (Value.str (Str.ofString ">6") t2) "str" := (rfl : typeOf (Value.str (Str.ofString ">6") t2) = pure (.type "str"))
  refine wpAny_typeNameOf ty (by decide) (fun n => ?_)
  dsimp only
  refine wpAny_bind (m := asStr? _) (wpAny_pure ?_)
  dsimp only
  refine wp_if_neg (by decide +kernel) ?_
  refine wp_if_neg (by decide +kernel) ?_
  refine wpAny_bind (wpAny_typeNameOfCut_int ?_)
  rw [hp]
  dsimp only
  refine wp_if_pos (by decide +kernel) ?_
  refine wpAny_bind (m := Builtin.overDigitLimit? a) ?_
  have ho : Builtin.overDigitLimit? a = pure none := by unfold Builtin.overDigitLimit?; rw [if_pos hs]
  rw [ho]
  refine wpAny_pure ?_
  dsimp only
  refine wpAny_bind (wpAny_mkStr (wpAny_pure ⟨_, rfl, ?_⟩) ?_)
  · exact q _
  · exact hlen
theorem formatField_6 {P : Program} {w : World} {A : Around} {E : Value → Shared → Prop} {s : Shared} {a : Int} {t : Tok} {Q : Value → Shared → Prop} (hs : a.natAbs.log2 < 1920)
    (q : ∀ u tk, Q (.str (padL 6 (Str.ofString (toString a))) u) { s with toks := tk }) : wpAny (model P w) A (formatField (.int a t) (Str.ofString ">6")) Q E s := by
  unfold formatField
  refine wpAny_holding ?_
  unfold pyFormat
  refine wpAny_bind (wpAny_mkStr ?_ (by decide +kernel))
  with_reducible refine wpAny_bind ?_
  with_reducible refine wpAny_callSpecial?_slot (typeIs_int _ _ _) slot_int_format ?_
  with_reducible refine wpAny_call_entry slot_int_format (typeIs_int _ _ _) entry_int_format ?_ (args_int_format _ _)
  with_reducible refine int_fmt6 hs (fun u => ?_)
  dsimp only
  generalize padL 6 (Str.ofString (toString a)) = txt at q
  have sub : isSubtype (.type "str") (.type "str") = pure true := by kernel_rfl
  have ty : ∀ (s : Shared) (u : Tok), Shared.TypeIs s (Value.str txt u) "str" := fun _ _ => rfl
  refine wpAny_bind (wpAny_isInstance (ty _ _) sub ?_)
  refine wp_if_pos rfl ?_
  exact wpAny_pure (q _ _)
def rMulS : V → V → Hp → VK → Prop := fun x y H Q => ∃ (c : Nat) (k : Int), x = V.str ⟨#[c]⟩ ∧ y = V.int k ∧ -16777216 < k ∧ k ≤ 16777216 ∧ Q (.str ⟨(List.replicate k.toNat c).toArray⟩) H
section
variable {X : Cx}
def tFmtP (n : Nat) (te : TE) : TE := fun σ H Q => te σ H fun x H1 => ∃ i : Int, x = V.int i ∧ i.natAbs.log2 < 1920 ∧ Q (.str (padL n (Str.ofString (toString i)))) H1
theorem pe_fmt6 {e : Expr} {te : TE} {p1 p2 pos : Pos} {k : Nat} (he : PE X e te) : PE X (.FormattedValue e (-1) (some (.JoinedStr [.Constant (.str ">6") k p1] p2)) pos) (tFmtP 6 te) := by
  refine ⟨fun pins s σ H Q I h => ?_⟩
  refine wpAny_FormattedValue_spec (wpAny_mono (he.run pins s σ H _ I h) (fun u s1 z => ?_) (fun _ _ z => z))
  obtain ⟨x, H1, I1, rx, i, rfl, hi, q⟩ := z
  obtain ⟨t, rfl⟩ := rx
  have c1 : PE X (.JoinedStr [.Constant (.str ">6") k p1] p2) (fun σ H Q => Q (.str (Str.ofString ">6")) H) := pe_joined1 pe_str
  have c2 := c1.run pins s1 σ H1 (fun x H2 => x = .str (Str.ofString ">6") ∧ H2 = H1) I1 ⟨rfl, rfl⟩
  refine wpAny_mono c2 (fun r s2 z => ?_) (fun _ _ z => z)
  obtain ⟨x2, H2, I2, rx2, e2, rfl⟩ := z
  subst e2
  obtain ⟨t2, rfl⟩ := rx2
  refine ⟨Str.ofString ">6", t2, rfl, ?_⟩
  exact formatField_6 hi fun u tk => ⟨.str _, _, I2.kept (t' := tk) fun _ _ z => z, ⟨_, rfl⟩, q⟩
theorem op_mulS : OpR X (binaryOp .Mult) rMulS := by
  intro pins s σ H x y v u Q I rx ry h
  obtain ⟨c, k, rfl, rfl, h1, h2, q⟩ := h
  obtain ⟨t, rfl⟩ := rx
  obtain ⟨t2, rfl⟩ := ry
  have l1 : Str.length (⟨#[c]⟩ : Str) = 1 := rfl
  have hlim : (decide (k < -2 ^ 63) || decide (k ≥ 2 ^ 63)) = false := by
    rw [decide_eq_false (by omega), decide_eq_false (by omega)]
    rfl
  refine P.mul_str hlim ?_ ?_ ?_
  · intro _ _
    rw [l1]
    have : (0 : Int) < k := by omega
    have h3 : (1 : Int) ≤ (2 ^ 63 - 1) / k := by
      refine (Int.le_ediv_iff_mul_le this).mpr ?_
      omega
    omega
  · intro _ _
    rw [l1, Nat.one_mul]
    unfold Builtin.Str.tooLong
    exact decide_eq_false (by show ¬ k.toNat > 16777216; omega)
  · have e : ∀ n : Nat, (List.foldl (fun x1 x2 => x1 ++ x2) #[] (List.replicate n #[c]) : Array Nat) = (List.replicate n c).toArray := by
      intro n
      have : ∀ (n : Nat) (acc : Array Nat), (List.foldl (fun x1 x2 => x1 ++ x2) acc (List.replicate n #[c]) : Array Nat) = acc ++ (List.replicate n c).toArray := by
        intro n
        induction n with
        | zero => intro acc; simp
        | succ n ih =>
          intro acc
          rw [List.replicate_succ, List.foldl_cons, ih, List.replicate_succ]
          apply Array.ext'
          simp
      rw [this]
      simp
    by_cases c1 : k < 1
    · rw [if_pos c1]
      rw [show k.toNat = 0 by omega] at q
      exact ⟨Nat.zero_le _, .str _, H, I.tok _, ⟨_, rfl⟩, q⟩
    · rw [if_neg c1]
      by_cases c2 : (k == 1 || Str.length (⟨#[c]⟩ : Str) == 0) = true
      · rw [if_pos c2]
        rw [l1] at c2
        have : k = 1 := by simpa using c2
        subst this
        exact ⟨.str _, H, I, ⟨_, rfl⟩, q⟩
      · rw [if_neg c2, e]
        have hl : (⟨(List.replicate k.toNat c).toArray⟩ : Str).length ≤ sizeLine := by
          show (List.replicate k.toNat c).toArray.size ≤ 16777216
          simp
          omega
        exact ⟨hl, .str _, H, I.tok _, ⟨_, rfl⟩, q⟩
variable {CX : CXT} {k : Nat} {f C : Addr} {fd : FuncData} {ps : List Str} {sp : Sp} {E : XK}
/-- o[i] = v -/
theorem set_ownI (m : Meth X.K C "__setitem__" f) (hns : PySem.W.noSeq X.K C = true) (F : FnOk X.prog X.w X.K X.mg X.base CX k f fd ps sp) (hr : Room k X.A) (hb : Binds X.K fd ps []) (hx : Passes CX X E) :
    PSet X (fun o i v H Q => ∃ a, o = .ref a ∧ InsT H a C ∧ sp [.ref a, i, v] H (fun _ H' => Q H') E) := by
  intro pins s σ H o i v ov iv u Q I ro ri rv h
  obtain ⟨a, rfl, hi, q⟩ := h
  cases (show ov = Value.ref a from ro)
  obtain ⟨ox, od, J⟩ := insT_at I hi
  obtain ⟨m', fr⟩ := I.fr
  refine PySem.W.ksp_setItem fr I.mod.kin J hns m.at_ m.fn (wpAny_mono (run_in0 F hr hb hx I (us := [.ref a, iv, u]) (vs := [.ref a, i, v]) (.cons rfl (.cons ri (.cons rv .nil))) q) (fun u s' z => ?_) fun _ _ z => z)
  obtain ⟨v', H', I', rv, q'⟩ := z
  exact ⟨H', I', q'⟩
end
end KX

set_option Elab.async false
set_option maxRecDepth 100000
set_option maxHeartbeats 2000000
/-! Boards as lists of rows (row, list, place), in the order in which they came. -/
namespace K08
open PySem PySem.Spec PyProof.Rows L2 He KX
theorem pr_imp {α β : Type} {R S : α → β → Prop} (f : ∀ a b, R a b → S a b) : ∀ {xs : List α} {ys : List β}, Paired R xs ys → Paired S xs ys
  | _, _, .nil => .nil
  | _, _, .cons h t => .cons (f _ _ h) (pr_imp f t)
theorem pr_app {α β : Type} {R : α → β → Prop} : ∀ {xs us : List α} {ys vs : List β}, Paired R xs ys → Paired R us vs → Paired R (xs ++ us) (ys ++ vs)
  | _, _, _, _, .nil, h => h
  | _, _, _, _, .cons h t, g => .cons h (pr_app t g)
abbrev Rw := Str × Str × Int
def putR (rows : List Rw) (r l : Str) (p : Int) : List Rw := if (rows.any fun x => decide (x.1 = r)) = true then rows.map (fun x => if x.1 = r then (x.1, l, p) else x) else rows ++ [(r, l, p)]
def dropR (rows : List Rw) (r : Str) : List Rw := rows.filter fun x => decide (x.1 ≠ r)
structure Ent (H : Hp) (kv : Key × V) (x : Rw) : Prop where
  k : kv.1 = .inr x.1
  v : ∃ t, kv.2 = V.ref t ∧ H t = some (.tup [V.str x.2.1, V.int x.2.2])
abbrev Ents (H : Hp) (kvs : List (Key × V)) (rows : List Rw) : Prop := Paired (Ent H) kvs rows
theorem Ent.same {H G : Hp} {kv : Key × V} {x : Rw} (h : Ent H kv x) (s : Same H G) : Ent G kv x := ⟨h.k, h.v.imp fun t h => ⟨h.1, s _ _ h.2⟩⟩
theorem Ent.kept {a : Addr} {H G : Hp} {kv : Key × V} {x : Rw} (h : Ent H kv x) (s : Kept a H G) (hn : ∀ zs, H a ≠ some (.tup zs)) : Ent G kv x :=
  ⟨h.k, h.v.imp fun t h => ⟨h.1, s _ _ (fun e => hn _ (e ▸ h.2)) h.2⟩⟩
theorem Ents.len {H : Hp} {kvs : List (Key × V)} {rows : List Rw} (h : Ents H kvs rows) : kvs.length = rows.length := Paired.length h
theorem Ents.keys {H : Hp} : ∀ {kvs : List (Key × V)} {rows : List Rw}, Ents H kvs rows → kvs.map (·.1) = rows.map fun x => (Sum.inr x.1 : Key)
  | _, _, .nil => rfl
  | _, _, .cons h t => by rw [List.map_cons, List.map_cons, h.k, Ents.keys t]
theorem Ents.any {H : Hp} (r : Str) : ∀ {kvs : List (Key × V)} {rows : List Rw}, Ents H kvs rows → (kvs.any fun kv => decide (kv.1 = (Sum.inr r : Key))) = rows.any fun x => decide (x.1 = r)
  | _, _, .nil => rfl
  | _, _, .cons h t => by
    rw [List.any_cons, List.any_cons, h.k, Ents.any r t]
    congr 1
    exact decide_eq_decide.mpr ⟨fun e => Sum.inr.inj e, fun e => congrArg _ e⟩
theorem Ents.repl {H : Hp} {r l : Str} {p : Int} {t : Addr} (ht : H t = some (.tup [V.str l, V.int p])) : ∀ {kvs : List (Key × V)} {rows : List Rw}, Ents H kvs rows →
    Ents H (kvs.map fun kv => if kv.1 = (Sum.inr r : Key) then (kv.1, V.ref t) else kv) (rows.map fun x => if x.1 = r then (x.1, l, p) else x)
  | _, _, .nil => .nil
  | kv :: _, x :: _, .cons h t' => by
    refine .cons ?_ (Ents.repl ht t')
    dsimp only
    by_cases e : x.1 = r
    · rw [if_pos e, if_pos (h.k.trans (congrArg _ e))]
      exact ⟨h.k, t, rfl, ht⟩
    · rw [if_neg e, if_neg fun z => e (Sum.inr.inj (h.k.symm.trans z))]
      exact h
theorem Ents.put {H : Hp} {kvs : List (Key × V)} {rows : List Rw} (h : Ents H kvs rows) {r l : Str} {p : Int} {t : Addr} (ht : H t = some (.tup [V.str l, V.int p])) : Ents H (putK kvs (.inr r) (V.ref t)) (putR rows r l p) := by
  unfold putK putR
  rw [h.any r]
  split
  · exact h.repl ht
  · exact pr_app h (.cons ⟨rfl, t, rfl, ht⟩ .nil)
theorem putR_len (rows : List Rw) (r l : Str) (p : Int) : (putR rows r l p).length ≤ rows.length + 1 := by
  unfold putR
  split
  · rw [List.length_map]; omega
  · rw [List.length_append]; exact Nat.le_refl _
theorem putR_names (rows : List Rw) (r l : Str) (p : Int) (h : (rows.map (·.1)).Nodup) : ((putR rows r l p).map (·.1)).Nodup := by
  unfold putR
  split
  · rw [List.map_map]
    rw [show ((fun x : Rw => x.1) ∘ fun x => if x.1 = r then (x.1, l, p) else x) = fun x => x.1 from funext fun x => by dsimp only [Function.comp]; split <;> rfl]
    exact h
  · rename_i hn
    rw [List.map_append]
    refine List.nodup_append.mpr ⟨h, by simp, ?_⟩
    intro a ha b hb
    rw [List.map_cons, List.map_nil, List.mem_singleton] at hb
    rintro rfl
    obtain ⟨x, hx, e⟩ := List.mem_map.mp ha
    exact hn (List.any_eq_true.mpr ⟨x, hx, decide_eq_true (e.trans hb)⟩)
theorem mergeK_nil {kvs : List (Key × V)} (h : (kvs.map (·.1)).Nodup) : mergeK [] kvs = kvs := by
  have : ∀ (kvs acc : List (Key × V)), ((acc ++ kvs).map (·.1)).Nodup → mergeK acc kvs = acc ++ kvs := by
    intro kvs
    induction kvs with
    | nil => intro acc _; simp [mergeK]
    | cons kv r ih =>
      intro acc hn
      unfold mergeK
      rw [List.foldl_cons]
      have hnot : (acc.any fun x => decide (x.1 = kv.1)) = false := by
        rw [List.any_eq_false]
        intro x hx
        rw [List.map_append, List.nodup_append] at hn
        have := hn.2.2 x.1 (List.mem_map_of_mem hx) kv.1 (by simp)
        simpa using this
      have e : putK acc kv.1 kv.2 = acc ++ [kv] := by
        unfold putK
        rw [hnot]
        rfl
      rw [e]
      have := ih (acc ++ [kv]) (by rw [List.append_assoc]; exact hn)
      unfold mergeK at this
      rw [this, List.append_assoc]
      rfl
  have := this kvs [] (by simpa using h)
  simpa using this
theorem keys_nodup {H : Hp} {kvs : List (Key × V)} {rows : List Rw} (h : Ents H kvs rows) (hn : (rows.map (·.1)).Nodup) : (kvs.map (·.1)).Nodup := by
  rw [h.keys]
  have : (rows.map fun x => (Sum.inr x.1 : Key)) = (rows.map (·.1)).map Sum.inr := by rw [List.map_map]; rfl
  rw [this]
  exact List.Pairwise.map _ (fun a b h e => h (Sum.inr.inj e)) hn
/-- a board -/
def BdAt (K : PySem.W.Frag) (H : Hp) (a : Addr) (rows : List Rw) : Prop :=
  ∃ dx d kvs, H a = some (.ins (ga K "Board") dx [("_spots", V.ref d)]) ∧ H d = some (.dK kvs) ∧ Ents H kvs rows ∧ (rows.map (·.1)).Nodup
/-- a dict of rows -/
def MdAt (H : Hp) (d : Addr) (rows : List Rw) : Prop := ∃ kvs, H d = some (.dK kvs) ∧ Ents H kvs rows ∧ (rows.map (·.1)).Nodup
theorem BdAt.same {K : PySem.W.Frag} {H G : Hp} {a : Addr} {rows : List Rw} (h : BdAt K H a rows) (s : Same H G) : BdAt K G a rows := by
  obtain ⟨dx, d, kvs, h1, h2, h3, h4⟩ := h
  exact ⟨dx, d, kvs, s _ _ h1, s _ _ h2, pr_imp (fun _ _ z => z.same s) h3, h4⟩
theorem BdAt.kept {K : PySem.W.Frag} {H G : Hp} {a b : Addr} {rows : List Rw} (h : BdAt K H a rows) (s : Kept b H G) (hab : a ≠ b) (hn : ∀ zs, H b ≠ some (.tup zs)) (hd : ∀ kvs, H b ≠ some (.dK kvs)) : BdAt K G a rows := by
  obtain ⟨dx, d, kvs, h1, h2, h3, h4⟩ := h
  exact ⟨dx, d, kvs, s _ _ hab h1, s _ _ (fun e => hd _ (e ▸ h2)) h2, pr_imp (fun _ _ z => z.kept s hn) h3, h4⟩
theorem MdAt.kept {H G : Hp} {d b : Addr} {rows : List Rw} (h : MdAt H d rows) (s : Kept b H G) (hab : d ≠ b) (hn : ∀ zs, H b ≠ some (.tup zs)) : MdAt G d rows := by
  obtain ⟨kvs, h2, h3, h4⟩ := h
  exact ⟨kvs, s _ _ hab h2, pr_imp (fun _ _ z => z.kept s hn) h3, h4⟩
end K08

set_option Elab.async false
set_option maxRecDepth 100000
set_option maxHeartbeats 2000000
namespace K08
open PySem PySem.Spec PyProof.Rows L2 He KX
abbrev sBI : Stmt := inClass (top 13) 0
abbrev sBSet : Stmt := inClass (top 13) 2
abbrev sBHas : Stmt := inClass (top 13) 4
abbrev sBDrop : Stmt := inClass (top 13) 8
abbrev sBNames : Stmt := inClass (top 13) 11
abbrev sBShow : Stmt := inClass (top 13) 16
abbrev sBPairs : Stmt := inClass (top 13) 18
abbrev MtP (K : PySem.W.Frag) (x q : Str) (st : Stmt) (f : Addr) (fd : FuncData) : Prop := FunD K x q (defArgs st) (defBody st) (defScope st) [] [] f fd
structure Brd (K : PySem.W.Frag) : Prop where
  made : Mk K (ga K "Board") (ma K (ga K "Board") "__init__")
  cls : Cls K (ga K "Board")
  noat : NoAttr K (ga K "Board") "_spots"
  mth : ∀ m ∈ meths, Meth K (ga K "Board") m (ma K (ga K "Board") m)
  nos : PySem.W.noSeq K (ga K "Board") = true
theorem yes {b : Bool} {A B : Prop} (h : b = true) (a : A) : if b = true then A else B := by rw [if_pos h]; exact a
theorem no {b : Bool} {A B : Prop} (h : b = false) (a : B) : if b = true then A else B := by rw [if_neg (by rw [h]; decide)]; exact a
/-- a statement that is never reached -/
theorem ps_never {X : Cx} {st : Stmt} : PS X st (fun _ _ _ => False) := ⟨fun _ _ _ _ _ _ h => h.elim⟩
def spBI (K : PySem.W.Frag) : Sp := fun vs H Q _ => ∃ (a dx : Addr), vs = [.ref a] ∧ H a = some (.ins (ga K "Board") dx []) ∧ ∀ d, H d = none → Q .non (upd (upd H d (.dK [])) a (.ins (ga K "Board") dx [("_spots", V.ref d)]))
/-- the board's dict is a new one -/
def BdNew (K : PySem.W.Frag) (H H' : Hp) (a : Addr) : Prop := ∀ dx d, H' a = some (.ins (ga K "Board") dx [("_spots", V.ref d)]) → H d = none
theorem free_same {H G : Hp} (s : Same H G) {p : Addr} (h : G p = none) : H p = none := by
  cases e : H p with
  | none => rfl
  | some o => rw [s _ _ e] at h; cases h
def spSet (K : PySem.W.Frag) : Sp := fun vs H Q _ => ∃ (a t : Addr) (rows : List Rw) (r l : Str) (p : Int), vs = [.ref a, .ref t, .str r] ∧ BdAt K H a rows ∧ SqT K H t [.str l, .int p] ∧ isNm r = true ∧ isNm l = true ∧ rows.length ≤ 1000 ∧ ∀ H', Kept a H H' → BdAt K H' a (putR rows r l p) → BdNew K H H' a → Q .non H'
section
variable {P : Program} {w : World} {K : PySem.W.Frag} {mg : Str → Option Value} {base : Heap}
theorem scBI : FnScope ["self"] ["self"] (defScope sBI) := ⟨rfl, rfl, rfl, by decide +kernel, rfl, by decide +kernel, by decide +kernel⟩
theorem ok_bi {f : Addr} {fd : FuncData} (F : FunD K "__init__" "Board.__init__" (defArgs sBI) (defBody sBI) (defScope sBI) [] [] f fd) (S : Brd K) : FnOk P w K mg base CX0 1 f fd ["self"] (spBI K) := by
  refine F.ok scBI (fun vs H Q E h => ?_) (fun cdv A outer s H vs Q E hr h => ?_)
  · obtain ⟨a, dx, rfl, _⟩ := h
    rfl
  · obtain ⟨a, dx, rfl, ha, k⟩ := h
    refine ⟨_, PSs.nox (pss_one (ps_fld (pv 0) (pe_dnewK) rfl)), ?_⟩
    intro d nd
    refine ⟨_, rfl, a, _, dx, [], rfl, same_put nd _ _ ha, S.cls, S.noat, by decide, k d nd⟩
theorem scBSet : FnScope ["self", "at", "worth", "lst", "place"] ["self", "at", "worth"] (defScope sBSet) := ⟨rfl, rfl, rfl, by decide +kernel, rfl, by decide +kernel, by decide +kernel⟩
theorem ok_bset {f fN fI : Addr} {fd fdN fdI : FuncData} (F : MtP K "__setitem__" "Board.__setitem__" sBSet f fd) (S : Brd K)
    (GN : FnOk P w K mg base CX0 1 fN fdN ["thing"] (spName K)) (bN : Binds K fdN ["thing"] []) (kN : PySem.W.keepIn K (.ref fN) = true) (gN : mg "is_name" = some (.ref fN))
    (GI : FnOk P w K mg base CX0 1 fI fdI ["thing"] (spInt K)) (bI : Binds K fdI ["thing"] []) (kI : PySem.W.keepIn K (.ref fI) = true) (gI : mg "is_integer" = some (.ref fI)) : FnOk P w K mg base CX0 2 f fd ["self", "at", "worth"] (spSet K) := by
  refine F.ok scBSet (fun vs H Q E h => ?_) (fun cdv A outer s H vs Q E hr h => ?_)
  · obtain ⟨a, t, rows, r, l, p, rfl, _⟩ := h
    rfl
  · obtain ⟨a, t, rows, r, l, p, rfl, hB, hT, hr', hl', hlen, k⟩ := h
    have nd := scBSet.nd
    have hr1 := hr.mono (j := 1) (by decide)
    have hnr := nm_inv hr'
    have hnl := nm_inv hl'
    refine ⟨_, PSs.nox (pss_cons (ps_asg (pv 1) (pg_tup rfl (pgs_cons (pg_name (i := 3) nd rfl (Or.inl rfl)) (pgs_cons (pg_name (i := 4) nd rfl (Or.inl rfl)) pgs_nil))))
(pss_cons (ps_if (pt_not (pt_val (pe_call GN hr1 (by rfl) gN kN bN .nil pass0 (pa_cons (pv 3) pa_nil))))
(pss_one (ps_never))
pss_nil)
(pss_cons (ps_if (pt_not (pt_val (pe_call GI hr1 (by rfl) gI kI bI .nil pass0 (pa_cons (pv 4) pa_nil))))
(pss_one (ps_never))
pss_nil)
(pss_cons (ps_if (pt_not (pt_val (pe_call GN hr1 (by rfl) gN kN bN .nil pass0 (pa_cons (pv 2) pa_nil))))
(pss_one (ps_never))
pss_nil)
(pss_one (ps_fld (pv 0) (pe_dispMK (pe_fld (pv 0) rfl) (pv 2) (pe_tup (pa_cons (pv 3) (pa_cons (pv 4) pa_nil)))) rfl)))))), ?_⟩
    refine ⟨_, rfl, _, _, rfl, hT, rfl, _, _, rfl, _, _, rfl, rfl, ?_⟩
    dsimp only [gName, List.set]
    refine ⟨_, rfl, _, .str l, rfl, .str l, fun z e => ?_, fun H1 s1 => ⟨_, rfl, ?_⟩⟩
    · cases e
      omega
    rw [show nmD (.str l) = true from hl']
    refine no rfl ?_
    refine ⟨_, rfl, _, .int p, rfl, .int p, _, rfl, no rfl ?_⟩
    refine ⟨_, rfl, _, .str r, rfl, .str r, fun z e => ?_, fun H2 s2 => ⟨_, rfl, ?_⟩⟩
    · cases e
      omega
    rw [show nmD (.str r) = true from hr']
    refine no rfl ?_
    obtain ⟨dx, d, kvs, ha, hd, hE, hN⟩ := hB.same (s1.trans s2)
    have hml := mergeK_nil (keys_nodup hE hN)
    refine fun p1 np1 => ⟨_, rfl, a, _, dx, _, _, rfl, same_put np1 _ _ ha, S.cls, S.noat, rfl, d, kvs, rfl, fun e => ?_, upd_same, same_put np1 _ _ hd, fun q nq => ?_⟩
    · exact absurd (e ▸ np1) (by rw [hd]; simp)
    rw [hml] at nq ⊢
    have g1 : Same H2 (upd (upd H2 p1 (.dK [])) p1 (.dK kvs)) := fun x o e => by
      have hx : x ≠ p1 := ne_of_none e np1
      rw [upd_ne hx, upd_ne hx]
      exact e
    have gp : upd (upd H2 p1 (.dK [])) p1 (.dK kvs) p1 = some (.dK kvs) := upd_same
    generalize upd (upd H2 p1 (.dK [])) p1 (.dK kvs) = G1 at nq g1 gp ⊢
    have hpq : p1 ≠ q := ne_of_none gp nq
    have g2 := same_put (o := .dK []) nq
    have gq : upd G1 q (.dK []) q = some (.dK []) := upd_same
    refine ⟨_, rfl, _, rfl, _, rfl, (by show 2 ≤ sizeLine; decide), fun T nT => ?_⟩
    have g3 := same_put (o := .tup [V.str l, V.int p]) nT
    have gT : upd (upd G1 q (.dK [])) T (.tup [V.str l, V.int p]) T = some (.tup [V.str l, V.int p]) := upd_same
    have gp3 := g3 _ _ (g2 _ _ gp)
    have gq3 := g3 _ _ gq
    have g13 : Same H2 (upd (upd G1 q (.dK [])) T (.tup [V.str l, V.int p])) := (g1.trans g2).trans g3
    have nTp : p1 ≠ T := ne_of_none (g2 _ _ gp) nT
    have nTq : q ≠ T := ne_of_none gq nT
    generalize upd (upd G1 q (.dK [])) T (.tup [V.str l, V.int p]) = G3 at g13 gT gp3 gq3
    have nap : a ≠ p1 := fun e => by rw [e] at ha; rw [ha] at np1; cases np1
    have haq : a ≠ q := fun e => by rw [← e] at nq; rw [g1 _ _ ha] at nq; cases nq
    have haT : a ≠ T := fun e => by
      have := g2 _ _ (g1 _ _ ha)
      rw [e, nT] at this
      cases this
    have hlen2 : kvs.length + 1 ≤ sizeLine := by rw [hE.len, sizeLine_eq]; omega
    refine ⟨.inr r, rfl, hpq, gp3, gq3, hlen2, _, rfl, a, _, dx, [("_spots", V.ref d)], rfl, ?_, S.cls, S.noat, (by show 1 < 1000; decide), ?_⟩
    · rw [upd_ne nap, upd_ne haq]
      exact g13 _ _ ha
    have kF : Kept a H2 (upd (upd (upd G3 q (.dK [(.inr r, V.ref T)])) p1 (.dK (mergeK kvs [(.inr r, V.ref T)]))) a (.ins (ga K "Board") dx [("_spots", V.ref p1)])) := fun x o nx e => by
      have h1 : x ≠ p1 := ne_of_none e np1
      have h2 : x ≠ q := ne_of_none (g1 _ _ e) nq
      rw [upd_ne nx, upd_ne h1, upd_ne h2]
      exact g13 _ _ e
    refine k _ (fun x o nx e => kF x o nx ((s1.trans s2) x o e)) ?_ (fun dx' d' e => ?_)
    rotate_left
    · rw [upd_same] at e
      cases e
      exact free_same (s1.trans s2) np1
    refine ⟨dx, p1, putK kvs (.inr r) (V.ref T), upd_same, ?_, ?_, putR_names rows r l p hN⟩
    · rw [upd_ne nap.symm, upd_same]
      rfl
    · have hn : ∀ zs, H2 a ≠ some (.tup zs) := fun zs e => by
        rw [ha] at e
        cases e
      refine Ents.put (pr_imp (fun _ _ z => z.kept kF hn) hE) ?_
      rw [upd_ne haT.symm, upd_ne nTp.symm, upd_ne nTq.symm]
      exact gT
end
end K08

set_option Elab.async false
set_option maxRecDepth 100000
set_option maxHeartbeats 1000000
/-! List comprehensions whose items are told one by one. -/
namespace KX
open PySem PySem.Spec PyProof.Rows L2
theorem take_fm {α β : Type} {f : α → Option β} {xs : List α} {i : Nat} {x : α} (e : xs[i]? = some x) : (xs.take (i + 1)).filterMap f = (xs.take i).filterMap f ++ (f x).toList := by
  rw [List.take_succ, e, List.filterMap_append]
  show _ ++ List.filterMap f [x] = _
  rw [List.filterMap_cons]
  cases f x <;> rfl
section
variable {K : PySem.W.Frag} {a D : Addr} {σ : L2.St} {vs : List Nat} {g : TG} {tt : TT} {te : TE} {H1 : Hp} {Qd : Hp → Prop}
theorem lc_walk {J : It} {xs : List V} (w : Walk J xs.length (fun H => Same H1 H) (YAt xs)) (nD : H1 D = none) (hn : xs.length ≤ 100000) (f : V → Option V)
    (hs : ∀ (i : Nat) (x : V) (G : Hp) (Qy : V → Hp → Prop) (Qn : Hp → Prop), xs[i]? = some x → Same H1 G → (∀ y H4, f x = some y → Same G H4 → Qy y H4) → (∀ H4, f x = none → Same G H4 → Qn H4) →
      g x (wipe σ vs) G fun σ2 H2 => wipe σ2 vs = wipe σ vs ∧ tt σ2 H2 fun b H3 => if b = true then te σ2 H3 Qy else Qn H3)
    (hd : ∀ G, Same H1 G → G D = some (.lst (xs.filterMap f)) → Qd G) :
    ∃ W : Nat → Nat → Hp → Prop, (∃ m, W 0 m (upd H1 D (.lst []))) ∧ ∀ i m H, W i m H →
      (J.stop i H ∧ Qd H) ∨ (J.go i H ∧ ∃ Nx : Hp → Prop, (∀ H', Nx H' → ∃ m', m' < m ∧ W (i + 1) m' H') ∧ ∀ x H', J.yld i H x H' → g x (wipe σ vs) H' fun σ2 H2 => wipe σ2 vs = wipe σ vs ∧ tt σ2 H2 fun b H3 =>
        if b = true then te σ2 H3 fun y H4 => ∃ acc, H4 D = some (.lst acc) ∧ acc.length < sizeLine ∧ Nx (upd H4 D (.lst (acc ++ [y]))) else Nx H3) := by
  refine lc_it w (fun i G => G D = some (.lst ((xs.take i).filterMap f)) ∧ Same H1 G) ⟨upd_same, same_put nD⟩ (fun _ _ _ h => h.2) ?_ ?_
  · rintro i x G' G hi ⟨hD, sG⟩ ⟨rfl, hx⟩
    have hl : ((xs.take i).filterMap f).length ≤ i := Nat.le_trans (List.length_filterMap_le _ _) (by rw [List.length_take]; omega)
    refine hs i x G _ _ hx sG (fun y H4 e s => ⟨_, s _ _ hD, (by rw [sizeLine_eq]; omega), ?_, fun u o eu => ?_⟩) (fun H4 e s => ⟨?_, sG.trans s⟩)
    · rw [upd_same, take_fm hx, e]
      rfl
    · rw [upd_ne (ne_of_none eu nD)]
      exact s _ _ (sG _ _ eu)
    · rw [take_fm hx, e]
      show H4 D = some (.lst (_ ++ []))
      rw [List.append_nil]
      exact s _ _ hD
  · rintro G ⟨hD, sG⟩
    rw [List.take_length] at hD
    exact hd G sG hD
theorem lcL {xs : List V} (ha : SqL K H1 a xs) (nD : H1 D = none) (hn : xs.length ≤ 100000) (f : V → Option V)
    (hs : ∀ (i : Nat) (x : V) (G : Hp) (Qy : V → Hp → Prop) (Qn : Hp → Prop), xs[i]? = some x → Same H1 G → (∀ y H4, f x = some y → Same G H4 → Qy y H4) → (∀ H4, f x = none → Same G H4 → Qn H4) →
      g x (wipe σ vs) G fun σ2 H2 => wipe σ2 vs = wipe σ vs ∧ tt σ2 H2 fun b H3 => if b = true then te σ2 H3 Qy else Qn H3)
    (hd : ∀ G, Same H1 G → G D = some (.lst (xs.filterMap f)) → Qd G) :
    ∃ W : Nat → Nat → Hp → Prop, (∃ m, W 0 m (upd H1 D (.lst []))) ∧ ∀ i m H, W i m H →
      ((Itl K a).stop i H ∧ Qd H) ∨ ((Itl K a).go i H ∧ ∃ Nx : Hp → Prop, (∀ H', Nx H' → ∃ m', m' < m ∧ W (i + 1) m' H') ∧ ∀ x H', (Itl K a).yld i H x H' → g x (wipe σ vs) H' fun σ2 H2 => wipe σ2 vs = wipe σ vs ∧ tt σ2 H2 fun b H3 =>
        if b = true then te σ2 H3 fun y H4 => ∃ acc, H4 D = some (.lst acc) ∧ acc.length < sizeLine ∧ Nx (upd H4 D (.lst (acc ++ [y]))) else Nx H3) :=
  lc_walk ((walk_list (K := K) (a := a) (xs := xs)).mono (fun H s => sqL_same s ha) fun _ _ _ _ _ _ y => y) nD hn f hs hd
theorem lcT {xs : List V} (ha : SqT K H1 a xs) (nD : H1 D = none) (hn : xs.length ≤ 100000) (f : V → Option V)
    (hs : ∀ (i : Nat) (x : V) (G : Hp) (Qy : V → Hp → Prop) (Qn : Hp → Prop), xs[i]? = some x → Same H1 G → (∀ y H4, f x = some y → Same G H4 → Qy y H4) → (∀ H4, f x = none → Same G H4 → Qn H4) →
      g x (wipe σ vs) G fun σ2 H2 => wipe σ2 vs = wipe σ vs ∧ tt σ2 H2 fun b H3 => if b = true then te σ2 H3 Qy else Qn H3)
    (hd : ∀ G, Same H1 G → G D = some (.lst (xs.filterMap f)) → Qd G) :
    ∃ W : Nat → Nat → Hp → Prop, (∃ m, W 0 m (upd H1 D (.lst []))) ∧ ∀ i m H, W i m H →
      ((Itt K a).stop i H ∧ Qd H) ∨ ((Itt K a).go i H ∧ ∃ Nx : Hp → Prop, (∀ H', Nx H' → ∃ m', m' < m ∧ W (i + 1) m' H') ∧ ∀ x H', (Itt K a).yld i H x H' → g x (wipe σ vs) H' fun σ2 H2 => wipe σ2 vs = wipe σ vs ∧ tt σ2 H2 fun b H3 =>
        if b = true then te σ2 H3 fun y H4 => ∃ acc, H4 D = some (.lst acc) ∧ acc.length < sizeLine ∧ Nx (upd H4 D (.lst (acc ++ [y]))) else Nx H3) :=
  lc_walk ((walk_tup (K := K) (a := a) (xs := xs)).mono (fun H s => sqT_same s ha) fun _ _ _ _ _ _ y => y) nD hn f hs hd
/-- over a list of whole numbers -/
theorem lcI {ns : List Int} (ha : SqL K H1 a (ns.map V.int)) (nD : H1 D = none) (hn : ns.length ≤ 100000) (f : Int → Option V)
    (hs : ∀ (i : Nat) (x : Int) (G : Hp) (Qy : V → Hp → Prop) (Qn : Hp → Prop), ns[i]? = some x → Same H1 G → (∀ y H4, f x = some y → Same G H4 → Qy y H4) → (∀ H4, f x = none → Same G H4 → Qn H4) →
      g (.int x) (wipe σ vs) G fun σ2 H2 => wipe σ2 vs = wipe σ vs ∧ tt σ2 H2 fun b H3 => if b = true then te σ2 H3 Qy else Qn H3)
    (hd : ∀ G, Same H1 G → G D = some (.lst (ns.filterMap f)) → Qd G) :
    ∃ W : Nat → Nat → Hp → Prop, (∃ m, W 0 m (upd H1 D (.lst []))) ∧ ∀ i m H, W i m H →
      ((Itl K a).stop i H ∧ Qd H) ∨ ((Itl K a).go i H ∧ ∃ Nx : Hp → Prop, (∀ H', Nx H' → ∃ m', m' < m ∧ W (i + 1) m' H') ∧ ∀ x H', (Itl K a).yld i H x H' → g x (wipe σ vs) H' fun σ2 H2 => wipe σ2 vs = wipe σ vs ∧ tt σ2 H2 fun b H3 =>
        if b = true then te σ2 H3 fun y H4 => ∃ acc, H4 D = some (.lst acc) ∧ acc.length < sizeLine ∧ Nx (upd H4 D (.lst (acc ++ [y]))) else Nx H3) := by
  refine lcL ha nD (by rw [List.length_map]; exact hn) (fun v => match v with | .int i => f i | _ => none) (fun i x G Qy Qn hx sG ky kn => ?_) (fun G sG hD => hd G sG ?_)
  · rw [List.getElem?_map] at hx
    obtain ⟨n, hn2, rfl⟩ := Option.map_eq_some_iff.mp hx
    exact hs i n G Qy Qn hn2 sG ky kn
  · rw [List.filterMap_map] at hD
    exact hD
end
theorem fm_some {α β : Type} {f : α → β} : ∀ xs : List α, (xs.filterMap fun x => some (f x)) = xs.map f
  | [] => rfl
  | x :: xs => by rw [List.filterMap_cons, List.map_cons, fm_some xs]
theorem fm_if {α β : Type} {p : α → Bool} {f : α → β} : ∀ xs : List α, (xs.filterMap fun x => if p x = true then some (f x) else none) = (xs.filter p).map f
  | [] => rfl
  | x :: xs => by
    rw [List.filterMap_cons, List.filter_cons]
    cases p x
    · exact fm_if xs
    · show f x :: _ = _
      rw [fm_if xs]
      rfl
end KX

set_option Elab.async false
set_option maxRecDepth 100000
set_option maxHeartbeats 2000000
namespace K08
open PySem PySem.Spec PyProof.Rows L2 He KX
abbrev Pr := Int × Str
def PrAt (H : Hp) (x : V) (q : Pr) : Prop := ∃ t, x = V.ref t ∧ H t = some (.tup [V.int q.1, V.str q.2])
def prD (q : Pr) : PyData := .tuple [.int q.1, .str q.2]
def prsL (rows : List Rw) (l : Str) : List Pr := (rows.filter fun x => decide (x.2.1 = l)).map fun x => (x.2.2, x.1)
def srtP (qs : List Pr) : List Pr := qs.mergeSort (PySem.W.dataLe false prD)
theorem PrAt.same {H G : Hp} {x : V} {q : Pr} (h : PrAt H x q) (s : Same H G) : PrAt G x q := h.imp fun t h => ⟨h.1, s _ _ h.2⟩
/-- what a reference to such a tuple holds -/
noncomputable def datP (H : Hp) (x : V) : PyData := match x with
  | .ref t => match H t with
    | some (.tup [.int p, .str r]) => .tuple [.int p, .str r]
    | _ => .none
  | _ => .none
theorem datP_of {H : Hp} {x : V} {q : Pr} (h : PrAt H x q) : datP H x = prD q := by
  obtain ⟨t, rfl, ht⟩ := h
  unfold datP
  dsimp only
  rw [ht]
  rfl
theorem pr_zip {α β : Type} {R : α → β → Prop} : ∀ {xs : List α} {ys : List β}, Paired R xs ys → ∃ zs : List (α × β), zs.map (·.1) = xs ∧ zs.map (·.2) = ys ∧ ∀ z ∈ zs, R z.1 z.2
  | _, _, .nil => ⟨[], rfl, rfl, fun _ h => absurd h (by simp)⟩
  | x :: _, y :: _, .cons h t => by
    obtain ⟨zs, h1, h2, h3⟩ := pr_zip t
    refine ⟨(x, y) :: zs, by rw [List.map_cons, h1], by rw [List.map_cons, h2], fun z hz => ?_⟩
    rcases List.mem_cons.mp hz with rfl | hz
    · exact h
    · exact h3 z hz
theorem zip_pr {α β : Type} {R : α → β → Prop} : ∀ {zs : List (α × β)}, (∀ z ∈ zs, R z.1 z.2) → Paired R (zs.map (·.1)) (zs.map (·.2))
  | [], _ => .nil
  | z :: zs, h => .cons (h z List.mem_cons_self) (zip_pr fun y hy => h y (List.mem_cons_of_mem _ hy))
/-- sorting by what they hold keeps references and what they hold side by side -/
theorem srt_pr {α β : Type} {R : α → β → Prop} {d : α → PyData} {e : β → PyData} (hde : ∀ x y, R x y → d x = e y) {xs : List α} {ys : List β} (h : Paired R xs ys) : Paired R (xs.mergeSort (PySem.W.dataLe false d)) (ys.mergeSort (PySem.W.dataLe false e)) := by
  obtain ⟨zs, rfl, rfl, h3⟩ := pr_zip h
  have e1 : ∀ a b : α × β, a ∈ zs → b ∈ zs → PySem.W.dataLe false d a.1 b.1 = PySem.W.dataLe false e a.2 b.2 := by
    intro a b ha hb
    unfold PySem.W.dataLe PySem.W.sortLe
    dsimp only
    rw [hde _ _ (h3 a ha), hde _ _ (h3 b hb)]
  have s1 : (zs.mergeSort fun a b => PySem.W.dataLe false e a.2 b.2).map (·.1) = (zs.map (·.1)).mergeSort (PySem.W.dataLe false d) :=
    List.map_mergeSort fun a ha b hb => (e1 a b ha hb).symm
  have s2 : (zs.mergeSort fun a b => PySem.W.dataLe false e a.2 b.2).map (·.2) = (zs.map (·.2)).mergeSort (PySem.W.dataLe false e) :=
    List.map_mergeSort fun a ha b hb => rfl
  rw [← s1, ← s2]
  exact zip_pr fun z hz => h3 z (List.mem_mergeSort.mp hz)
theorem dp_pr {K : PySem.W.Frag} {H : Hp} {x : V} {q : Pr} (h : PrAt H x q) : Dp K H x (prD q) := by
  obtain ⟨t, rfl, ht⟩ := h
  exact .tup (SqT.of ht) (.cons (.int _) (.cons (.str _) .nil))
theorem pr_at {α β : Type} {R : α → β → Prop} : ∀ {xs : List α} {ys : List β}, Paired R xs ys → ∀ {i : Nat} {x : α}, xs[i]? = some x → ∃ y, ys[i]? = some y ∧ R x y
  | _, _, .nil, _, _, e => by simp at e
  | _, _, .cons h t, 0, x, e => by
    cases e
    exact ⟨_, rfl, h⟩
  | _, _, .cons h t, i + 1, x, e => pr_at t (i := i) e
theorem pr_mem {α β : Type} {R : α → β → Prop} : ∀ {xs : List α} {ys : List β}, Paired R xs ys → ∀ x ∈ xs, ∃ y ∈ ys, R x y
  | _, _, .cons h t, x, hx => by
    rcases List.mem_cons.mp hx with rfl | hx
    · exact ⟨_, List.mem_cons_self, h⟩
    · obtain ⟨y, hy, hr⟩ := pr_mem t x hx
      exact ⟨y, List.mem_cons_of_mem _ hy, hr⟩
def spPairs (K : PySem.W.Frag) : Sp := fun vs H Q _ => ∃ (a : Addr) (rows : List Rw) (l : Str), vs = [.ref a, .str l] ∧ BdAt K H a rows ∧ rows.length ≤ 1000 ∧ ∀ p xs H', H p = none → Same H H' → H' p = some (.lst xs) → Paired (PrAt H') xs (srtP (prsL rows l)) → Q (.ref p) H'
section
variable {P : Program} {w : World} {K : PySem.W.Frag} {mg : Str → Option Value} {base : Heap}
theorem scBPairs : FnScope ["self", "lst", "row", "spot"] ["self", "lst"] (defScope sBPairs) := ⟨rfl, rfl, rfl, by decide +kernel, rfl, by decide +kernel, by decide +kernel⟩
theorem ok_pairs {f : Addr} {fd : FuncData} (F : MtP K "_pairs" "Board._pairs" sBPairs f fd) (S : Brd K) (n_sorted : mg "sorted" = none) : FnOk P w K mg base CX0 1 f fd ["self", "lst"] (spPairs K) := by
  refine F.ok scBPairs (fun vs H Q E h => ?_) (fun cdv A outer s H vs Q E hr h => ?_)
  · obtain ⟨a, rows, l, rfl, _⟩ := h
    rfl
  · obtain ⟨a, rows, l, rfl, hB, hlen, k⟩ := h
    have nd := scBPairs.nd
    have hu := hr.units
    refine ⟨_, PSs.nox (pss_one (ps_ret (pe_callB (cr_sortedDp hu) (by rfl) n_sorted (by decide +kernel) (pa_cons (pe_lock (pe_lc (own := [("row", 2), ("spot", 3)]) (g := (gTup K 2 (gCons (gName 2) (gCons (gName 3) gNil))))  rfl nd (pi_items (pe_fld (pv 0) rfl)) (blkOk_by (own := [("row", 2), ("spot", 3)]) (N := ["self", "lst", "row", "spot"]) (sc := defScope sBPairs) (by decide +kernel)) (fun _ _ _ _ _ => (pg_tup rfl (pgs_cons (pg_name (i := 2) nd rfl (Or.inl rfl) (.inr rfl)) (pgs_cons (pg_name (i := 3) nd rfl (Or.inl rfl) (.inr rfl)) pgs_nil)))) (fun _ _ _ _ _ => (pts_one (pt_cmpR op_eq (pe_ix (show IxR _ (rIxT K) from ix_tup) (pv 3) pe_int (fun _ _ => rfl)) (pv 1) (nomark _)))) (fun _ _ _ _ _ => (pe_tup (pa_cons (pe_ix (show IxR _ (rIxT K) from ix_tup) (pv 3) pe_int (fun _ _ => rfl)) (pa_cons (pv 2) pa_nil)))))) pa_nil)))), ?_⟩
    obtain ⟨dx, d, kvs, ha, hd, hE, hN⟩ := hB
    refine ⟨d, _, hd, trivial, fun od => ?_⟩
    have had : a ≠ d := fun e => by rw [e, hd] at ha; cases ha
    refine ⟨_, rfl, a, _, dx, _, _, rfl, (upd_ne had).trans ha, S.cls, S.noat, rfl, d, od, kvs, rfl, upd_same, fun D nD => ?_⟩
    have sHf : ∀ x o, x ≠ d → H x = some o → upd H d (.frz od (.dK kvs)) x = some o := fun x o n e => (upd_ne n).trans e
    have fd0 : upd H d (.frz od (.dK kvs)) d = some (.frz od (.dK kvs)) := upd_same
    have hE2 : Paired (Ent (upd H d (.frz od (.dK kvs)))) kvs rows := pr_imp (fun kv x z => ⟨z.k, z.v.imp fun t h => ⟨h.1, sHf _ _ (fun e => by rw [e, hd] at h; cases h.2) h.2⟩⟩) hE
    have back : ∀ G, Same (upd H d (.frz od (.dK kvs))) G → Same H (upd G d (.dK kvs)) := fun G sG x o e => by
      by_cases hx : x = d
      · subst hx
        rw [hd] at e
        rw [upd_same]
        exact e
      · rw [upd_ne hx]
        exact sG _ _ (sHf _ _ hx e)
    generalize upd H d (.frz od (.dK kvs)) = Hf at nD sHf fd0 hE2 back ⊢
    refine lc_it (walk_items (d := d) (o := od) (kvs := kvs)) (fun i G => ∃ xs, G D = some (.lst xs) ∧ Paired (PrAt G) xs (prsL (rows.take i) l) ∧ Same Hf G) ⟨[], upd_same, .nil, same_put nD⟩ (fun i G _ h => by obtain ⟨_, _, _, q⟩ := h; exact q _ _ fd0) ?_ ?_
    · rintro i x G' G hi ⟨xs, hD, hP, sG⟩ y
      obtain ⟨T, u, v, rfl, nT, rfl, hu', hv'⟩ := y
      obtain ⟨kv, hkv, hu2⟩ := Option.map_eq_some_iff.mp hu'
      obtain ⟨kv2, hkv2, hv2⟩ := Option.map_eq_some_iff.mp hv'
      rw [hkv] at hkv2
      obtain rfl := Option.some.inj hkv2
      obtain ⟨rw_, hrw, hent⟩ := pr_at hE2 hkv
      obtain ⟨rn, ln, pn⟩ := rw_
      obtain ⟨key, val⟩ := kv
      have ek : key = .inr rn := hent.k
      obtain ⟨t, et, ht⟩ := hent.v
      dsimp only at hu2 hv2 et ht
      subst ek
      subst et
      subst hv2
      obtain rfl : u = V.str rn := hu2.symm
      have sT := same_put (o := .tup [V.str rn, V.ref t]) nT
      have hT : upd G' T (.tup [V.str rn, V.ref t]) T = some (.tup [V.str rn, V.ref t]) := upd_same
      generalize upd G' T (.tup [V.str rn, V.ref t]) = G2 at sT hT
      have ht2 : G2 t = some (.tup [V.str ln, V.int pn]) := sT _ _ (sG _ _ ht)
      have hD2 := sT _ _ hD
      have hP2 : Paired (PrAt G2) xs (prsL (rows.take i) l) := pr_imp (fun _ _ z => z.same sT) hP
      have sG2 := sG.trans sT
      have etk : prsL (rows.take (i + 1)) l = prsL (rows.take i) l ++ (if decide (ln = l) = true then [(pn, rn)] else []) := by
        unfold prsL
        rw [flt_take hrw, List.map_append]
        dsimp only
        split <;> rfl
      refine ⟨_, _, rfl, SqT.of hT, rfl, _, _, rfl, _, _, rfl, rfl, rfl, ?_⟩
      refine ⟨_, rfl, t, _, _, _, rfl, rfl, SqT.of ht2, rfl, _, rfl, ?_⟩
      refine ⟨rfl, _, rfl, ?_⟩
      rw [str_dec]
      by_cases c : ln = l
      · rw [decide_eq_true c, if_pos rfl] at etk
        rw [decide_eq_true c, if_pos rfl]
        refine ⟨_, rfl, t, _, _, _, rfl, rfl, SqT.of ht2, rfl, _, rfl, (by show 2 ≤ sizeLine; decide), fun T2 nT2 => ?_⟩
        have sT2 := same_put (o := .tup [V.int pn, V.str rn]) nT2
        have hT2 : upd G2 T2 (.tup [V.int pn, V.str rn]) T2 = some (.tup [V.int pn, V.str rn]) := upd_same
        generalize upd G2 T2 (.tup [V.int pn, V.str rn]) = G3 at sT2 hT2
        have hxl : xs.length ≤ 1000 := by
          rw [Paired.length hP2, prsL, List.length_map]
          exact Nat.le_trans (List.length_filter_le _ _) (by rw [List.length_take]; omega)
        have sF : Same Hf (upd G3 D (.lst (xs ++ [V.ref T2]))) := fun x o e => by
          rw [upd_ne (ne_of_none e nD)]
          exact sT2 _ _ (sG2 _ _ e)
        have dD : ∀ t zs, G3 t = some (.tup zs) → t ≠ D := fun t zs e e2 => by
          rw [e2, sT2 _ _ hD2] at e
          cases e
        refine ⟨xs, sT2 _ _ hD2, (by rw [sizeLine_eq]; omega), xs ++ [V.ref T2], upd_same, ?_, sF⟩
        rw [etk]
        exact pr_app (pr_imp (fun _ _ z => z.imp fun t h => ⟨h.1, (upd_ne (dD _ _ (sT2 _ _ h.2))).trans (sT2 _ _ h.2)⟩) hP2) (.cons ⟨T2, rfl, (upd_ne (dD _ _ hT2)).trans hT2⟩ .nil)
      · rw [decide_eq_false c, if_neg (by decide), List.append_nil] at etk
        rw [decide_eq_false c, if_neg (by decide)]
        rw [etk]
        exact ⟨xs, hD2, hP2, sG2⟩
    · rintro G ⟨xs, hD, hP, sG⟩
      refine ⟨sG _ _ fd0, ?_⟩
      rw [hE.len, List.take_length] at hP
      have hb := back G sG
      have nDd : D ≠ d := fun e => by rw [e, fd0] at nD; cases nD
      have hD2 : upd G d (.dK kvs) D = some (.lst xs) := (upd_ne nDd).trans hD
      have hP2 : Paired (PrAt (upd G d (.dK kvs))) xs (prsL rows l) := pr_imp (fun x q z => z.imp fun t h => ⟨h.1, (upd_ne (fun e => by rw [e, sG _ _ fd0] at h; cases h.2)).trans h.2⟩) hP
      generalize upd G d (.dK kvs) = G2 at hb hD2 hP2
      have hxl : xs.length ≤ 1000 := by
        rw [Paired.length hP2, prsL, List.length_map]
        exact Nat.le_trans (List.length_filter_le _ _) hlen
      refine ⟨D, xs, datP G2, rfl, SqL.of hD2, fun x hx => ?_, ?_, ?_, fun x hx => ?_, fun p np => ?_⟩
      · obtain ⟨q, _, hq⟩ := pr_mem hP2 x hx
        rw [datP_of hq]
        exact dp_pr hq
      · intro a1 h1 a2 h2
        obtain ⟨x1, hx1, rfl⟩ := List.mem_map.mp h1
        obtain ⟨x2, hx2, rfl⟩ := List.mem_map.mp h2
        obtain ⟨q1, _, hq1⟩ := pr_mem hP2 x1 hx1
        obtain ⟨q2, _, hq2⟩ := pr_mem hP2 x2 hx2
        rw [datP_of hq1, datP_of hq2]
        rfl
      · refine .inl fun a1 h1 => ?_
        obtain ⟨x1, hx1, rfl⟩ := List.mem_map.mp h1
        obtain ⟨q1, _, hq1⟩ := pr_mem hP2 x1 hx1
        exact ⟨_, _, datP_of hq1⟩
      · obtain ⟨q1, _, hq1⟩ := pr_mem hP2 x hx
        rw [datP_of hq1]
        show 1 ≤ 60
        decide
      · have sp := same_put (o := .lst (srtD (datP G2) xs)) np
        exact k p _ _ (free_same hb np) (hb.trans sp) upd_same (pr_imp (fun _ _ z => z.same sp) (srt_pr (fun x y z => datP_of z) hP2))
end
end K08

set_option Elab.async false
set_option maxRecDepth 100000
set_option maxHeartbeats 2000000
namespace K08
open PySem PySem.Spec PyProof.Rows L2 He KX
-- ["self", "lines", "lst", "pairs", "place", "row"]
def leS : Str → Str → Bool := PySem.W.dataLe false PyData.str
/-- the names of the lists that have rows, ascending -/
def NmL (rows : List Rw) (ns : List Str) : Prop := ∃ L' : List Str, L'.Perm (uniqS (rows.map fun x => x.2.1)) ∧ ns = L'.mergeSort leS
def okR (x : Rw) : Prop := isNm x.1 = true ∧ isNm x.2.1 = true ∧ x.2.2.natAbs.log2 < 1920
def hdL (l : Str) (n : Nat) : Str := Str.empty ++ l ++ ": " ++ Str.ofString (toString (n : Int))
def lnL (q : Pr) : Str := Str.empty ++ padL 6 (Str.ofString (toString q.1)) ++ " " ++ q.2
def lns1 (rows : List Rw) (l : Str) : List Str := hdL l (prsL rows l).length :: (srtP (prsL rows l)).map lnL
def linesOf (rows : List Rw) (ns : List Str) : List Str := ns.flatMap (lns1 rows)
def spNames (K : PySem.W.Frag) : Sp := fun vs H Q _ => ∃ (a : Addr) (rows : List Rw), vs = [.ref a] ∧ BdAt K H a rows ∧ rows.length ≤ 1000 ∧ ∀ p ns H', H p = none → Same H H' → H' p = some (.lst (ns.map V.str)) → NmL rows ns → Q (.ref p) H'
section
variable {P : Program} {w : World} {K : PySem.W.Frag} {mg : Str → Option Value} {base : Heap}
theorem scBNames : FnScope ["self", "spot"] ["self"] (defScope sBNames) := ⟨rfl, rfl, rfl, by decide +kernel, rfl, by decide +kernel, by decide +kernel⟩
theorem ok_names {f : Addr} {fd : FuncData} (F : MtP K "list_names" "Board.list_names" sBNames f fd) (S : Brd K) (n_sorted : mg "sorted" = none) : FnOk P w K mg base CX0 1 f fd ["self"] (spNames K) := by
  refine F.ok scBNames (fun vs H Q E h => ?_) (fun cdv A outer s H vs Q E hr h => ?_)
  · obtain ⟨a, rows, rfl, _⟩ := h
    rfl
  · obtain ⟨a, rows, rfl, hB, hlen, k⟩ := h
    have nd := scBNames.nd
    have hu := hr.units
    refine ⟨_, PSs.nox (pss_one (ps_ret (pe_callB (cr_sortedX rfl hu) (by rfl) n_sorted (by decide +kernel) (pa_cons (pe_setFst rfl rfl (by decide +kernel) (by decide +kernel) (by decide +kernel) (pe_fld (pv 0) rfl)) pa_nil)))), ?_⟩
    obtain ⟨dx, d, kvs, ha, hd, hE, hN⟩ := hB
    have hlk := hE.len
    refine ⟨_, rfl, a, _, dx, _, _, rfl, ha, S.cls, S.noat, rfl, .inr (.inr (.inl ⟨rfl, .inl ⟨_, hd⟩⟩)), d, kvs, rfl, rfl, hd, fun v nv => ?_⟩
    have sv := same_put (o := ViewO v d) nv
    have hv : upd H v (ViewO v d) v = some (ViewO v d) := upd_same
    generalize upd H v (ViewO v d) = H1 at sv hv ⊢
    refine ⟨v, d, kvs, rows.map fun x => x.2.1, rfl, hv, sv _ _ hd, fun i k' v' e => ?_, ?_, ?_, fun D nD => ?_⟩
    · obtain ⟨x, hx, hent⟩ := pr_at hE e
      obtain ⟨t, e2, ht⟩ := hent.v
      exact ⟨t, _, _, e2, sv _ _ ht, by rw [List.getElem?_map, hx]; rfl⟩
    · rw [List.length_map]; exact hlk.symm
    · rw [hlk]
      show rows.length + 1 < 4096
      omega
    · have sD := same_put (o := SetXO P w D (uniqS (rows.map fun x => x.2.1))) nD
      refine ⟨D, _, rfl, upd_same, fun p L' hL np => ?_⟩
      exact k p _ _ (free_same (sv.trans sD) np) ((sv.trans sD).trans (same_put np)) upd_same ⟨L', hL, rfl⟩
theorem prs_ok {rows : List Rw} {l : Str} (h : ∀ x ∈ rows, okR x) : ∀ q ∈ srtP (prsL rows l), isNm q.2 = true ∧ q.1.natAbs.log2 < 1920 := by
  intro q hq
  unfold srtP at hq
  obtain ⟨x, hx, rfl⟩ := List.mem_map.mp (List.mem_mergeSort.mp hq)
  have := h x (List.mem_filter.mp hx).1
  exact ⟨this.1, this.2.2⟩
theorem nm_ok {rows : List Rw} {ns : List Str} (h : ∀ x ∈ rows, okR x) (hN : NmL rows ns) : (∀ l ∈ ns, isNm l = true) ∧ ns.length ≤ rows.length := by
  obtain ⟨L', hL, rfl⟩ := hN
  refine ⟨fun l hl => ?_, ?_⟩
  · have := (uniqS_mem l _).mp (hL.mem_iff.mp (List.mem_mergeSort.mp hl))
    obtain ⟨x, hx, rfl⟩ := List.mem_map.mp this
    exact (h x hx).2.1
  · rw [List.length_mergeSort, hL.length_eq]
    exact Nat.le_trans (uniqS_len _) (by rw [List.length_map]; exact Nat.le_refl _)
theorem prs_len (rows : List Rw) (l : Str) : (prsL rows l).length ≤ rows.length := by
  unfold prsL
  rw [List.length_map]
  exact List.length_filter_le _ _
theorem srt_len (rows : List Rw) (l : Str) : (srtP (prsL rows l)).length = (prsL rows l).length := List.length_mergeSort _
theorem txt_len {i : Int} (h : i.natAbs.log2 < 1920) : (Str.ofString (toString i)).length ≤ 1921 := int_text_len_1921 h
theorem small_log {n : Nat} (h : n ≤ 1000) : ((n : Int)).natAbs.log2 < 1920 := by
  rw [Int.natAbs_natCast]
  by_cases c : n = 0
  · subst c; decide
  · refine Nat.lt_of_lt_of_le ((Nat.log2_lt c).mpr (show n < 2 ^ 10 by omega)) (by decide)
theorem hd_len {l : Str} {n : Nat} (h : isNm l = true) (hn : n ≤ 1000) : (hdL l n).length ≤ 2000 := by
  unfold hdL
  have := (nm_inv h).2.1
  have := txt_len (small_log hn)
  have e1 : (": " : Str).length = 2 := by decide +kernel
  have e0 : Str.empty.length = 0 := rfl
  rw [Str.length_append, Str.length_append, Str.length_append, e1, e0]
  omega
theorem pad_len {n : Nat} {t : Str} (h : t.length ≤ 1921) (hn : n ≤ 10) : (padL n t).length ≤ 1940 := by
  unfold padL
  show (List.replicate _ _ ++ _).toArray.size ≤ _
  rw [List.size_toArray, List.length_append, List.length_replicate, Array.length_toList]
  have : t.cps.size = t.length := rfl
  omega
theorem ln_len {q : Pr} (h1 : isNm q.2 = true) (h2 : q.1.natAbs.log2 < 1920) : (lnL q).length ≤ 2000 := by
  unfold lnL
  have := (nm_inv h1).2.1
  have := pad_len (n := 6) (txt_len h2) (by decide)
  have e1 : (" " : Str).length = 1 := by decide +kernel
  have e0 : Str.empty.length = 0 := rfl
  rw [Str.length_append, Str.length_append, Str.length_append, e1, e0]
  omega
theorem lns_len {rows : List Rw} {ns : List Str} (h : ∀ x ∈ rows, okR x) (hN : NmL rows ns) (hl : rows.length ≤ 60) : (∀ z ∈ linesOf rows ns, z.length ≤ 2000) ∧ ∀ m, ((ns.take m).flatMap (lns1 rows)).length ≤ 3660 := by
  obtain ⟨h1, h2⟩ := nm_ok h hN
  refine ⟨fun z hz => ?_, fun m => ?_⟩
  · obtain ⟨l, hl2, hz⟩ := List.mem_flatMap.mp hz
    rcases List.mem_cons.mp hz with rfl | hz
    · exact hd_len (h1 l hl2) (by have := prs_len rows l; omega)
    · obtain ⟨q, hq, rfl⟩ := List.mem_map.mp hz
      have := prs_ok h q hq
      exact ln_len this.1 this.2
  · have : ∀ ls : List Str, (ls.flatMap (lns1 rows)).length ≤ ls.length * 61 := by
      intro ls
      induction ls with
      | nil => simp
      | cons l r ih =>
        rw [List.flatMap_cons, List.length_append, List.length_cons]
        have h3 : (lns1 rows l).length ≤ 61 := by
          unfold lns1
          rw [List.length_cons, List.length_map, srt_len]
          have := prs_len rows l
          omega
        omega
    have h4 := this (ns.take m)
    have h5 : (ns.take m).length ≤ 60 := by rw [List.length_take]; omega
    omega
theorem sum_le2 : ∀ {zs : List Str}, (∀ z ∈ zs, z.length ≤ 2000) → (zs.map fun x => x.length).sum ≤ zs.length * 2000
  | [], _ => by simp
  | z :: r, h => by
    rw [List.map_cons, List.sum_cons, List.length_cons]
    have := sum_le2 (zs := r) fun y hy => h y (List.mem_cons_of_mem _ hy)
    have := h z List.mem_cons_self
    omega
end
end K08

set_option Elab.async false
set_option maxRecDepth 100000
set_option maxHeartbeats 2000000
namespace K08
open PySem PySem.Spec PyProof.Rows L2 He KX
abbrev sLRows : Stmt := top 21
-- ["model", "lst", "place", "row"]
def spLRows (K : PySem.W.Frag) : Sp := fun vs H Q _ => ∃ (d : Addr) (rows : List Rw) (l : Str), vs = [.ref d, .str l] ∧ MdAt H d rows ∧ rows.length ≤ 1000 ∧ ∀ p H', H p = none → Same H H' → H' p = some (.lst (((srtP (prsL rows l)).map (·.2)).map V.str)) → Q (.ref p) H'
theorem val_at {H : Hp} {kvs : List (Key × V)} {rows : List Rw} (hE : Ents H kvs rows) (hN : (rows.map (·.1)).Nodup) {i : Nat} {kv : Key × V} (h : kvs[i]? = some kv) : valV kvs kv.1 = some kv.2 := by
  have hk := keys_nodup hE hN
  unfold valV
  have hi : i < kvs.length := (List.getElem?_eq_some_iff.mp h).1
  have : kvs.find? (fun x => decide (x.1 = kv.1)) = some kv := by
    rw [List.find?_eq_some_iff_getElem]
    refine ⟨by simp, i, hi, (List.getElem?_eq_some_iff.mp h).2, fun j hj => ?_⟩
    have hne := List.pairwise_iff_getElem.mp hk j i (by rw [List.length_map]; omega) (by rw [List.length_map]; exact hi) hj
    rw [List.getElem_map, List.getElem_map, (List.getElem?_eq_some_iff.mp h).2] at hne
    simpa using hne
  rw [this]
  rfl
section
variable {P : Program} {w : World} {K : PySem.W.Frag} {mg : Str → Option Value} {base : Heap}
theorem scLRows : FnScope ["model", "lst", "place", "row"] ["model", "lst"] (defScope sLRows) := ⟨rfl, rfl, rfl, by decide +kernel, rfl, by decide +kernel, by decide +kernel⟩
theorem ok_lrows {f : Addr} {fd : FuncData} (F : FnP K "_law_rows" sLRows f fd) (n_sorted : mg "sorted" = none) : FnOk P w K mg base CX0 1 f fd ["model", "lst"] (spLRows K) := by
  refine F.ok scLRows (fun vs H Q E h => ?_) (fun cdv A outer s H vs Q E hr h => ?_)
  · obtain ⟨d, rows, l, rfl, _⟩ := h
    rfl
  · obtain ⟨d, rows, l, rfl, hM, hlen, k⟩ := h
    have nd := scLRows.nd
    have hu64 := hr.units
    have hu := Nat.lt_of_le_of_lt (Nat.add_le_add_left (by decide : 1 ≤ 64) _) hr.units
    refine ⟨_, PSs.nox (pss_one (ps_ret (pe_lc (own := [("place", 2), ("row", 3)]) (g := (gTup K 2 (gCons (gName 2) (gCons (gName 3) gNil)))) (tt := tYes) rfl nd (pi_list (pe_callB (show CallR _ _ (rSortDp K) from cr_sortedDp hu64) (by rfl) n_sorted (by decide +kernel) (pa_cons (pe_lock (pe_lc (own := [("row", 3)]) (g := (gName 3))  rfl nd (pi_keys (pv 0)) (blkOk_by (own := [("row", 3)]) (N := ["model", "lst", "place", "row"]) (sc := defScope sLRows) (by decide +kernel)) (fun _ _ _ _ _ => (pg_name (i := 3) nd rfl (Or.inl rfl))) (fun _ _ _ _ _ => (pts_one (pt_cmpR op_eq (pe_ix (show IxR _ (rIxT K) from ix_tup) (pe_dget hu (pv 0) (pv 3) (fun _ _ => rfl)) pe_int (fun _ _ => rfl)) (pv 1) (nomark _)))) (fun _ _ _ _ _ => (pe_tup (pa_cons (pe_ix (show IxR _ (rIxT K) from ix_tup) (pe_dget hu (pv 0) (pv 3) (fun _ _ => rfl)) pe_int (fun _ _ => rfl)) (pa_cons (pv 3) pa_nil)))))) pa_nil))) (blkOk_by (own := [("place", 2), ("row", 3)]) (N := ["model", "lst", "place", "row"]) (sc := defScope sLRows) (by decide +kernel)) (fun _ _ _ _ _ => (pg_tup rfl (pgs_cons (pg_name (i := 2) nd rfl (Or.inl rfl) (.inr rfl)) (pgs_cons (pg_name (i := 3) nd rfl (Or.inl rfl) (.inr rfl)) pgs_nil)))) (fun _ _ _ _ _ => pts_nil) (fun _ _ _ _ _ => (pv 3))))), ?_⟩
    obtain ⟨kvs, hd, hE, hN⟩ := hM
    refine ⟨d, _, hd, trivial, fun od => ?_⟩
    have sHf : ∀ x o, x ≠ d → H x = some o → upd H d (.frz od (.dK kvs)) x = some o := fun x o n e => (upd_ne n).trans e
    have fd0 : upd H d (.frz od (.dK kvs)) d = some (.frz od (.dK kvs)) := upd_same
    have hE2 : Paired (Ent (upd H d (.frz od (.dK kvs)))) kvs rows := pr_imp (fun kv x z => ⟨z.k, z.v.imp fun t h => ⟨h.1, sHf _ _ (fun e => by rw [e, hd] at h; cases h.2) h.2⟩⟩) hE
    have back : ∀ G, Same (upd H d (.frz od (.dK kvs))) G → Same H (upd G d (.dK kvs)) := fun G sG x o e => by
      by_cases hx : x = d
      · subst hx
        rw [hd] at e
        rw [upd_same]
        exact e
      · rw [upd_ne hx]
        exact sG _ _ (sHf _ _ hx e)
    generalize upd H d (.frz od (.dK kvs)) = Hf at sHf fd0 hE2 back ⊢
    refine ⟨_, rfl, d, od, rfl, .inl ⟨kvs, fd0, fun D nD => ?_⟩⟩
    refine lc_it (walk_keys (d := d) (o := od) (kvs := kvs)) (fun i G => ∃ xs, G D = some (.lst xs) ∧ Paired (PrAt G) xs (prsL (rows.take i) l) ∧ Same Hf G) ⟨[], upd_same, .nil, same_put nD⟩ (fun i G _ h => by obtain ⟨_, _, _, q⟩ := h; exact q _ _ fd0) ?_ ?_
    · rintro i x G' G2 hi ⟨xs, hD2, hP2, sG2⟩ ⟨rfl, key, val, hkv, rfl⟩
      obtain ⟨rw_, hrw, hent⟩ := pr_at hE2 hkv
      obtain ⟨rn, ln, pn⟩ := rw_
      have ek : key = .inr rn := hent.k
      obtain ⟨t, et, ht⟩ := hent.v
      have hval := val_at hE hN hkv
      dsimp only at et ht hval
      subst ek
      subst et
      have ht2 : G2 t = some (.tup [V.str ln, V.int pn]) := sG2 _ _ ht
      have hget : DGet G2 d (V.str rn) (some (V.ref t)) := .inl ⟨kvs, .inr rn, .inr ⟨od, sG2 _ _ fd0⟩, rfl, hval.symm⟩
      have etk : prsL (rows.take (i + 1)) l = prsL (rows.take i) l ++ (if decide (ln = l) = true then [(pn, rn)] else []) := by
        unfold prsL
        rw [flt_take hrw, List.map_append]
        dsimp only
        split <;> rfl
      refine ⟨rfl, ?_⟩
      refine ⟨_, rfl, _, rfl, d, _, rfl, hget, t, _, _, _, rfl, rfl, SqT.of ht2, rfl, _, rfl, rfl, _, rfl, ?_⟩
      rw [str_dec]
      by_cases c : ln = l
      · rw [decide_eq_true c, if_pos rfl] at etk
        rw [decide_eq_true c, if_pos rfl]
        refine ⟨_, rfl, _, rfl, d, _, rfl, hget, t, _, _, _, rfl, rfl, SqT.of ht2, rfl, _, rfl, (by show 2 ≤ sizeLine; decide), fun T2 nT2 => ?_⟩
        have sT2 := same_put (o := .tup [V.int pn, kV (.inr rn)]) nT2
        have hT2 : upd G2 T2 (.tup [V.int pn, kV (.inr rn)]) T2 = some (.tup [V.int pn, V.str rn]) := upd_same
        generalize upd G2 T2 (.tup [V.int pn, kV (.inr rn)]) = G3 at sT2 hT2
        have hxl : xs.length ≤ 1000 := by
          rw [Paired.length hP2, prsL, List.length_map]
          exact Nat.le_trans (List.length_filter_le _ _) (by rw [List.length_take]; omega)
        have sF : Same Hf (upd G3 D (.lst (xs ++ [V.ref T2]))) := fun x o e => by
          rw [upd_ne (ne_of_none e nD)]
          exact sT2 _ _ (sG2 _ _ e)
        have dD : ∀ t zs, G3 t = some (.tup zs) → t ≠ D := fun t zs e e2 => by
          rw [e2, sT2 _ _ hD2] at e
          cases e
        refine ⟨xs, sT2 _ _ hD2, (by rw [sizeLine_eq]; omega), xs ++ [V.ref T2], upd_same, ?_, sF⟩
        rw [etk]
        exact pr_app (pr_imp (fun _ _ z => z.imp fun t h => ⟨h.1, (upd_ne (dD _ _ (sT2 _ _ h.2))).trans (sT2 _ _ h.2)⟩) hP2) (.cons ⟨T2, rfl, (upd_ne (dD _ _ hT2)).trans hT2⟩ .nil)
      · rw [decide_eq_false c, if_neg (by decide), List.append_nil] at etk
        rw [decide_eq_false c, if_neg (by decide)]
        rw [etk]
        exact ⟨xs, hD2, hP2, sG2⟩
    · rintro G ⟨xs, hD, hP, sG⟩
      refine ⟨sG _ _ fd0, ?_⟩
      rw [hE.len, List.take_length] at hP
      have hb := back G sG
      have nDd : D ≠ d := fun e => by rw [e, fd0] at nD; cases nD
      have hD2 : upd G d (.dK kvs) D = some (.lst xs) := (upd_ne nDd).trans hD
      have hP2 : Paired (PrAt (upd G d (.dK kvs))) xs (prsL rows l) := pr_imp (fun x q z => z.imp fun t h => ⟨h.1, (upd_ne (fun e => by rw [e, sG _ _ fd0] at h; cases h.2)).trans h.2⟩) hP
      generalize upd G d (.dK kvs) = G2 at hb hD2 hP2
      have hxl : xs.length ≤ 1000 := by
        rw [Paired.length hP2, prsL, List.length_map]
        exact Nat.le_trans (List.length_filter_le _ _) hlen
      refine ⟨D, xs, datP G2, rfl, SqL.of hD2, fun x hx => ?_, ?_, ?_, fun x hx => ?_, fun p np => ?_⟩
      · obtain ⟨q, _, hq⟩ := pr_mem hP2 x hx
        rw [datP_of hq]
        exact dp_pr hq
      · intro a1 h1 a2 h2
        obtain ⟨x1, hx1, rfl⟩ := List.mem_map.mp h1
        obtain ⟨x2, hx2, rfl⟩ := List.mem_map.mp h2
        obtain ⟨q1, _, hq1⟩ := pr_mem hP2 x1 hx1
        obtain ⟨q2, _, hq2⟩ := pr_mem hP2 x2 hx2
        rw [datP_of hq1, datP_of hq2]
        rfl
      · refine .inl fun a1 h1 => ?_
        obtain ⟨x1, hx1, rfl⟩ := List.mem_map.mp h1
        obtain ⟨q1, _, hq1⟩ := pr_mem hP2 x1 hx1
        exact ⟨_, _, datP_of hq1⟩
      · obtain ⟨q1, _, hq1⟩ := pr_mem hP2 x hx
        rw [datP_of hq1]
        show 1 ≤ 60
        decide
      · have sp := same_put (o := .lst (srtD (datP G2) xs)) np
        have hp0 : upd G2 p (.lst (srtD (datP G2) xs)) p = some (.lst (srtD (datP G2) xs)) := upd_same
        have hP3 : Paired (PrAt (upd G2 p (.lst (srtD (datP G2) xs)))) (srtD (datP G2) xs) (srtP (prsL rows l)) := pr_imp (fun _ _ z => z.same sp) (srt_pr (fun x y z => datP_of z) hP2)
        generalize upd G2 p (.lst (srtD (datP G2) xs)) = G3 at sp hp0 hP3
        generalize srtD (datP G2) xs = zs at hp0 hP3
        have hzl := Paired.length hP3
        have hsl := srt_len rows l
        have hpl := prs_len rows l
        refine ⟨p, rfl, ⟨_, SqL.of hp0⟩, fun D2 nD2 => ?_⟩
        refine lc_it (walk_list (K := K) (a := p) (xs := zs)) (fun i G => G D2 = some (.lst ((((srtP (prsL rows l)).take i).map (·.2)).map V.str)) ∧ Same G3 G) ⟨upd_same, same_put nD2⟩ (fun i G _ h => SqL.of (h.2 _ _ hp0)) ?_ ?_
        · rintro i x G4' G4 hi ⟨hA, s4⟩ ⟨rfl, hx⟩
          obtain ⟨q, hq, t, rfl, ht⟩ := pr_at hP3 hx
          refine ⟨_, _, rfl, SqT.of (s4 _ _ ht), rfl, _, _, rfl, _, _, rfl, rfl, rfl, ?_⟩
          dsimp only [tYes]
          rw [if_pos rfl]
          refine ⟨_, rfl, _, hA, (by rw [List.length_map, List.length_map, List.length_take, sizeLine_eq]; omega), ?_, fun y o z => ?_⟩
          · rw [upd_same, List.take_succ, hq, List.map_append, List.map_append]
            rfl
          · rw [upd_ne (ne_of_none z nD2)]
            exact s4 _ _ z
        rintro G4 ⟨hA, s4⟩
        rw [hzl, List.take_length] at hA
        exact k D2 G4 (free_same (hb.trans sp) nD2) ((hb.trans sp).trans s4) hA
end
end K08

set_option Elab.async false
set_option maxRecDepth 100000
set_option maxHeartbeats 2000000
namespace K08
open PySem PySem.Spec PyProof.Rows L2 He KX
abbrev sFau : Stmt := top 14
-- ["lst", "pairs", "place", "row", "following", "other"]
/-- the first fault of a list: what is told of it -/
inductive Fl where
  | low (r : Str) | high (r : Str) | double (r o : Str)
def dblP : List Pr → Option Fl
  | a :: b :: t => if a.1 = b.1 then some (.double a.2 b.2) else dblP (b :: t)
  | _ => none
def fauP (ps : List Pr) : Option Fl :=
  match ps.find? fun q => decide (q.1 < 1) with
  | some q => some (.low q.2)
  | none => match ps.find? fun q => decide (q.1 > (ps.length : Int)) with
    | some q => some (.high q.2)
    | none => dblP ps
def flV (l : Str) : Fl → List V
  | .low r => [V.str "low", V.str l, V.str r]
  | .high r => [V.str "high", V.str l, V.str r]
  | .double r o => [V.str "double", V.str l, V.str r, V.str o]
def FauV (H : Hp) (l : Str) : Option Fl → V → Prop
  | none, v => v = .non
  | some x, v => ∃ t, v = .ref t ∧ H t = some (.tup (flV l x))
def spFau (K : PySem.W.Frag) : Sp := fun vs H Q _ => ∃ (p : Addr) (xs : List V) (ps : List Pr) (l : Str), vs = [.str l, .ref p] ∧ H p = some (.lst xs) ∧ Paired (PrAt H) xs ps ∧ ps.length ≤ 1000 ∧ ∀ v H', Same H H' → FauV H' l (fauP ps) v → Q v H'
theorem find_at {α : Type} {p : α → Bool} {xs : List α} {i : Nat} {x : α} (h : xs[i]? = some x) (hx : p x = true) (hn : ∀ y ∈ xs.take i, p y = false) : xs.find? p = some x := by
  have e : xs = xs.take i ++ (x :: xs.drop (i + 1)) := by
    have hi := (List.getElem?_eq_some_iff.mp h).1
    have hv := (List.getElem?_eq_some_iff.mp h).2
    conv => lhs; rw [← List.take_append_drop i xs]
    rw [List.drop_eq_getElem_cons hi, hv]
  rw [e, List.find?_append, List.find?_eq_none.mpr (fun y hy => by rw [hn y hy]; decide), Option.none_or, List.find?_cons, hx]
theorem take_next {α : Type} {p : α → Bool} {xs : List α} {i : Nat} {x : α} (h : xs[i]? = some x) (hx : p x = false) (hn : ∀ y ∈ xs.take i, p y = false) : ∀ y ∈ xs.take (i + 1), p y = false := by
  intro y hy
  rw [List.take_succ, h] at hy
  rcases List.mem_append.mp hy with hy | hy
  · exact hn y hy
  · rw [show y = x by simpa using hy]
    exact hx
theorem find_no {α : Type} {p : α → Bool} {xs : List α} (hn : ∀ y ∈ xs, p y = false) : xs.find? p = none := List.find?_eq_none.mpr (fun y hy => by rw [hn y hy]; decide)
theorem cut1 (xs : List V) : cutV xs (some 1) none = xs.drop 1 := by
  cases xs with
  | nil => rfl
  | cons x r =>
    unfold cutV
    have e1 : HT.sIx (x :: r).length 0 (some 1) = 1 := by
      unfold HT.sIx
      simp
    have e2 : HT.sIx (x :: r).length (x :: r).length none = (x :: r).length := rfl
    rw [e1, e2]
    simp
theorem dbl_at {ps : List Pr} {i : Nat} {a b : Pr} (h : dblP ps = dblP (ps.drop i)) (ha : ps[i]? = some a) (hb : ps[i + 1]? = some b) : dblP ps = if a.1 = b.1 then some (.double a.2 b.2) else dblP (ps.drop (i + 1)) := by
  have h1 := (List.getElem?_eq_some_iff.mp ha)
  have h2 := (List.getElem?_eq_some_iff.mp hb)
  obtain ⟨l1, e1⟩ := h1
  obtain ⟨l2, e2⟩ := h2
  rw [h, List.drop_eq_getElem_cons l1, List.drop_eq_getElem_cons l2, e1, e2]
  rfl
section
variable {P : Program} {w : World} {K : PySem.W.Frag} {mg : Str → Option Value} {base : Heap}
theorem scFau : FnScope ["lst", "pairs", "place", "row", "following", "other"] ["lst", "pairs"] (defScope sFau) := ⟨rfl, rfl, rfl, by decide +kernel, rfl, by decide +kernel, by decide +kernel⟩
theorem ok_fau {f : Addr} {fd : FuncData} (F : FnP K "_fault_of" sFau f fd) (n_len : mg "len" = none) (n_zip : mg "zip" = none) : FnOk P w K mg base CX0 1 f fd ["lst", "pairs"] (spFau K) := by
  refine F.ok scFau (fun vs H Q E h => ?_) (fun cdv A outer s H vs Q E hr h => ?_)
  · obtain ⟨p, xs, ps, l, rfl, _⟩ := h
    rfl
  · obtain ⟨p, xs, ps, l, rfl, hp, hP, hlen, k⟩ := h
    have nd := scFau.nd
    have hu64 := hr.units
    have hu := Nat.lt_of_le_of_lt (Nat.add_le_add_left (by decide : 1 ≤ 64) _) hr.units
    refine ⟨_, PSs.nox (pss_cons (ps_for PassesOwn.never rfl (pi_list (pv 1)) (pg_tup rfl (pgs_cons (pg_name (i := 2) nd rfl (Or.inl rfl)) (pgs_cons (pg_name (i := 3) nd rfl (Or.inl rfl)) pgs_nil)))
(pss_one (ps_if (pt_cmpR op_lt (pv 2) pe_int (nomark _))
(pss_one (ps_ret (pe_tup (pa_cons pe_str (pa_cons (pv 0) (pa_cons (pv 3) pa_nil))))))
pss_nil)))
(pss_cons (ps_for PassesOwn.never rfl (pi_list (pv 1)) (pg_tup rfl (pgs_cons (pg_name (i := 2) nd rfl (Or.inl rfl)) (pgs_cons (pg_name (i := 3) nd rfl (Or.inl rfl)) pgs_nil)))
(pss_one (ps_if (pt_cmpR op_gt (pv 2) (pe_callB call_len_seq (by rfl) n_len PySem.boot_len (pa_cons (pv 1) pa_nil)) (nomark _))
(pss_one (ps_ret (pe_tup (pa_cons pe_str (pa_cons (pv 0) (pa_cons (pv 3) pa_nil))))))
pss_nil)))
(pss_cons (ps_for PassesOwn.never rfl (pi_zip (by rfl) n_zip (pa_cons (pv 1) (pa_cons (pe_slice sl_list (pv 1) (po_some pe_int) po_none) pa_nil))) (pg_tup rfl (pgs_cons (pg_tup rfl (pgs_cons (pg_name (i := 2) nd rfl (Or.inl rfl)) (pgs_cons (pg_name (i := 3) nd rfl (Or.inl rfl)) pgs_nil))) (pgs_cons (pg_tup rfl (pgs_cons (pg_name (i := 4) nd rfl (Or.inl rfl)) (pgs_cons (pg_name (i := 5) nd rfl (Or.inl rfl)) pgs_nil))) pgs_nil)))
(pss_one (ps_if (pt_cmpR op_eq (pv 2) (pv 4) (nomark _))
(pss_one (ps_ret (pe_tup (pa_cons pe_str (pa_cons (pv 0) (pa_cons (pv 3) (pa_cons (pv 5) pa_nil)))))))
pss_nil)))
(pss_one (ps_ret pe_non))))), ?_⟩
    refine ⟨_, rfl, p, rfl, ⟨_, SqL.of hp⟩, ?_⟩
    refine for_it (walk_list (K := K) (a := p) (xs := xs)) (fun i σ G => ∃ v2 v3, σ = [some (.str l), some (.ref p), v2, v3, none, none] ∧ H = G ∧ ∀ q ∈ ps.take i, decide (q.1 < 1) = false)
      ⟨none, none, rfl, rfl, by simp⟩ (fun _ _ _ _ h => by obtain ⟨_, _, _, rfl, _⟩ := h; exact SqL.of hp) ?_ ?_
    · rintro i x σ G' G hi ⟨v2, v3, rfl, rfl, hno⟩ ⟨rfl, hx⟩
      obtain ⟨q, hq, t, rfl, ht⟩ := pr_at hP hx
      refine ⟨_, _, rfl, SqT.of ht, rfl, _, _, rfl, _, _, rfl, rfl, ?_⟩
      dsimp only [gName, List.set]
      refine ⟨_, rfl, _, _, rfl, rfl, _, rfl, ite2' (fun c => ?_) (fun c => ?_)⟩
      · refine ⟨_, rfl, _, rfl, (by show 3 ≤ sizeLine; decide), fun T nT => ?_⟩
        refine k _ _ (same_put nT) ?_
        have e : fauP ps = some (.low q.2) := by
          unfold fauP
          rw [find_at hq c hno]
        rw [e]
        exact ⟨T, rfl, upd_same⟩
      · exact ⟨_, _, rfl, rfl, take_next hq c hno⟩
    rintro σ G ⟨v2, v3, rfl, rfl, hno⟩
    rw [Paired.length hP, List.take_length] at hno
    have f1 := find_no hno
    refine ⟨_, rfl, p, rfl, ⟨_, SqL.of hp⟩, ?_⟩
    refine for_it (walk_list (K := K) (a := p) (xs := xs)) (fun i σ G => ∃ v2 v3, σ = [some (.str l), some (.ref p), v2, v3, none, none] ∧ H = G ∧ ∀ q ∈ ps.take i, decide (q.1 > (ps.length : Int)) = false)
      ⟨v2, v3, rfl, rfl, by simp⟩ (fun _ _ _ _ h => by obtain ⟨_, _, _, rfl, _⟩ := h; exact SqL.of hp) ?_ ?_
    · rintro i x σ G' G hi ⟨v2, v3, rfl, rfl, hno⟩ ⟨rfl, hx⟩
      obtain ⟨q, hq, t, rfl, ht⟩ := pr_at hP hx
      refine ⟨_, _, rfl, SqT.of ht, rfl, _, _, rfl, _, _, rfl, rfl, ?_⟩
      dsimp only [gName, List.set]
      refine ⟨_, rfl, _, rfl, _, _, rfl, .inl (SqL.of hp), _, _, rfl, rfl, _, rfl, ?_⟩
      rw [Paired.length hP]
      refine ite2' (fun c => ?_) (fun c => ?_)
      · refine ⟨_, rfl, _, rfl, (by show 3 ≤ sizeLine; decide), fun T nT => ?_⟩
        refine k _ _ (same_put nT) ?_
        have e : fauP ps = some (.high q.2) := by
          unfold fauP
          rw [f1, find_at hq c hno]
        rw [e]
        exact ⟨T, rfl, upd_same⟩
      · exact ⟨_, _, rfl, rfl, take_next hq c hno⟩
    rintro σ G ⟨v2, v3, rfl, rfl, hno⟩
    rw [Paired.length hP, List.take_length] at hno
    have f2 := find_no hno
    dsimp only
    refine ⟨_, rfl, _, rfl, _, rfl, p, xs, rfl, SqL.of hp, fun p2 np2 => ?_⟩
    rw [cut1]
    have s0 := same_put (o := .lst (xs.drop 1)) np2
    have h20 : upd H p2 (.lst (xs.drop 1)) p2 = some (.lst (xs.drop 1)) := upd_same
    generalize upd H p2 (.lst (xs.drop 1)) = H2 at s0 h20 ⊢
    refine ⟨p, p2, xs, xs.drop 1, rfl, SqL.of (s0 _ _ hp), SqL.of h20, ?_⟩
    refine for_it (walk_zip (K := K) (a := p) (b := p2) (xs := xs) (ys := xs.drop 1) (n := xs.length - 1) (by rw [List.length_drop]; omega)) (fun i σ G => ∃ v2 v3 v4 v5, σ = [some (.str l), some (.ref p), v2, v3, v4, v5] ∧ Same H2 G ∧ dblP ps = dblP (ps.drop i))
      ⟨v2, v3, none, none, rfl, Same.refl _, rfl⟩ (fun _ _ _ _ h => by obtain ⟨_, _, _, _, _, q, _⟩ := h; exact ⟨SqL.of (q _ _ (s0 _ _ hp)), SqL.of (q _ _ h20)⟩) ?_ ?_
    · rintro i x σ G' G hi ⟨v2, v3, v4, v5, rfl, sG, hd⟩ ⟨T, x1, x2, rfl, nT, rfl, hx1, hx2⟩
      have sT := same_put (o := .tup [x1, x2]) nT
      have hT : upd G' T (.tup [x1, x2]) T = some (.tup [x1, x2]) := upd_same
      generalize upd G' T (.tup [x1, x2]) = G3 at sT hT ⊢
      obtain ⟨q1, hq1, t1, rfl, ht1⟩ := pr_at hP hx1
      replace hx2 : (xs.drop 1)[i]? = some x2 := hx2
      rw [List.getElem?_drop, Nat.add_comm] at hx2
      obtain ⟨q2, hq2, t2, rfl, ht2⟩ := pr_at hP hx2
      have sA := (s0.trans sG).trans sT
      refine ⟨_, _, rfl, SqT.of hT, rfl, _, _, rfl, _, _, rfl, SqT.of (sA _ _ ht1), rfl, _, _, rfl, _, _, rfl, rfl, _, _, rfl, _, _, rfl, SqT.of (sA _ _ ht2), rfl, _, _, rfl, _, _, rfl, rfl, rfl, ?_⟩
      dsimp only [gName, List.set]
      have hdd := dbl_at hd hq1 hq2
      refine ⟨_, rfl, _, rfl, rfl, _, rfl, ?_⟩
      dsimp only
      by_cases c : q1.1 = q2.1
      · rw [if_pos (by rw [c]; exact decide_eq_true rfl)]
        refine ⟨_, rfl, _, rfl, _, rfl, (by show 4 ≤ sizeLine; decide), fun T2 nT2 => ?_⟩
        refine k _ _ (sA.trans (same_put nT2)) ?_
        have e : fauP ps = some (.double q1.2 q2.2) := by
          unfold fauP
          rw [f1, f2]
          exact hdd.trans (if_pos c)
        rw [e]
        exact ⟨T2, rfl, upd_same⟩
      · rw [if_neg (fun z => c (by have := of_decide_eq_true z; injection this))]
        exact ⟨_, _, _, _, rfl, sG.trans sT, hdd.trans (if_neg c)⟩
    · rintro σ G ⟨v2, v3, v4, v5, rfl, sG, hd⟩
      rw [Paired.length hP] at hd
      have e : dblP (ps.drop (ps.length - 1)) = none := by
        have hl : (ps.drop (ps.length - 1)).length ≤ 1 := by
          rw [List.length_drop]
          omega
        generalize ps.drop (ps.length - 1) = zs at hl ⊢
        match zs, hl with
        | [], _ => rfl
        | [_], _ => rfl
        | _ :: _ :: _, h => exact absurd h (by simp)
      refine k _ _ (s0.trans sG) ?_
      have e2 : fauP ps = none := by
        unfold fauP
        rw [f1, f2]
        exact hd.trans e
      rw [e2]
      rfl
end
end K08

set_option Elab.async false
set_option maxRecDepth 100000
set_option maxHeartbeats 2000000
namespace K08
open PySem PySem.Spec PyProof.Rows L2 He KX
abbrev sBFf : Stmt := inClass (top 13) 13
-- ["self", "lst", "fault"]
/-- the first fault of a board, in the order of the lists -/
def firF (rows : List Rw) (ns : List Str) : Option (Str × Fl) := ns.findSome? fun l => (fauP (srtP (prsL rows l))).map fun x => (l, x)
def FirV (H : Hp) : Option (Str × Fl) → V → Prop
  | none, v => v = .non
  | some x, v => ∃ t, v = .ref t ∧ H t = some (.tup (flV x.1 x.2))
def spFf (K : PySem.W.Frag) : Sp := fun vs H Q _ => ∃ (a : Addr) (rows : List Rw), vs = [.ref a] ∧ BdAt K H a rows ∧ rows.length ≤ 1000 ∧ ∀ v ns H', Same H H' → NmL rows ns → FirV H' (firF rows ns) v → Q v H'
section
variable {P : Program} {w : World} {K : PySem.W.Frag} {mg : Str → Option Value} {base : Heap}
theorem scFf : FnScope ["self", "lst", "fault"] ["self"] (defScope sBFf) := ⟨rfl, rfl, rfl, by decide +kernel, rfl, by decide +kernel, by decide +kernel⟩
theorem ok_ff {f fF : Addr} {fd fdF fdNs fdPs : FuncData} (F : MtP K "first_fault" "Board.first_fault" sBFf f fd) (S : Brd K)
    (GF : FnOk P w K mg base CX0 1 fF fdF ["lst", "pairs"] (spFau K)) (bF : Binds K fdF ["lst", "pairs"] []) (kF : PySem.W.keepIn K (.ref fF) = true) (gF : mg "_fault_of" = some (.ref fF))
    (GNs : FnOk P w K mg base CX0 1 (ma K (ga K "Board") "list_names") fdNs ["self"] (spNames K)) (bNs : Binds K fdNs ["self"] [])
    (GPs : FnOk P w K mg base CX0 1 (ma K (ga K "Board") "_pairs") fdPs ["self", "lst"] (spPairs K)) (bPs : Binds K fdPs ["self", "lst"] []) : FnOk P w K mg base CX0 2 f fd ["self"] (spFf K) := by
  refine F.ok scFf (fun vs H Q E h => ?_) (fun cdv A outer s H vs Q E hr h => ?_)
  · obtain ⟨a, rows, rfl, _⟩ := h
    rfl
  · obtain ⟨a, rows, rfl, hB, hlen, k⟩ := h
    have nd := scFf.nd
    have hu64 := hr.units
    have hu := Nat.lt_of_le_of_lt (Nat.add_le_add_left (by decide : 1 ≤ 64) _) hr.units
    refine ⟨_, PSs.nox (pss_cons (ps_for PassesOwn.never rfl (pi_list (pe_meth0 (pv 0) S.cls (S.mth "list_names" (by decide)) GNs (hr.mono (j := 1) (by decide)) bNs .nil pass0)) (pg_name (i := 1) nd rfl (Or.inl rfl))
(pss_cons (ps_set (i := 2) nd rfl (Or.inl rfl) (pe_call GF (hr.mono (j := 1) (by decide)) (by rfl) gF kF bF .nil pass0 (pa_cons (pv 1) (pa_cons (pe_meth (pv 0) S.cls (S.mth "_pairs" (by decide)) GPs (hr.mono (j := 1) (by decide)) bPs .nil pass0 (pa_cons (pv 1) pa_nil)) pa_nil))))
(pss_one (ps_if (pt_cmpR op_notN (pv 2) pe_non (nomark _))
(pss_one (ps_ret (pv 2)))
pss_nil))))
(pss_one (ps_ret pe_non))), ?_⟩
    obtain ⟨dx, d0, kvs0, ha0, _⟩ := id hB
    refine ⟨_, rfl, a, dx, _, rfl, ha0, rfl, a, rows, rfl, hB, hlen, fun p ns G0 np s0 hp hN => ?_⟩
    refine ⟨p, rfl, ⟨_, SqL.of hp⟩, ?_⟩
    refine for_it (walk_list (K := K) (a := p) (xs := ns.map V.str)) (fun i σ G => ∃ w1 w2, σ = [some (.ref a), w1, w2] ∧ Same G0 G ∧ firF rows (ns.take i) = none)
      ⟨none, none, rfl, Same.refl _, by rw [List.take_zero]; rfl⟩ (fun _ _ _ _ h => by obtain ⟨_, _, _, q, _⟩ := h; exact SqL.of (q _ _ hp)) ?_ ?_
    · rintro i x σ G' G hi ⟨w1, w2, rfl, sG, hno⟩ ⟨rfl, hx⟩
      obtain ⟨l, hl, rfl⟩ := Option.map_eq_some_iff.mp ((List.getElem?_map ..).symm.trans hx)
      dsimp only [gName, List.set]
      have sH := s0.trans sG
      have hfn : firF rows (ns.take (i + 1)) = (fauP (srtP (prsL rows l))).map fun x => (l, x) := by
        unfold firF at hno ⊢
        rw [List.take_succ, hl, List.findSome?_append, hno, Option.none_or]
        show List.findSome? _ [l] = _
        rw [List.findSome?_cons]
        cases (fauP (srtP (prsL rows l))) <;> rfl
      have hfa : firF rows ns = (firF rows (ns.take (i + 1))).or (firF rows (ns.drop (i + 1))) := by
        unfold firF
        rw [← List.findSome?_append, List.take_append_drop]
      refine ⟨_, rfl, _, rfl, a, dx, _, rfl, sH _ _ ha0, rfl, _, rfl, a, rows, l, rfl, hB.same sH, hlen, fun p3 zs G1 np1 s1 hp3 hP3 => ?_⟩
      refine ⟨p3, zs, _, l, rfl, hp3, hP3, (by rw [srt_len]; exact Nat.le_trans (prs_len _ _) hlen), fun v G2 s2 hv => ?_⟩
      dsimp only [gName, List.set]
      have s02 := (sG.trans s1).trans s2
      cases hf : fauP (srtP (prsL rows l)) with
      | none =>
        rw [hf] at hv hfn
        obtain rfl := hv
        exact ⟨_, rfl, rfl, _, rfl, no rfl ⟨_, _, rfl, s02, hfn⟩⟩
      | some z =>
        rw [hf] at hv hfn
        obtain ⟨t, rfl, ht⟩ := hv
        refine ⟨_, rfl, rfl, _, rfl, yes rfl ⟨_, rfl, k _ ns _ (s0.trans s02) hN ?_⟩⟩
        rw [hfa, hfn]
        exact ⟨t, rfl, ht⟩
    · rintro σ G ⟨w1, w2, rfl, sG, hno⟩
      rw [List.length_map, List.take_length] at hno
      refine k _ ns _ (s0.trans sG) hN ?_
      rw [hno]
      rfl
end
end K08

set_option Elab.async false
set_option maxRecDepth 100000
set_option maxHeartbeats 2000000
/-! list(d.values()). -/
namespace KX
open PySem PySem.Spec PyProof.Rows L2
section
variable {X : Cx}
theorem vals_each : ∀ {kvs : List (Key × V)} {vs : List (Key × Value)}, KV kvs vs → ∀ {us : List Value}, us.length = vs.length → (∀ (j : Nat) (v : Value), us[j]? = some v → ∃ k, vs[j]? = some (k, v)) → Vals (kvs.map (·.2)) us
  | _, _, .nil, [], _, _ => .nil
  | _ :: _, _ :: _, .cons h t, u :: us, hl, hv => by
    obtain ⟨k, e⟩ := hv 0 u rfl
    cases e
    exact .cons h.2 (vals_each t (by simpa using hl) fun j v e => hv (j + 1) v e)
  | _, _, .nil, _ :: _, hl, _ => by cases hl
  | _, _, .cons _ _, [], hl, _ => by cases hl
/-- list of the view of a dict's values -/
def rListV : List V → Hp → VK → Prop := fun xs H Q => ∃ (v d : Addr) (kvs : List (Key × V)), xs = [.ref v] ∧ H v = some (ViewO v d) ∧ H d = some (.dK kvs) ∧ ∀ p, H p = none → Q (.ref p) (upd H p (.lst (kvs.map (·.2))))
theorem call_listV (hc : X.calm = true) : CallR X (.type "list") rListV := by
  intro pins s σ H xs us Q I r h
  obtain ⟨v, d, kvs, rfl, hv, hd, q⟩ := h
  rw [Vals.ref1 r]
  obtain ⟨hview, _⟩ := (I.hok v _ hv : ObjOk _ _ _ _ _ (ViewO v d))
  obtain ⟨z, hsys, vs, rel, hD⟩ := (I.hok d _ hd : ObjOk _ _ _ _ _ (.dK kvs))
  obtain ⟨ep, hat⟩ := hD.dictAt
  refine PySem.W.kdl_call (PySem.W.kdl_values (knd := mixKind X.prog X.w) (kvs := vs) (ep := ep)) (I.ok.hd hc) ⟨hview, hat⟩ (by rw [← rel.length]; exact z) fun h' tk acc c' hk hB hacc => ?_
  have hl : acc.toList.length = vs.length := by rw [Array.length_toList]; exact hacc.1
  have hV : Vals (kvs.map (·.2)) acc.toList := vals_each rel hl fun j u e => hacc.2 j u (by rw [← Array.getElem?_toList]; exact e)
  exact ⟨.ref s.heap.objs.size, upd H s.heap.objs.size (.lst (kvs.map (·.2))), I.laid (t' := tk) hk (Nat.le_refl _) (show ObjOk X.prog X.w _ _ _ (.lst (kvs.map (·.2))) from ⟨by rw [List.length_map]; exact z, acc.toList, c', hV, by rw [Array.toArray_toList]; exact hB⟩), rfl, q _ (I.hok.fresh (Nat.le_refl _))⟩
end
end KX

set_option Elab.async false
set_option maxRecDepth 100000
set_option maxHeartbeats 2000000
/-! Sets of keys that lie on the heap (tuples of texts and ints), laid in a table; they stay below 64 keys. -/
namespace KX
open PySem PySem.Spec PyProof.Rows L2
/-- what a set asks of such keys besides -/
structure Fam {P : Program} {w : World} {κ : Type} [DecidableEq κ] (HK : HeapKind P w κ) : Prop where
  stay : ∀ {h h' : Heap} {k : κ} {a : Addr}, HK.is h k a → (∀ o, h.get? a = some o → h'.get? a = some o) → HK.is h' k a
  noset : ∀ {h : Heap} {k : κ} {a : Addr} {o : Obj} {es : Array (Int × Value)} {ep : Nat} {t : SetTable}, HK.is h k a → h.get? a = some o → o.data = .set es ep t → False
  clsF : ∀ {A : Around} {E : Value → Shared → Prop} {s : Shared} {k : κ} {a : Addr} {Q : Bool → Shared → Prop}, HK.is s.heap k a → Q false s → wpAny (model P w) A (ofAClassStatement 8 (.ref a)) Q E s
  valT : ∀ {A : Around} {E : Value → Shared → Prop} {s : Shared} {k : κ} {a : Addr} {Q : Bool → Shared → Prop}, HK.is s.heap k a → (∀ b, Q b s) → wpAny (model P w) A (hashByValue 8 (.ref a)) Q E s
abbrev prb (m : Nat) (h : Int) (c : Nat) : SetTable.Probe := nth m (runAt m (SetTable.bits h % (m + 1)) (SetTable.bits h)) c
theorem prb_add (m : Nat) (h : Int) (c q : Nat) : nth m (prb m h c) q = prb m h (c + q) := (nth_add m c _ q).symm
theorem prb_way (m : Nat) (h : Int) (c q : Nat) : (nth m (prb m h c) q).j = way m h (c + q) := congrArg SetTable.Probe.j (prb_add m h c q)
theorem prb_dummy (m : Nat) (h : Int) : ∀ c, (prb m h c).dummy = none
  | 0 => rfl
  | c + 1 => by
    show (nth m _ (c + 1)).dummy = none
    rw [nth_succ]
    unfold adv
    split <;> exact prb_dummy m h c
section
variable {P : Program} {w : World} {κ : Type} [DecidableEq κ] {HK : HeapKind P w κ}
def entH (HK : HeapKind P w κ) (L : List (Addr × κ)) : List (Int × Value) := L.map fun e => (HK.hash e.2, Value.ref e.1)
def hsH (HK : HeapKind P w κ) (L : List (Addr × κ)) : List Int := L.map fun e => HK.hash e.2
/-- a set with just the keys of L, in the table's order -/
structure SetB (HK : HeapKind P w κ) (h : Heap) (a : Addr) (L : List (Addr × κ)) (es : Array (Int × Value)) (ep : Nat) (t : SetTable) : Prop where
  obj : ∃ o, h.get? a = some o ∧ o.ExactSet ∧ o.data = .set es ep t
  ents : es.toList = entH HK L
  tab : TabOk t (hsH HK L)
  nd : (L.map Prod.snd).Nodup
  ks : ∀ e ∈ L, HK.is h e.2 e.1
  ld : w.params.followText "set-order" = true ∨ t.led = true
  rm : L.length * 5 < t.mask * 3
  fw : L.length < 64
variable {A : Around} {E : Value → Shared → Prop} {s : Shared} {a : Addr} {L : List (Addr × κ)} {es : Array (Int × Value)} {ep : Nat} {t : SetTable}
theorem ent_len (h : es.toList = entH HK L) : es.size = L.length := by
  rw [← Array.length_toList, h]
  exact List.length_map ..
theorem ent_at (h : es.toList = entH HK L) {i : Nat} {e : Addr × κ} (hi : L[i]? = some e) : es[i]? = some (HK.hash e.2, .ref e.1) := by
  rw [← Array.getElem?_toList, h]
  show (L.map _)[i]? = _
  rw [List.getElem?_map, hi]
  rfl
theorem tab_len (h : TabOk t (hsH HK L)) : t.place.toList.length = L.length := by
  rw [Array.length_toList, h.sz]
  exact List.length_map ..
theorem fits_h (h : es.toList = entH HK L) (hp : t.place.toList.length = L.length) (hd : t.dummies = #[]) (hm : L.length ≤ t.mask) : t.fits es.size = true := by
  have h1 := ent_len h
  rw [Array.length_toList] at hp
  unfold SetTable.fits SetTable.fill
  rw [hd, Bool.and_eq_true, beq_iff_eq, decide_eq_true_eq]
  show t.place.size = es.size ∧ t.place.size + 0 ≤ t.mask
  omega
theorem SetB.fits (B : SetB HK s.heap a L es ep t) : t.fits es.size = true := fits_h B.ents (tab_len B.tab) B.tab.dm (by have := B.rm; omega)
/-- from the c-th place of its way on, all before being other keys -/
theorem seek_from (FH : Fam HK) (B : SetB HK s.heap a L es ep t) {x : Addr} {k : κ} (hx : HK.is s.heap k x) (hu : HK.room A) {n : Nat} (hn : n < 10 * SetTable.turns t.mask) (he : way t.mask (HK.hash k) n ∉ t.place.toList) (hb : ∀ c, c < n → way t.mask (HK.hash k) c ∈ t.place.toList) {Q : SetFound → Shared → Prop}
    (yes : k ∈ L.map Prod.snd → Q (.there none) s) (no : k ∉ L.map Prod.snd → Q (.free (way t.mask (HK.hash k) n) false) s) :
    ∀ (f c : Nat) (st : Option SetTable.Probe), st.getD (t.probeStart (HK.hash k)) = prb t.mask (HK.hash k) c → c ≤ n → n - c < f →
      (∀ (c' i : Nat) (e : Addr × κ), c' < c → t.place.toList[i]? = some (way t.mask (HK.hash k) c') → L[i]? = some e → e.2 ≠ k) → wpAny (model P w) A (setSearchFrom a (.ref x) (HK.hash k) true f st) Q E s := by
  obtain ⟨o, ho, hex, hd⟩ := B.obj
  have gw : ¬ t.gaveWay = true := by
    unfold SetTable.gaveWay
    rw [mask_odd B.tab.mok]
    decide
  have hAt : ∀ {i : Nat} {e : Addr × κ}, L[i]? = some e → (es[i]?.map (·.1)).getD 0 = HK.hash e.2 := fun {i e} hi => by rw [ent_at B.ents hi]; rfl
  have inL : ∀ {i j : Nat}, t.place.toList[i]? = some j → ∃ e, L[i]? = some e := fun {i j} hi => by
    have h1 : i < t.place.toList.length := (List.getElem?_eq_some_iff.mp hi).1
    rw [tab_len B.tab] at h1
    exact ⟨_, List.getElem?_eq_getElem h1⟩
  intro f
  induction f with
  | zero => intro c st _ _ h3 _; exact absurd h3 (Nat.not_lt_zero _)
  | succ f ih =>
    intro c st hst hc hf pass
    rw [setSearchFrom_succ]
    refine wpAny_bind (wpAny_setState_of ho hd B.fits ?_)
    dsimp only
    refine wp_if_neg gw ?_
    try refine wpAny_bind (wpAny_pure ?_)
    have spec := go_spec t B.tab.ris B.tab.dm (fun i => (es[i]?.map (·.1)).getD 0) (HK.hash k) (10 * SetTable.turns t.mask) (n - c) (prb t.mask (HK.hash k) c) (prb_dummy _ _ c) (by omega)
      (fun q hq => by rw [prb_way]; exact hb (c + q) (by omega)) (by rw [prb_way, show c + (n - c) = n by omega]; exact he)
    rcases spec with ⟨q, i, hq, hi, hh, before, hpr⟩ | ⟨before, hpr⟩
    · rw [prb_way] at hi
      obtain ⟨e, hL⟩ := inL hi
      have hpr' : t.probe (fun i => (es[i]?.map (·.1)).getD 0) (HK.hash k) (st.getD (t.probeStart (HK.hash k))) = some (.candidate (way t.mask (HK.hash k) (c + q)) i (prb t.mask (HK.hash k) (c + (q + 1)))) := by
        rw [hst, ← prb_way, ← prb_add]
        exact hpr
      rw [hpr']
      dsimp only
      have hmem : e ∈ L := List.mem_of_getElem? hL
      have slot : t.slot (way t.mask (HK.hash k) (c + q)) = .live i := slot_live B.tab.ris hi
      have look : wpAny (model P w) A (searchRest a (.ref x) (HK.hash k) true f es t (way t.mask (HK.hash k) (c + q)) i (prb t.mask (HK.hash k) (c + (q + 1)))) Q E s := by
        unfold searchRest
        rw [ent_at B.ents hL]
        dsimp only
        refine wpAny_bind (wpAny_holding (HK.eqBool hu (B.ks e hmem) hx ?_))
        refine wpAny_bind (wpAny_setState_of ho hd B.fits ?_)
        dsimp only
        by_cases ek : e.2 = k
        · refine wp_if_pos (by simp [ek]) (wpAny_pure (yes ?_))
          exact List.mem_map.mpr ⟨e, hmem, ek⟩
        · refine wp_if_neg (by simp [ek]) ?_
          try refine wpAny_bind (wpAny_pure ?_)
          rw [sameMem]
          dsimp only
          simp only [if_true, slot, ent_at B.ents hL]
          refine wpAny_bind (wpAny_isSame_ref_self (wpAny_bind (wpAny_pure ?_)))
          simp only [if_true]
          refine wp_if_neg (by simp [ek]) ?_
          refine ih (c + (q + 1)) _ rfl (by omega) (by omega) fun c' i' e' hc' hi' hL' ek' => ?_
          rcases Nat.lt_trichotomy c' (c + q) with z | z | z
          · rcases Nat.lt_or_ge c' c with y | y
            · exact pass c' i' e' y hi' hL' ek'
            · exact before (c' - c) i' (by omega) (by rw [prb_way, show c + (c' - c) = c' by omega]; exact hi') (by rw [← ek']; exact hAt hL')
          · rw [z] at hi'
            have := slot_live B.tab.ris hi'
            rw [slot] at this
            injection this with this
            rw [← this, hL] at hL'
            exact ek ((congrArg Prod.snd (Option.some.inj hL')).trans ek')
          · omega
      by_cases hl : t.led = true
      · refine wp_if_neg (by simp [hl]) ?_
        try refine wpAny_bind (wpAny_pure ?_)
        exact look
      · refine wp_if_pos (by simp [hl]) ?_
        refine wpAny_bind ?_
        have quiet : ∀ (ys : List Value), (∀ y ∈ ys, ∃ k' c, y = Value.ref c ∧ HK.is s.heap k' c) → ∀ {Q' : Bool → Shared → Prop}, Q' false s → wpAny (model P w) A (searchCouldBeSeen (.ref x) ys) Q' E s := fun ys hy Q' hQ' => by
          unfold searchCouldBeSeen
          refine wpAny_bind (wpAny_forIn_list _ (fun rest r s' => r.1 = none ∧ s' = s ∧ ∀ y ∈ rest, ∃ k' c, y = Value.ref c ∧ HK.is s.heap k' c) _ ?_ ?_ _ _ ⟨rfl, rfl, hy⟩)
          · rintro v rest r s' ⟨_, rfl, all⟩
            obtain ⟨k', d, rfl, hd'⟩ := all v List.mem_cons_self
            have all' := fun u hu' => all u (List.mem_cons_of_mem _ hu')
            dsimp only
            by_cases hv : (x == d || (carriedByValue (.ref x) && carriedByValue (.ref d))) = true
            · exact wp_if_pos hv (wpAny_pure ⟨rfl, rfl, all'⟩)
            · refine wp_if_neg hv (wpAny_bind (HK.quiet hx ?_))
              simp only [Bool.not_true, Bool.false_eq_true, if_false]
              refine wpAny_bind (HK.quiet hd' ?_)
              simp only [Bool.not_true, Bool.false_eq_true, if_false]
              refine wpAny_bind (FH.clsF hx ?_)
              simp only [Bool.false_eq_true, if_false]
              refine wpAny_bind (FH.clsF hd' ?_)
              simp only [Bool.false_eq_true, if_false]
              exact wpAny_pure ⟨rfl, rfl, all'⟩
          · rintro ⟨r1, r2⟩ s' ⟨hr, rfl, _⟩
            simp only at hr
            subst hr
            exact wpAny_pure hQ'
        refine quiet _ (fun y hy => ?_) ?_
        · obtain ⟨p, hp, rfl⟩ := List.mem_map.mp hy
          have hp1 : p ∈ es ∧ p.1 = HK.hash k := by simpa using hp
          have hp2 : p ∈ es.toList := by simpa using hp1.1
          rw [B.ents] at hp2
          obtain ⟨e2, he2, rfl⟩ := List.mem_map.mp hp2
          exact ⟨e2.2, e2.1, rfl, B.ks e2 he2⟩
        · refine wp_if_neg (by decide) ?_
          try refine wpAny_bind (wpAny_pure ?_)
          exact look
    · have hpr' : t.probe (fun i => (es[i]?.map (·.1)).getD 0) (HK.hash k) (st.getD (t.probeStart (HK.hash k))) = some (.empty (way t.mask (HK.hash k) n) none) := by
        have e2 : way t.mask (HK.hash k) n = (nth t.mask (prb t.mask (HK.hash k) c) (n - c)).j := by rw [prb_way, show c + (n - c) = n by omega]
        rw [hst, e2]
        exact hpr
      rw [hpr']
      dsimp only
      refine wpAny_pure (no fun hm => ?_)
      obtain ⟨e, hmem, ek⟩ := List.mem_map.mp hm
      obtain ⟨i, hi, e0⟩ := List.getElem_of_mem hmem
      have hL : L[i]? = some e := by rw [List.getElem?_eq_getElem hi, e0]
      have hp : i < t.place.toList.length := by rw [tab_len B.tab]; exact hi
      obtain ⟨c', c1, c2⟩ := B.tab.before he (h := HK.hash k) (i := i) (j := t.place.toList[i]) (by show (L.map _)[i]? = _; rw [List.getElem?_map, hL, ← ek]; rfl) (List.getElem?_eq_getElem hp)
      have hi' : t.place.toList[i]? = some (way t.mask (HK.hash k) c') := by rw [List.getElem?_eq_getElem hp, c2]
      rcases Nat.lt_or_ge c' c with y | y
      · exact pass c' i e y hi' hL ek
      · exact before (c' - c) i (by omega) (by rw [prb_way, show c + (c' - c) = c' by omega]; exact hi') (by rw [← ek]; exact hAt hL)
theorem seek (FH : Fam HK) (B : SetB HK s.heap a L es ep t) {x : Addr} {k : κ} (hx : HK.is s.heap k x) (hu : HK.room A) {Q : SetFound → Shared → Prop} (yes : k ∈ L.map Prod.snd → Q (.there none) s)
    (no : ∀ n, k ∉ L.map Prod.snd → way t.mask (HK.hash k) n ∉ t.place.toList → (∀ c, c < n → way t.mask (HK.hash k) c ∈ t.place.toList) → Q (.free (way t.mask (HK.hash k) n) false) s) : wpAny (model P w) A (setSearch a (.ref x) (HK.hash k) true) Q E s := by
  have rm := B.rm
  obtain ⟨n, h1, h2, h3⟩ := B.tab.first (by unfold hsH; rw [List.length_map]; omega) (HK.hash k)
  have hbig : 10 * SetTable.turns t.mask ≤ 1420 := by
    unfold SetTable.turns
    rcases B.tab.mok with e | e | e <;> omega
  unfold setSearch
  exact seek_from FH B hx hu h1 h2 h3 yes (fun h => no n h h2 h3) 100000 0 none rfl (Nat.zero_le _) (by omega) fun c' _ _ hc => absurd hc (Nat.not_lt_zero _)
end
end KX

set_option Elab.async false
set_option maxRecDepth 100000
set_option maxHeartbeats 3200000
/-! Putting in, laying anew. -/
namespace KX
open PySem PySem.Spec PyProof.Rows L2
section
variable {P : Program} {w : World} {κ : Type} [DecidableEq κ] {HK : HeapKind P w κ} {A : Around} {E : Value → Shared → Prop} {s : Shared} {a : Addr} {L : List (Addr × κ)} {es : Array (Int × Value)} {ep : Nat} {t : SetTable}
theorem is_but (FH : Fam HK) {h h' : Heap} {k : κ} {b : Addr} {o : Obj} (hb : HK.is h k b) (ho : h.get? a = some o) (hd : o.data = .set es ep t) (hs : Heap.SameBut a h h') : HK.is h' k b := by
  refine FH.stay hb fun o2 e => (hs.2 b fun z => ?_).trans e
  subst z
  exact FH.noset hb ho hd
/-- in another order -/
theorem ents_order (he : es.toList = entH HK L) (order : Array Nat) (hp : order.toList.Perm (List.range L.length)) :
    ∃ L2, (order.filterMap (es[·]?)).toList = entH HK L2 ∧ L2.Perm L ∧ hsH HK L2 = order.toList.map fun i => (es.map (·.1)).getD i 0 := by
  have lt : ∀ i ∈ order.toList, i < L.length := fun i hi => List.mem_range.mp (hp.mem_iff.mp hi)
  have one : ∀ l : List Nat, (∀ i ∈ l, i < L.length) → (l.filterMap (fun i => es[i]?) = entH HK (l.filterMap fun i => L[i]?)) ∧ hsH HK (l.filterMap fun i => L[i]?) = l.map fun i => (es.map (·.1)).getD i 0 := by
    intro l
    induction l with
    | nil => intro _; exact ⟨rfl, rfl⟩
    | cons i l ih =>
      intro hl
      have hi := List.getElem?_eq_getElem (hl i List.mem_cons_self)
      obtain ⟨e1, e2⟩ := ih fun j hj => hl j (List.mem_cons_of_mem _ hj)
      have hE := ent_at he hi
      have hD : (es.map (·.1)).getD i 0 = HK.hash (L[i]'(hl i List.mem_cons_self)).2 := by
        rw [Array.getD_eq_getD_getElem?, Array.getElem?_map, hE]
        rfl
      constructor
      · rw [List.filterMap_cons_some hE, List.filterMap_cons_some hi, e1]
        rfl
      · rw [List.filterMap_cons_some hi, List.map_cons, hD, ← e2]
        rfl
  obtain ⟨e1, e2⟩ := one order.toList lt
  refine ⟨_, by rw [Array.toList_filterMap]; exact e1, ?_, e2⟩
  have all : (List.range L.length).filterMap (fun i => L[i]?) = L := by
    refine List.ext_getElem? fun j => ?_
    have : ∀ n, n ≤ L.length → (List.range n).filterMap (fun i => L[i]?) = L.take n := by
      intro n
      induction n with
      | zero => intro _; rfl
      | succ n ih =>
        intro hn
        have hx := List.getElem?_eq_getElem (show n < L.length from hn)
        rw [List.range_succ, List.filterMap_append, ih (Nat.le_of_succ_le hn), List.filterMap_cons_some hx, List.take_succ, hx]
        rfl
    rw [this _ (Nat.le_refl _), List.take_length]
  rw [← all]
  conv => lhs; rw [all]
  exact hp.filterMap _
theorem relay_h (FH : Fam HK) {o : Obj} (ho : s.heap.get? a = some o) (hex : o.ExactSet) (hd : o.data = .set es ep t) (he : es.toList = entH HK L) (hz : t.place.toList.length = L.length) (hdm : t.dummies = #[]) (hfl : L.length ≤ t.mask) (nd : (L.map Prod.snd).Nodup) (ks : ∀ e ∈ L, HK.is s.heap e.2 e.1)
    (ld : w.params.followText "set-order" = true ∨ t.led = true) (fw : L.length < 64) {wanted M : Nat} (hw : SetTable.sizeAbove wanted - 1 = M) (hM : MaskOk M) (hw2 : SetTable.sizeAbove wanted ≤ 128) (hn : L.length * 5 < M * 3) {Q : Unit → Shared → Prop}
    (q : ∀ h' L' es' ep' t', Heap.SameBut a s.heap h' → SetB HK h' a L' es' ep' t' → L'.Perm L → Q () { s with heap := h' }) : wpAny (model P w) A (setRelay a wanted) Q E s := by
  have hl := ent_len he
  obtain ⟨t', order, e, hp, T, em, el, eq, ed⟩ := relaid_ok t (hs := es.map (·.1)) (wanted := wanted) hw hM (by rw [Array.size_map, hl]; omega)
  rw [Array.size_map, hl] at hp
  obtain ⟨L2, r1, r2, r3⟩ := ents_order he order hp
  rw [← r3] at T
  have z2 : (order.filterMap (es[·]?)).size = es.size := by rw [ent_len r1, r2.length_eq, hl]
  rw [setRelay_eq]
  refine wpAny_bind (wpAny_setState_of ho hd (fits_h he hz hdm hfl) ?_)
  dsimp only
  refine wp_if_neg (by rw [sizeLine_eq]; omega) ?_
  try refine wpAny_bind (wpAny_pure ?_)
  rw [e]
  dsimp only
  refine wpAny_bind ?_
  refine wp_if_neg (by rw [z2]; simp) ?_
  try refine wpAny_bind (wpAny_pure ?_)
  refine wpAny_pure ?_
  dsimp only
  have sb : Heap.SameBut a s.heap (s.heap.update a (Obj.putSet (order.filterMap (es[·]?)) t')) := Heap.SameBut.update ..
  refine wpAny_storeSet_of ho hd (q _ L2 (order.filterMap (es[·]?)) (ep + 1) t' sb ?_ r2) (by rw [z2, hl, sizeLine_eq]; omega)
  exact ⟨⟨_, store_at ho hd, ⟨hex.1, hex.2.1, hex.2.2⟩, rfl⟩, r1, T, (r2.map _).nodup_iff.mpr nd, fun p hp => is_but FH (ks p (r2.mem_iff.mp hp)) ho hd sb, by rw [el]; exact ld, by rw [r2.length_eq, em]; exact hn, by rw [r2.length_eq]; exact fw⟩
theorem wp_mark {β : Type} {c : Prop} [Decidable c] {m : Sem Bool} {F : Bool → Sem β} {Q : β → Shared → Prop} (h1 : c → ∀ Q' : Bool → Shared → Prop, (∀ b, Q' b s) → wpAny (model P w) A m Q' E s) (h : ∀ b, wpAny (model P w) A (F b) Q E s) : wpAny (model P w) A (if c then m >>= F else pure true >>= F) Q E s := by
  by_cases e : c
  · rw [if_pos e]
    exact wpAny_bind (h1 e _ h)
  · rw [if_neg e]
    exact wpAny_bind (wpAny_pure (h true))
theorem add_h (FH : Fam HK) (B : SetB HK s.heap a L es ep t) {x : Addr} {k : κ} (hx : HK.is s.heap k x) (hu : HK.room A) (fw : L.length + 1 < 64) {Q : Bool → Shared → Prop}
    (q : ∀ b h' L' es' ep' t', Heap.SameBut a s.heap h' → SetB HK h' a L' es' ep' t' → ((k ∈ L.map Prod.snd ∧ L' = L) ∨ L'.Perm ((x, k) :: L)) → Q b { s with heap := h' }) : wpAny (model P w) A (setAddHashed a (.ref x) (HK.hash k)) Q E s := by
  obtain ⟨o, ho, hex, hd⟩ := B.obj
  have hl := ent_len B.ents
  have rm := B.rm
  unfold setAddHashed
  refine wpAny_holding ?_
  rw [show (100000 : Nat) = 99999 + 1 from rfl, setAddHashedIn_succ]
  refine wpAny_bind (wpAny_setState_of ho hd B.fits ?_)
  dsimp only
  refine wp_if_neg (by simp [byScan, Value.scannable]) ?_
  try refine wpAny_bind (wpAny_pure ?_)
  refine wpAny_bind (seek FH B hx hu (fun hm => ?_) fun n hm hn hb => ?_)
  · exact wpAny_pure (q false s.heap L es ep t (Heap.SameBut.refl a s.heap) B (.inl ⟨hm, rfl⟩))
  dsimp only
  refine wpAny_bind (wpAny_setState_of ho hd B.fits ?_)
  dsimp only
  obtain ⟨q1, q2, q3, q4, q5, q6, _, _, q9⟩ := B.tab.put hn hb
  generalize t.put (way t.mask (HK.hash k) n) = pt at q1 q3 q4 q5 q9 ⊢
  obtain ⟨t0, p⟩ := pt
  dsimp only at q1 q3 q4 q5 q9 ⊢
  subst q1
  have off : ∀ b : Bool, TabOk (if b = true then t0 else { t0 with plain := false }) ((hsH HK L).take (SetTable.below t.place (way t.mask (HK.hash k) n)) ++ HK.hash k :: (hsH HK L).drop (SetTable.below t.place (way t.mask (HK.hash k) n))) ∧
      (if b = true then t0 else { t0 with plain := false }).mask = t.mask ∧ (if b = true then t0 else { t0 with plain := false }).led = t.led ∧ (if b = true then t0 else { t0 with plain := false }).fill = (hsH HK L).length + 1 := fun b => by
    cases b
    · exact ⟨⟨q3.ris, q3.dm, q3.sz, q3.mok, q3.bd, q3.reach⟩, q4, q5, q9⟩
    · exact ⟨q3, q4, q5, q9⟩
  refine wp_mark (fun _ Q' hq => FH.valT hx hq) fun b => ?_
  obtain ⟨q3, q4, q5, q9⟩ := off b
  clear off
  generalize (if b = true then t0 else { t0 with plain := false }) = t1 at q3 q4 q5 q9 ⊢
  generalize hp : SetTable.below t.place (way t.mask (HK.hash k) n) = p at q2 q3 ⊢
  have hq2 : p ≤ L.length := by
    have := q2
    unfold hsH at this
    rw [List.length_map] at this
    exact this
  have hin : (SetTable.insertAt es p (HK.hash k, Value.ref x)).toList = entH HK (L.take p ++ (x, k) :: L.drop p) := by
    rw [SetTable.toList_insertAt, B.ents]
    unfold entH
    rw [List.map_append, List.map_cons, List.map_take, List.map_drop]
  have hhs : hsH HK (L.take p ++ (x, k) :: L.drop p) = (hsH HK L).take p ++ HK.hash k :: (hsH HK L).drop p := by
    unfold hsH
    rw [List.map_append, List.map_cons, List.map_take, List.map_drop]
  rw [← hhs] at q3
  have pm : (L.take p ++ (x, k) :: L.drop p).Perm ((x, k) :: L) := by
    have h : (L.take p ++ (x, k) :: L.drop p).Perm ((x, k) :: (L.take p ++ L.drop p)) := List.perm_middle
    rwa [List.take_append_drop] at h
  generalize L.take p ++ (x, k) :: L.drop p = L1 at hin q3 pm
  generalize SetTable.insertAt es p (HK.hash k, Value.ref x) = es1 at hin ⊢
  have l1 : L1.length = L.length + 1 := pm.length_eq
  have z1 := ent_len hin
  have nd1 : (L1.map Prod.snd).Nodup := (pm.map _).nodup_iff.mpr (List.nodup_cons.mpr ⟨hm, B.nd⟩)
  refine wpAny_bind (wpAny_storeSet_of ho hd ?_ (by rw [z1, l1, sizeLine_eq]; omega))
  have sb : Heap.SameBut a s.heap (s.heap.update a (Obj.putSet es1 t1)) := Heap.SameBut.update ..
  have ho1 := store_at (es' := es1) (t' := t1) ho hd
  generalize s.heap.update a (Obj.putSet es1 t1) = h1 at sb ho1 ⊢
  have ks1 : ∀ e ∈ L1, HK.is h1 e.2 e.1 := fun e he => by
    rcases List.mem_cons.mp (pm.mem_iff.mp he) with rfl | he
    · exact is_but FH hx ho hd sb
    · exact is_but FH (B.ks e he) ho hd sb
  have ld1 : w.params.followText "set-order" = true ∨ t1.led = true := by rw [q5]; exact B.ld
  have q9 : t1.fill = L.length + 1 := by rw [q9]; unfold hsH; rw [List.length_map]
  by_cases hf : t1.tooFull = true
  · have full : (L.length + 1) * 5 ≥ t1.mask * 3 := by
      have h := hf
      unfold SetTable.tooFull at h
      rw [decide_eq_true_eq, q9] at h
      exact h
    have two : (t.mask = 7 ∧ L.length = 4) ∨ (t.mask = 31 ∧ L.length = 18) := by
      rw [q4] at full
      rcases B.tab.mok with e | e | e <;> rw [e] at full rm <;> first | exact .inl ⟨e, by omega⟩ | exact .inr ⟨e, by omega⟩ | (exfalso; omega)
    have fl1 : L1.length ≤ t1.mask := by rw [l1, q4]; rcases two with ⟨e, e2⟩ | ⟨e, e2⟩ <;> omega
    have go : ∀ M, SetTable.sizeAbove (SetTable.grown (L.length + 1)) - 1 = M → MaskOk M → SetTable.sizeAbove (SetTable.grown (L.length + 1)) ≤ 128 → (L.length + 1) * 5 < M * 3 →
        wpAny (model P w) A (setRelay a (SetTable.grown (L.length + 1))) (fun _ s' => wpAny (model P w) A (pure true) Q E s') E { s with heap := h1 } := fun M g1 g2 g3 g4 =>
      relay_h (s := { s with heap := h1 }) FH ho1 ⟨hex.1, hex.2.1, hex.2.2⟩ rfl hin (tab_len q3) q3.dm fl1 nd1 ks1 ld1 (by omega) g1 g2 g3 (by rw [l1]; exact g4)
        fun h2 L2 es2 ep2 t2 sb2 B2 pm2 => wpAny_pure (q true h2 L2 es2 ep2 t2 (sb.trans sb2) B2 (.inr (pm2.trans pm)))
    rw [hl]
    first
      | (refine wpAny_bind ?_; refine wp_if_pos (by simp [hf]) ?_)
      | (refine wp_if_pos (by simp [hf]) ?_; refine wpAny_bind ?_)
    rcases two with ⟨_, e2⟩ | ⟨_, e2⟩
    · exact go 31 (by rw [e2, size_20]) (.inr (.inl rfl)) (by rw [e2, size_20]; decide) (by omega)
    · exact go 127 (by rw [e2, size_76]) (.inr (.inr rfl)) (by rw [e2, size_76]; decide) (by omega)
  · have rm1 : L1.length * 5 < t1.mask * 3 := by
      have h := hf
      unfold SetTable.tooFull at h
      rw [decide_eq_true_eq, q9] at h
      rw [l1]
      omega
    first
      | refine wp_if_neg (by simp [hf]) ?_
      | (refine wpAny_bind ?_; refine wp_if_neg (by simp [hf]) ?_; refine wpAny_pure ?_)
    exact wpAny_pure (q true h1 L1 es1 (ep + 1) t1 sb ⟨⟨_, ho1, ⟨hex.1, hex.2.1, hex.2.2⟩, rfl⟩, hin, q3, nd1, ks1, ld1, rm1, by omega⟩ (.inr pm))
end
end KX

set_option Elab.async false
set_option maxRecDepth 100000
set_option maxHeartbeats 3200000
/-! set(xs), len(set(xs)) of a list of such keys. -/
namespace KX
open PySem PySem.Spec PyProof.Rows L2
section
variable {P : Program} {w : World} {κ : Type} [DecidableEq κ] {HK : HeapKind P w κ} {A : Around} {E : Value → Shared → Prop} {s : Shared}
/-- what the first i of ks have left in a set -/
structure AccH (HK : HeapKind P w κ) (h0 : Heap) (ks : List (Addr × κ)) (i : Nat) (L : List (Addr × κ)) : Prop where
  old : ∀ e ∈ L, HK.is h0 e.2 e.1
  mem : ∀ k, k ∈ L.map Prod.snd ↔ k ∈ (ks.take i).map Prod.snd
  len : L.length ≤ i
theorem SetB.at (FH : Fam HK) {h h' : Heap} {a : Addr} {L : List (Addr × κ)} {es : Array (Int × Value)} {ep : Nat} {t : SetTable} (B : SetB HK h a L es ep t) (ha : ∀ o, h.get? a = some o → h'.get? a = some o) (ks : ∀ e ∈ L, HK.is h' e.2 e.1) : SetB HK h' a L es ep t := by
  obtain ⟨o, ho, r⟩ := B.obj
  exact ⟨⟨o, ha o ho, r⟩, B.ents, B.tab, B.nd, ks, B.ld, B.rm, B.fw⟩
abbrev newSetO (w : World) : Obj := { cls := .type "set", dict := none, data := .set #[] 0 (.fresh 0 0 (!w.params.followText "set-order")) }
theorem setB_new {h : Heap} {a : Addr} (ho : h.get? a = some (newSetO w)) : SetB HK h a [] #[] 0 (.fresh 0 0 (!w.params.followText "set-order")) where
  obj := ⟨_, ho, ⟨rfl, rfl, rfl⟩, rfl⟩
  ents := rfl
  tab := ⟨List.Pairwise.nil, rfl, rfl, .inl rfl, fun x hx => (by cases hx), fun i h j hi => (by simp [hsH] at hi)⟩
  nd := List.nodup_nil
  ks := fun p hp => (by cases hp)
  ld := by
    show _ ∨ (!w.params.followText "set-order") = true
    cases w.params.followText "set-order"
    · exact .inr rfl
    · exact .inl rfl
  rm := by show 0 * 5 < 7 * 3; decide
  fw := by show 0 < 64; decide
theorem update_h (FH : Fam HK) {I : Addr} {fp wr : List Addr} {G : Array GenState → Array GenState → Prop} {n : Nat} {Pv : Nat → Value → Prop} {St : Nat → Shared → Prop} {R : Result → Shared → Prop} (W : WalksS P w A.in1 I fp wr G n Pv St) (S : Addr) (hSf : S ∉ fp) (ks : List (Addr × κ)) (hn : n = ks.length) (fw : ks.length < 64)
    (hv : ∀ i v, Pv i v → ∃ e, ks[i]? = some e ∧ v = .ref e.1) (h0 : Heap) (hk : ∀ e ∈ ks, HK.is h0 e.2 e.1) (hS0 : h0.get? S = none) (hw0 : ∀ b ∈ wr, h0.get? b = none) (hu : HK.room A.in1) :
    ∀ (m i : Nat) (s : Shared), n - i = m → i ≤ n → St i s → (∀ b o, h0.get? b = some o → s.heap.get? b = some o) → (∃ L es ep t, SetB HK s.heap S L es ep t ∧ AccH HK h0 ks i L) →
      (∀ s' L es ep t, Moved (S :: wr) G s s' → SetB HK s'.heap S L es ep t → AccH HK h0 ks n L → (∀ b o, h0.get? b = some o → s'.heap.get? b = some o) → R (.ok (.ret .none)) s') → codeAny (model P w) A (.builtin "set.update.loop" ⟨[.ref S, .ref I], []⟩) R s := by
  have hSw : S ∉ wr := fun h => hSf (W.sub _ h)
  have up : ∀ b ∈ wr, b ∈ S :: wr := fun b hb => List.mem_cons_of_mem _ hb
  have going : ∀ {s s' : Shared}, Moved wr G s s' → (∀ b o, h0.get? b = some o → s.heap.get? b = some o) → ∀ b o, h0.get? b = some o → s'.heap.get? b = some o := fun hm hkp b o e => hm.heap b o (fun hb => by rw [hw0 b hb] at e; cases e) (hkp b o e)
  have here : ∀ {h' : Heap} {L : List (Addr × κ)} {i : Nat}, AccH HK h0 ks i L → (∀ b o, h0.get? b = some o → h'.get? b = some o) → ∀ e ∈ L, HK.is h' e.2 e.1 := fun acc hkp e he => FH.stay (acc.old e he) fun o z => hkp _ o z
  intro m
  induction m with
  | zero =>
    intro i s hm hi hst hkp ⟨L, es, ep, t, B, acc⟩ q
    obtain rfl : i = n := by omega
    refine codeAny_builtin F.entry_set_update_loop ?_
    rw [Around.under_plainId F.plain_set_update_loop _]
    show wpAny _ A.in1 (pyNext (.ref I) >>= _) _ _ s
    refine wpAny_bind (W.done s _ _ hst fun s' hm => ?_)
    show wpAny _ A.in1 (ret Value.none) _ _ s'
    have hkp' := going hm hkp
    exact wpAny_pure (q s' L es ep t (hm.mono up) (B.at FH (fun o e => hm.heap S o hSw e) (here acc hkp')) acc hkp')
  | succ m ih =>
    intro i s hm hi hst hkp ⟨L, es, ep, t, B, acc⟩ q
    have lt : i < n := by omega
    refine codeAny_builtin F.entry_set_update_loop ?_
    rw [Around.under_plainId F.plain_set_update_loop _]
    show wpAny _ A.in1 (pyNext (.ref I) >>= _) _ _ s
    refine wpAny_bind (W.item i s _ _ lt hst fun v s' hP hst' hm => ?_)
    obtain ⟨⟨x, k⟩, he, rfl⟩ := hv i v hP
    have hkp' := going hm hkp
    have B' := B.at FH (fun o e => hm.heap S o hSw e) (here acc hkp')
    have hx0 := hk _ (List.mem_of_getElem? he)
    have hx : HK.is s'.heap k x := FH.stay hx0 fun o z => hkp' _ o z
    have tk : ks.take (i + 1) = ks.take i ++ [(x, k)] := by rw [List.take_succ, he]; rfl
    show wpAny _ A.in1 (holding [Value.ref x] (setAdd S (.ref x)) >>= _) _ _ s'
    refine wpAny_bind (wpAny_holding ?_)
    unfold setAdd
    refine wpAny_holding (wpAny_bind (HK.pyHash hu hx ?_))
    refine add_h (s := { s' with toks := s'.toks + HK.draws k }) FH B' hx hu (by have := acc.len; omega) fun b h' L' es' ep' t' sb B2 cs => ?_
    have hkp2 : ∀ b o, h0.get? b = some o → h'.get? b = some o := fun b o e => (sb.2 b fun z => by rw [z, hS0] at e; cases e).trans (hkp' b o e)
    have acc' : AccH HK h0 ks (i + 1) L' := by
      have one : ∀ k', k' ∈ (ks.take (i + 1)).map Prod.snd ↔ k' ∈ L.map Prod.snd ∨ k' = k := fun k' => by
        rw [tk, List.map_append, List.mem_append, acc.mem k']
        exact or_congr Iff.rfl List.mem_singleton
      rcases cs with ⟨hm, rfl⟩ | pm
      · exact ⟨acc.old, fun k' => by rw [one]; exact ⟨.inl, fun z => z.elim id fun z => z ▸ hm⟩, Nat.le_succ_of_le acc.len⟩
      · refine ⟨fun e he => ?_, fun k' => ?_, by rw [pm.length_eq]; exact Nat.succ_le_succ acc.len⟩
        · rcases List.mem_cons.mp (pm.mem_iff.mp he) with rfl | he
          · exact hx0
          · exact acc.old e he
        · rw [one, (pm.map Prod.snd).mem_iff, List.map_cons, List.mem_cons]
          exact Or.comm
    refine wpAny_pure ⟨plainId_quiet F.plain_set_update_loop _, ih (i + 1) _ (by omega) lt (W.frame _ s' _ _ hst' (Nat.le_add_right _ _) fun b hb o e => ?_) hkp2 ⟨L', es', ep', t', B2, acc'⟩ fun s'' L2 es2 ep2 t2 hm2 hB hacc hkp3 => ?_⟩
    · exact (sb.2 b fun z => hSf (z ▸ hb)).trans e
    · exact q s'' L2 es2 ep2 t2 (Moved.trans W.gtrans ((hm.mono up).then_heap (Nat.le_add_right _ _) fun b o hb e => (sb.2 b fun z => hb (z ▸ List.mem_cons_self)).trans e) hm2) hB hacc hkp3
theorem call_setH (FH : Fam HK) {l : Addr} {items : Array Value} (ks : List (Addr × κ)) {Q : Value → Shared → Prop} (hh : A.handled = none) (hl : s.heap.IsList l items) (hit : items.toList = ks.map fun e => Value.ref e.1) (hk : ∀ e ∈ ks, HK.is s.heap e.2 e.1) (fw : ks.length < 64) (hu : HK.room A.in1.in1.in1)
    (q : ∀ (h' : Heap) (tk : Nat) L es ep t, SetB HK h' s.heap.objs.size L es ep t → AccH HK s.heap ks ks.length L → (∀ b o, s.heap.get? b = some o → h'.get? b = some o) → Q (.ref s.heap.objs.size) { s with heap := h', toks := tk }) : wpAny (model P w) A (call (.type "set") [.ref l]) Q E s := by
  have hz : items.size = ks.length := by rw [← Array.length_toList, hit]; exact List.length_map ..
  obtain ⟨c, tl, hmro⟩ := F.called_set.mro
  have hmade := F.called_set.made
  have hsub := F.called_set.sub
  refine wpAny_call (codeAny_of_tree ?_)
  show wpAny _ _ (callAny (.type "set") _) _ _ _
  refine wpAny_pure ⟨Code.quiet_builtin _ (by decide +kernel), codeAny_builtin F.entry_type_call ?_⟩
  rw [Around.under_plain (weight_type_call_type "set" [.ref l] []) rfl]
  have hnt := F.called_set.notType
  have hcc := F.called_set.canCreate
  have htc := F.typeCall_set_1 (.ref l)
  repeat (any_goals (first | assumption | wp_step))
  refine codeAny_mono (code_set_led1 (.ref l) (E := E) (Q₁ := fun obj s₁ => obj = .ref s.heap.objs.size ∧ s₁ = { s with heap := s.heap.push (newSetO w) }) ⟨rfl, rfl⟩) fun r s₁ hr => ?_
  match r, hr with
  | .error e, hr => exact hr
  | .ok (.ret obj), hr =>
  obtain ⟨rfl, rfl⟩ := hr
  have hS : (s.heap.push (newSetO w)).get? s.heap.objs.size = some (newSetO w) := Heap.get?_push_size _ rfl
  have hT : Shared.TypeIs { s with heap := s.heap.push (newSetO w) } (.ref s.heap.objs.size) "set" := ⟨_, hS, rfl⟩
  have hlk := F.called_set.init.lookup
  have hbd := F.called_set.init.bind (.ref s.heap.objs.size)
  repeat (any_goals (first | assumption | wp_step))
  refine codeAny_mono (codeAny_call_builtin (R := wants (fun r s₂ => r = .none ∧ Q (.ref s.heap.objs.size) s₂) E) F.called_set.init.plain F.entry_set_init (check_set_init_1 hT ?_)) fun r₂ s₂ hr₂ => ?_
  rotate_left
  · match r₂, hr₂ with
    | .error e, hr₂ => exact hr₂
    | .ok (.ret r), hr₂ =>
      obtain ⟨rfl, hQ⟩ := hr₂
      repeat (any_goals (first | assumption | wp_step))
  obtain ⟨⟨oc, od, odt, osl⟩, hol, hcl, nl, hdl⟩ := hl
  simp only at hcl hdl
  subst hcl hdl
  have hlS : l < s.heap.objs.size := Heap.lt_size hol
  have hol1 := Heap.get?_push_of_some (newSetO w) hol
  have hl1 : (s.heap.push (newSetO w)).IsList l items := ⟨_, hol1, rfl, nl, rfl⟩
  have hsls := F.sub_list_set
  have hslf := F.sub_list_frozenset
  have hne : (Value.type "list" == Value.type "dict") = false := by decide
  unfold Builtin.«set.__init__» noKeywords Builtin.Frozenset.updateFrom
  generalize hPI : pyIter = PI
  wp_walk
  subst hPI
  refine wpAny_pyIter_list hl1 ?_
  refine wpAny_bind (wpAny_runValue ?_)
  have hsz : (s.heap.push (newSetO w)).objs.size = s.heap.objs.size + 1 := Heap.size_push ..
  have off : ∀ b, s.heap.objs.size ≤ b → s.heap.get? b = none := fun b hb => by
    cases e : s.heap.get? b with
    | none => rfl
    | some o => exact absurd (Nat.lt_of_lt_of_le (Heap.lt_size e) hb) (Nat.lt_irrefl _)
  have hlI : l ≠ (s.heap.push (newSetO w)).objs.size := by rw [hsz]; exact Nat.ne_of_lt (Nat.lt_succ_of_lt hlS)
  have hSf : s.heap.objs.size ∉ [(s.heap.push (newSetO w)).objs.size, l] := by
    rw [hsz]
    simp only [List.mem_cons, List.not_mem_nil, or_false, not_or]
    exact ⟨Nat.ne_of_lt (Nat.lt_succ_self _), Nat.ne_of_gt hlS⟩
  have hv : ∀ (i : Nat) (v : Value), items[i]? = some v → ∃ e, ks[i]? = some e ∧ v = .ref e.1 := fun i v hv => by
    rw [← Array.getElem?_toList, hit, List.getElem?_map] at hv
    obtain ⟨e, h1, h2⟩ := Option.map_eq_some_iff.mp hv
    exact ⟨e, h1, h2.symm⟩
  have hk1 : ∀ b o, s.heap.get? b = some o → ((s.heap.push (newSetO w)).push { cls := .type "list_iterator", data := .fields #[.ref l, .int 0 0] }).get? b = some o := fun b o e => Heap.get?_push_of_some _ (Heap.get?_push_of_some _ e)
  have hh3 : A.in1.in1.in1.handled = none := hh
  refine update_h FH ((Walks.list hh3 (s.heap.push (newSetO w)).objs.size l hlI items).toS) s.heap.objs.size hSf ks hz fw hv s.heap hk (off _ (Nat.le_refl _)) (fun b hb => off b (by rw [List.mem_singleton.mp hb, hsz]; exact Nat.le_succ _)) hu (items.size - 0) 0 _ (by omega) (Nat.zero_le _)
    ⟨⟨_, Heap.get?_push_size _ rfl, rfl, rfl⟩, hl1.push _⟩ hk1 ⟨[], #[], 0, _, setB_new (Heap.get?_push_of_some _ hS), fun e he => absurd he (by simp), fun k => by simp, Nat.le_refl _⟩ ?_
  intro s' L es ep t hm B acc hkp
  obtain ⟨h', g2, d', tk', os'⟩ := s'
  have eg : g2 = s.gens := hm.gens
  have ed : d' = s.drawn := hm.drawn
  have eo : os' = s.os := hm.os
  subst eg ed eo
  refine wpAny_pure ?_
  show wpAny _ _ (ret Value.none) _ _ _
  rw [hz] at acc
  exact wpAny_pure ⟨rfl, q h' tk' L es ep t B acc hkp⟩
end
end KX

set_option Elab.async false
set_option maxRecDepth 100000
set_option maxHeartbeats 2000000
/-! len(set(xs)) of a list of tuples of texts and ints. -/
namespace KX
open PySem PySem.Spec PyProof.Rows L2
abbrev MK (P : Program) (w : World) : HeapKind P w (List Key) := tupleKind (mixKind P w)
theorem mix_items {P : Program} {w : World} {k : List Key} {vs : List Value} (h : ItemsAre (mixKind P w) k vs) : ∀ v ∈ vs, (∃ i t, v = Value.int i t) ∨ ∃ x t, v = Value.str x t := by
  induction h with
  | nil => intro v hv; cases hv
  | @cons k0 v' ks vs h1 _ ih =>
    intro v hv
    rcases List.mem_cons.mp hv with rfl | hv
    · rcases keyIs_shape (show keyIs k0 v = true from h1) with ⟨i, t, _, e⟩ | ⟨x, t, _, e⟩
      · exact .inl ⟨i, t, e⟩
      · exact .inr ⟨x, t, e⟩
    · exact ih v hv
theorem cls_mix (n : Nat) {v : Value} (h : (∃ i t, v = Value.int i t) ∨ ∃ x t, v = Value.str x t) : ofAClassStatement n v = pure false := by
  rcases h with ⟨i, t, rfl⟩ | ⟨x, t, rfl⟩ <;> cases n <;> rfl
theorem val_mix (n : Nat) {v : Value} (h : (∃ i t, v = Value.int i t) ∨ ∃ x t, v = Value.str x t) : ∃ b, hashByValue n v = pure b := by
  rcases h with ⟨i, t, rfl⟩ | ⟨x, t, rfl⟩
  · exact ⟨true, by cases n <;> rfl⟩
  · exact ⟨false, by cases n <;> rfl⟩
theorem fam_mix {P : Program} {w : World} : Fam (MK P w) where
  stay := fun {h h' k a} hk q => by
    obtain ⟨o, items, n, ho, r⟩ := (hk : IsTupleKey (mixKind P w) h k a)
    exact (⟨o, items, n, q o ho, r⟩ : IsTupleKey (mixKind P w) h' k a)
  noset := fun {h k a o es ep t} hk ho hd => by
    obtain ⟨o', items, n, ho', _, hd', _⟩ := (hk : IsTupleKey (mixKind P w) h k a)
    rw [ho] at ho'
    rw [← Option.some.inj ho', hd] at hd'
    cases hd'
  clsF := fun {A E s k a Q} hk h => by
    have hk : IsTupleKey (mixKind P w) s.heap k a := hk
    have hT := hk.typeIs
    obtain ⟨o, items, n, ho, _, hd, hi⟩ := hk
    unfold ofAClassStatement
    refine wpAny_bind (wpAny_typeOf hT ?_)
    dsimp only
    have e : (("tuple" : String) == "tuple") = true := by decide
    simp only [e, if_true, Bool.not_true, Bool.false_eq_true, if_false]
    try refine wpAny_bind (wpAny_pure ?_)
    try simp only [Bool.not_true, Bool.false_eq_true, if_false]
    show wpAny _ _ (seqItems? (.ref a) >>= _) _ _ s
    refine wpAny_bind (wpAny_seqItems ho hd ?_)
    dsimp only
    refine wpAny_bind ?_
    show wpAny _ _ (forIn items _ _) _ _ s
    rw [← Array.forIn_toList]
    refine wpAny_forIn_list _ (fun rest r s' => r.1 = none ∧ s' = s ∧ ∀ v ∈ rest, (∃ i t, v = Value.int i t) ∨ ∃ x t, v = Value.str x t) _ ?_ ?_ _ _ ⟨rfl, rfl, mix_items hi⟩
    · rintro v rest r s' ⟨_, rfl, all⟩
      rw [cls_mix _ (all v List.mem_cons_self)]
      refine wpAny_bind (wpAny_pure ?_)
      simp only [Bool.false_eq_true, if_false]
      exact wpAny_pure ⟨rfl, rfl, fun u hu => all u (List.mem_cons_of_mem _ hu)⟩
    · rintro ⟨r1, r2⟩ s' ⟨hr, rfl, _⟩
      simp only at hr
      subst hr
      exact wpAny_pure h
  valT := fun {A E s k a Q} hk h => by
    have hk : IsTupleKey (mixKind P w) s.heap k a := hk
    have hT := hk.typeIs
    obtain ⟨o, items, n, ho, _, hd, hi⟩ := hk
    unfold hashByValue
    refine wpAny_bind (wpAny_specialOf hT F.slot_tuple_hash.lookup ?_)
    show wpAny _ _ (seqItems? (.ref a) >>= _) _ _ s
    refine wpAny_bind (wpAny_seqItems ho hd ?_)
    refine wpAny_bind ?_
    show wpAny _ _ (forIn items _ _) _ _ s
    rw [← Array.forIn_toList]
    refine wpAny_forIn_list _ (fun rest r s' => r.1 = none ∧ s' = s ∧ ∀ v ∈ rest, (∃ i t, v = Value.int i t) ∨ ∃ x t, v = Value.str x t) _ ?_ ?_ _ _ ⟨rfl, rfl, mix_items hi⟩
    · rintro v rest r s' ⟨_, rfl, all⟩
      have all' := fun u hu => all u (List.mem_cons_of_mem v hu)
      obtain ⟨b, hb⟩ := val_mix 7 (all v List.mem_cons_self)
      rw [hb]
      refine wpAny_bind (wpAny_pure ?_)
      cases b
      · simp only [Bool.not_false, if_true]
        exact wpAny_pure (show wpAny _ _ (pure false) _ _ _ from wpAny_pure (h _))
      · simp only [Bool.not_true, Bool.false_eq_true, if_false]
        exact wpAny_pure ⟨rfl, rfl, all'⟩
    · rintro ⟨r1, r2⟩ s' ⟨hr, rfl, _⟩
      simp only at hr
      subst hr
      exact wpAny_pure (h _)
/-- unlike ones of a list, as many as it has: the same ones -/
theorem nodup_sub_perm {α : Type} [DecidableEq α] : ∀ (l d : List α), l.Nodup → (∀ x ∈ l, x ∈ d) → d.length ≤ l.length → l.Perm d
  | [], d, _, _, h => by rw [List.eq_nil_of_length_eq_zero (Nat.le_zero.mp h)]
  | x :: l, d, hn, hs, h => by
    obtain ⟨h1, h2⟩ := List.nodup_cons.mp hn
    have hx : x ∈ d := hs x List.mem_cons_self
    have q := nodup_sub_perm l (d.erase x) h2 (fun y hy => (List.mem_erase_of_ne (fun e : y = x => h1 (by rw [← e]; exact hy))).2 (hs y (List.mem_cons_of_mem _ hy))) (by
      rw [List.length_erase_of_mem hx]
      rw [List.length_cons] at h
      omega)
    exact (q.cons x).trans (List.perm_cons_erase hx).symm
theorem items_of {P : Program} {w : World} : ∀ {ks : List Key} {us : List Value}, Vals (ks.map kV) us → ItemsAre (mixKind P w) ks us
  | [], _, .nil => .nil
  | .inl i :: ks, _, .cons h t => by
    obtain ⟨tk, rfl⟩ := h
    exact .cons (keyIs_int i tk) (items_of t)
  | .inr x :: ks, _, .cons h t => by
    obtain ⟨tk, rfl⟩ := h
    exact .cons (keyIs_str x tk) (items_of t)
section
variable {X : Cx}
def tLenSetH (K : PySem.W.Frag) (ta : TE) : TE := fun σ H Q => ta σ H fun x H1 => ∃ (l : Addr) (ts : List (Addr × List Key)), x = V.ref l ∧ SqL K H1 l (ts.map fun e => V.ref e.1) ∧ (∀ e ∈ ts, H1 e.1 = some (.tup (e.2.map kV))) ∧ ts.length < 64 ∧
  ∀ m : Nat, m ≤ ts.length → (m = ts.length ↔ (ts.map Prod.snd).Nodup) → Q (.int m) H1
theorem refs_items : ∀ {ts : List (Addr × List Key)} {us : List Value}, Vals (ts.map fun e => V.ref e.1) us → us = ts.map fun e => Value.ref e.1
  | [], _, .nil => rfl
  | _ :: _, _, .cons h t => by
    cases h
    rw [List.map_cons, ← refs_items t]
theorem pe_lenSetH {a : Expr} {ta : TE} {p p2 q pos : Pos} (hc : X.calm = true) (hu : X.A.units + 5 < cLine) (hg : Gl X "len") (hm : X.mg "len" = none) (hg2 : Gl X "set") (hm2 : X.mg "set" = none) (ha : PE X a ta)
    (na : starEach [a] X.env = (false, eval a X.env) :: starEach [] X.env := by rfl) : PE X (.Call (.Name "len" p) [.Call (.Name "set" p2) [a] [] q] [] pos) (tLenSetH X.K ta) := by
  refine ⟨fun pins s σ H Q I h => ?_⟩
  refine Call_ (ld_blt I hg hm PySem.boot_len ?_)
  refine PyProof.Rows.callWith_builtin1 (PyProof.Rows.args_cons ?_ rfl) rfl rfl
  refine Call_ (ld_blt I hg2 hm2 PyProof.Rows.boot_set ?_)
  refine PyProof.Rows.callWith_type1 (PyProof.Rows.args_cons (thn (ha.run pins s σ H _ I h) fun v s1 ⟨x, H1, I1, r1, q1⟩ => PyProof.Rows.args_nil ?_) na) na rfl
  obtain ⟨l, ts, rfl, hq, hk, fw, q1⟩ := q1
  cases r1
  obtain ⟨its, r, pl, hz⟩ := I1.list hq
  refine call_setH (HK := MK X.prog X.w) fam_mix ts (I1.ok.hd hc) pl.isList (refs_items (by simpa using r)) (fun e he => ?_) fw ?_ fun h' tk L es ep t B acc hkp => ?_
  · obtain ⟨_, us, hv, o, ho, hcl, n, hd⟩ := (I1.hok e.1 _ (hk e he) : ObjOk _ _ _ _ _ (.tup _))
    exact (⟨o, _, n, ho, hcl, hd, items_of (by simpa using hv)⟩ : IsTupleKey (mixKind X.prog X.w) s1.heap e.2 e.1)
  · show X.A.units + 1 + 1 + 1 < cLine
    omega
  · refine PyProof.Rows.args_nil ?_
    obtain ⟨o, ho, hex, hd⟩ := B.obj
    have hl : es.size = L.length := ent_len B.ents
    have I2 : Inv X pins σ H1 { s1 with heap := h', toks := tk } := I1.kept fun b o e => hkp b o e
    have hle := acc.len
    refine call_len_set ho hex hd (SetB.fits (s := { s1 with heap := h', toks := tk }) B) (by rw [hl]; omega) ⟨.int L.length, H1, I2.tok _, ⟨_, by rw [hl]⟩, q1 L.length acc.len ?_⟩
    have tk : ts.take ts.length = ts := List.take_length
    have mem := acc.mem
    rw [tk] at mem
    constructor
    · intro e
      have pm := nodup_sub_perm (L.map Prod.snd) (ts.map Prod.snd) B.nd (fun k hk => (mem k).mp hk) (by rw [List.length_map, List.length_map, e]; exact Nat.le_refl _)
      exact pm.nodup_iff.mp B.nd
    · intro e
      have pm := nodup_sub_perm (ts.map Prod.snd) (L.map Prod.snd) e (fun k hk => (mem k).mpr hk) (by rw [List.length_map, List.length_map]; exact acc.len)
      have := pm.length_eq
      rw [List.length_map, List.length_map] at this
      exact this.symm
end
end KX

set_option Elab.async false
set_option maxRecDepth 100000
set_option maxHeartbeats 2000000
namespace K08
open PySem PySem.Spec PyProof.Rows L2 He KX
abbrev sBDns : Stmt := inClass (top 13) 14
abbrev sBUnl : Stmt := inClass (top 13) 15
-- ["self", "spots", "spot"]
def spDns (K : PySem.W.Frag) : Sp := fun vs H Q _ => ∃ (a : Addr) (rows : List Rw), vs = [.ref a] ∧ BdAt K H a rows ∧ rows.length ≤ 1000 ∧ ∀ ns H', Same H H' → NmL rows ns → Q (.bl (firF rows ns).isNone) H'
/-- no row below place 1, no place with two rows -/
def UnlP (rows : List Rw) : Prop := (∀ x ∈ rows, 1 ≤ x.2.2) ∧ (rows.map fun x => x.2).Nodup
def spUnl (K : PySem.W.Frag) : Sp := fun vs H Q _ => ∃ (a : Addr) (rows : List Rw), vs = [.ref a] ∧ BdAt K H a rows ∧ rows.length < 64 ∧ ∀ (b : Bool) H', Same H H' → (b = true ↔ UnlP rows) → Q (.bl b) H'
theorem ents_ts {H : Hp} : ∀ {kvs : List (Key × V)} {rows : List Rw}, Ents H kvs rows → ∃ ts : List (Addr × List Key), kvs.map (·.2) = ts.map (fun e => V.ref e.1) ∧ (∀ e ∈ ts, H e.1 = some (.tup (e.2.map kV))) ∧ ts.map Prod.snd = rows.map fun x => ([Sum.inr x.2.1, Sum.inl x.2.2] : List Key)
  | _, _, .nil => ⟨[], rfl, fun _ h => absurd h (by simp), rfl⟩
  | kv :: kvs, x :: rows, .cons h t => by
    obtain ⟨ts, h1, h2, h3⟩ := ents_ts t
    obtain ⟨tp, e, ht⟩ := h.v
    refine ⟨(tp, [Sum.inr x.2.1, Sum.inl x.2.2]) :: ts, by rw [List.map_cons, List.map_cons, h1, e], fun e he => ?_, by rw [List.map_cons, List.map_cons, h3]⟩
    rcases List.mem_cons.mp he with rfl | he
    · exact ht
    · exact h2 e he
theorem spots_nd (rows : List Rw) : (rows.map fun x => ([Sum.inr x.2.1, Sum.inl x.2.2] : List Key)).Nodup ↔ (rows.map fun x => x.2).Nodup := by
  have e : (rows.map fun x => ([Sum.inr x.2.1, Sum.inl x.2.2] : List Key)) = (rows.map fun x => x.2).map fun q => ([Sum.inr q.1, Sum.inl q.2] : List Key) := by rw [List.map_map]; rfl
  rw [e]
  exact ⟨fun h => List.Pairwise.of_map (fun q : Str × Int => ([Sum.inr q.1, Sum.inl q.2] : List Key)) (fun a b hne e => hne (by rw [e])) h, fun h => List.Pairwise.map _ (fun a b hne e => hne (by
    injection e with e1 e2
    injection e2 with e2 _
    exact Prod.ext (Sum.inr.inj e1) (Sum.inl.inj e2))) h⟩
section
variable {P : Program} {w : World} {K : PySem.W.Frag} {mg : Str → Option Value} {base : Heap}
theorem scDns : FnScope ["self"] ["self"] (defScope sBDns) := ⟨rfl, rfl, rfl, by decide +kernel, rfl, by decide +kernel, by decide +kernel⟩
theorem scUnl : FnScope ["self", "spots", "spot"] ["self"] (defScope sBUnl) := ⟨rfl, rfl, rfl, by decide +kernel, rfl, by decide +kernel, by decide +kernel⟩
theorem ok_dns {f : Addr} {fd fdFf : FuncData} (F : MtP K "is_dense" "Board.is_dense" sBDns f fd) (S : Brd K) (GFf : FnOk P w K mg base CX0 2 (ma K (ga K "Board") "first_fault") fdFf ["self"] (spFf K)) (bFf : Binds K fdFf ["self"] []) :
    FnOk P w K mg base CX0 3 f fd ["self"] (spDns K) := by
  refine F.ok scDns (fun vs H Q E h => ?_) (fun cdv A outer s H vs Q E hr h => ?_)
  · obtain ⟨a, rows, rfl, _⟩ := h
    rfl
  · obtain ⟨a, rows, rfl, hB, hl, k⟩ := h
    have nd := scDns.nd
    have hr2 := hr.mono (j := 2) (by decide)
    refine ⟨_, PSs.nox (pss_one (ps_ret (pe_cmpR op_isN (pe_meth0 (pv 0) S.cls (S.mth "first_fault" (by decide)) GFf hr2 bFf .nil pass0) pe_non (nomark _)))), ?_⟩
    obtain ⟨dx, d0, kvs0, ha0, _⟩ := id hB
    refine ⟨_, rfl, a, dx, _, rfl, ha0, rfl, a, rows, rfl, hB, hl, fun v ns H' s hN hv => ?_⟩
    have q := k ns H' s hN
    cases e : firF rows ns with
    | none =>
      rw [e] at hv q
      obtain rfl := hv
      exact ⟨rfl, q⟩
    | some x =>
      rw [e] at hv q
      obtain ⟨t, rfl, _⟩ := hv
      exact ⟨rfl, q⟩
theorem ok_unl {f : Addr} {fd : FuncData} (F : MtP K "is_unlike" "Board.is_unlike" sBUnl f fd) (S : Brd K) (n_list : mg "list" = none) (n_len : mg "len" = none) (n_set : mg "set" = none) (n_all : mg "all" = none) :
    FnOk P w K mg base CX0 1 f fd ["self"] (spUnl K) := by
  refine F.ok scUnl (fun vs H Q E h => ?_) (fun cdv A outer s H vs Q E hr h => ?_)
  · obtain ⟨a, rows, rfl, _⟩ := h
    rfl
  · obtain ⟨a, rows, rfl, hB, hl, k⟩ := h
    have nd := scUnl.nd
    have hu5 : (A.deeper (envOfC "Board.is_unlike" (defScope sBUnl) s.heap.objs.size f cdv)).units + 5 < cLine := Nat.lt_of_le_of_lt (Nat.add_le_add_left (by decide : 5 ≤ 64) _) hr.units
    refine ⟨_, PSs.nox (pss_cons (ps_set (i := 1) nd rfl (Or.inl rfl) (pe_callTy (call_listV rfl) (by rfl) n_list (by decide +kernel) (pa_cons (pe_bm0 PySem.F.plainAttrs_dict PySem.F.slot_dict_values PySem.F.type_dict_values mt_values (pe_fld (pv 0) rfl)) pa_nil)))
(pss_one (ps_ret (pe_and (pe_cmpR op_eq (pe_lenSetH rfl hu5 (by rfl) n_len (by rfl) n_set (pv 1)) (pe_callB call_len_seq (by rfl) n_len PySem.boot_len (pa_cons (pv 1) pa_nil)) (nomark _)) (pe_one (pe_callB (cr_all rfl) (by rfl) n_all (by decide +kernel) (pa_cons (pe_lc (own := [("spot", 2)]) (g := (gName 2)) (tt := tYes) rfl nd (pi_list (pv 1)) (blkOk_by (own := [("spot", 2)]) (N := ["self", "spots", "spot"]) (sc := defScope sBUnl) (by decide +kernel)) (fun _ _ _ _ _ => (pg_name (i := 2) nd rfl (Or.inl rfl))) (fun _ _ _ _ _ => pts_nil) (fun _ _ _ _ _ => (pe_cmpR op_ge (pe_ix (show IxR _ (rIxT K) from ix_tup) (pv 2) pe_int (fun _ _ => rfl)) pe_int (nomark _)))) pa_nil))))))), ?_⟩
    obtain ⟨dx, d, kvs, ha, hd, hE, hN⟩ := hB
    refine ⟨_, rfl, a, _, dx, _, _, rfl, ha, S.cls, S.noat, rfl, .inr (.inr (.inl ⟨rfl, .inl ⟨_, hd⟩⟩)), d, kvs, rfl, rfl, hd, fun v nv => ?_⟩
    have sv := same_put (o := ViewO v d) nv
    have hv : upd H v (ViewO v d) v = some (ViewO v d) := upd_same
    generalize upd H v (ViewO v d) = H1 at sv hv ⊢
    refine ⟨v, d, kvs, rfl, hv, sv _ _ hd, fun l nl => ?_⟩
    have sl := sv.trans (same_put (o := .lst (kvs.map (·.2))) nl)
    obtain ⟨ts, t1, t2, t3⟩ := ents_ts hE
    have hlt : ts.length = rows.length := by
      have := congrArg List.length t3
      rw [List.length_map, List.length_map] at this
      exact this
    rw [t1] at sl ⊢
    have hl0 : upd H1 l (.lst (ts.map fun e => V.ref e.1)) l = some (.lst (ts.map fun e => V.ref e.1)) := upd_same
    generalize upd H1 l (.lst (ts.map fun e => V.ref e.1)) = H2 at sl hl0 ⊢
    dsimp only [gName, List.set]
    refine ⟨_, rfl, l, ts, rfl, SqL.of hl0, fun e he => sl _ _ (t2 e he), by rw [hlt]; exact hl, fun m hm hmn => ?_⟩
    refine ⟨_, rfl, l, _, rfl, .inl (SqL.of hl0), rfl, _, rfl, ?_⟩
    rw [List.length_map]
    rw [t3, spots_nd] at hmn
    by_cases c : m = ts.length
    · refine yes (by rw [c]; exact decide_eq_true rfl) ⟨_, rfl, l, rfl, ⟨_, SqL.of hl0⟩, fun D nD => ?_⟩
      refine lc_it (walk_list (K := K) (a := l) (xs := ts.map fun e => V.ref e.1)) (fun j X => X D = some (.lst (((rows.take j).map fun x => decide ((1 : Int) ≤ x.2.2)).map V.bl)) ∧ Same H2 X) ⟨upd_same, same_put nD⟩ (fun j X _ h => SqL.of (h.2 _ _ hl0)) ?_ ?_
      · rintro j x X' X hj ⟨hD, sX⟩ ⟨rfl, hx⟩
        rw [List.getElem?_map] at hx
        obtain ⟨e, he, rfl⟩ := Option.map_eq_some_iff.mp hx
        have he2 : (rows.map fun x => ([Sum.inr x.2.1, Sum.inl x.2.2] : List Key))[j]? = some e.2 := by rw [← t3, List.getElem?_map, he]; rfl
        rw [List.getElem?_map] at he2
        obtain ⟨r, hr2, e2⟩ := Option.map_eq_some_iff.mp he2
        have ht : X e.1 = some (.tup [V.str r.2.1, V.int r.2.2]) := by
          have := t2 e (List.mem_of_getElem? he)
          rw [← e2] at this
          exact sX _ _ (sl _ _ this)
        refine ⟨rfl, ?_⟩
        dsimp only [tYes]
        rw [if_pos rfl]
        refine ⟨_, rfl, e.1, _, _, _, rfl, rfl, SqT.of ht, rfl, ?_⟩
        refine ⟨_, _, rfl, rfl, ?_⟩
        refine ⟨_, hD, ?_, ?_, fun y o z => (upd_ne (ne_of_none z nD)).trans (sX _ _ z)⟩
        · rw [List.length_map, List.length_map, List.length_take, sizeLine_eq]
          omega
        · rw [upd_same, take_at hr2, List.map_append, List.map_append]
          rfl
      · rintro X ⟨hD, sX⟩
        rw [List.length_map, hlt, List.take_length] at hD
        refine ⟨D, _, rfl, SqL.of hD, k _ X (sl.trans sX) ?_⟩
        rw [List.all_map]
        constructor
        · intro h
          exact ⟨fun x hx => of_decide_eq_true (List.all_eq_true.mp h x hx), hmn.mp c⟩
        · intro h
          exact List.all_eq_true.mpr fun x hx => decide_eq_true (h.1 x hx)
    · refine no (decide_eq_false fun z => c (by injection z with z; exact Int.ofNat.inj z)) (k false _ sl ⟨fun z => (by cases z), fun h => absurd (hmn.mpr h.2) c⟩)
end
end K08

set_option Elab.async false
set_option maxRecDepth 100000
set_option maxHeartbeats 2000000
namespace K08
open PySem PySem.Spec PyProof.Rows L2 He KX
abbrev sPlc : Stmt := top 22
-- ["bag", "many", "places", "road", "turn", "sorts", "k"]
def spPlc : Sp := fun vs H Q _ => ∃ (b : Addr) (n : Int) (many : Nat), vs = [.ref b, .int many] ∧ Bag H b n ∧ n < 900000 ∧ many ≤ 100 ∧ ∀ (p : Addr) (ps : List Int) (G : Hp), p ≠ b → H p = none → Kept b H G → Bag G b (n + 200) → G p = some (.lst (ps.map V.int)) → ps.length = many → Q (.ref p) G
/-- a bag beside what was there -/
structure Bk (b : Addr) (H G : Hp) (m : Int) : Prop where
  bag : Bag G b m
  kept : Kept b H G
theorem Bk.keep {b : Addr} {H G G' : Hp} {m m' : Int} (h : Bk b H G m) (k : Kept b G G') (hB : Bag G' b m') : Bk b H G' m' := ⟨hB, h.kept.trans k⟩
theorem Bk.draw {b : Addr} {H G G' : Hp} {m m' : Int} (h : Bk b H G m) (k : But b G G') (hB : Bag G' b m') : Bk b H G' m' := h.keep k.kept hB
theorem Bk.same {b : Addr} {H G G' : Hp} {m : Int} (h : Bk b H G m) (s : Same G G') : Bk b H G' m := by
  obtain ⟨d, m', c, e, r⟩ := h.bag
  exact ⟨⟨d, m', c, s _ _ e, r⟩, h.kept.trans fun x o _ e => s _ _ e⟩
theorem Bk.le {b : Addr} {H G : Hp} {m m' : Int} (h : Bk b H G m) (q : m ≤ m') : Bk b H G m' := ⟨h.bag.mono q, h.kept⟩
theorem Bk.put {b p : Addr} {H G : Hp} {m : Int} {o : HO} (h : Bk b H G m) (pb : p ≠ b) (hp : H p = none) : Bk b H (upd G p o) m := ⟨h.bag.put pb, fun x o2 n e => (upd_ne (ne_of_none e hp)).trans (h.kept _ _ n e)⟩
theorem Bk.low {b p : Addr} {H G : Hp} {m : Int} (h : Bk b H G m) (hp : G p = none) : p ≠ b ∧ H p = none := by
  have pb := h.bag.ne hp
  refine ⟨pb, ?_⟩
  cases e : H p with
  | none => rfl
  | some o => rw [h.kept _ _ pb e] at hp; cases hp
section
variable {P : Program} {w : World} {K : PySem.W.Frag} {mg : Str → Option Value} {base : Heap}
theorem scPlc : FnScope ["bag", "many", "places", "road", "turn", "sorts", "k"] ["bag", "many"] (defScope sPlc) := ⟨rfl, rfl, rfl, by decide +kernel, rfl, by decide +kernel, by decide +kernel⟩
theorem ok_plc {f fO fD : Addr} {fd fdO fdD : FuncData} (F : FnP K "_law_places" sPlc f fd)
    (GO : FnOk P w K mg base CX0 2 fO fdO ["bag", "some"] (spOf K)) (bO : Binds K fdO ["bag", "some"] []) (kO : PySem.W.keepIn K (.ref fO) = true) (gO : mg "_law_of" = some (.ref fO))
    (GD : FnOk P w K mg base CX0 1 fD fdD ["bag", "many"] spDraw) (bD : Binds K fdD ["bag", "many"] []) (kD : PySem.W.keepIn K (.ref fD) = true) (gD : mg "_law_draw" = some (.ref fD))
    (n_range : mg "range" = none) : FnOk P w K mg base CX0 3 f fd ["bag", "many"] spPlc := by
  refine F.ok scPlc (fun vs H Q E h => ?_) (fun cdv A outer s H vs Q E hr h => ?_)
  · obtain ⟨b, n, many, rfl, _⟩ := h
    rfl
  · obtain ⟨b, n, many, rfl, hB, hn, hm, q⟩ := h
    have nd := scPlc.nd
    have hr1 := hr.mono (j := 1) (by decide)
    have hr2 := hr.mono (j := 2) (by decide)
    refine ⟨_, PSs.nox (pss_cons (ps_setLc (i := 2) (own := [("k", 6)]) (g := (gName 6)) (tt := tYes) rfl nd rfl rfl (sw_true rfl rfl rfl (by decide +kernel)) (pi_range1 (by rfl) n_range (pa_cons (pv 1) pa_nil)) (blkOk_by (own := [("k", 6)]) (N := ["bag", "many", "places", "road", "turn", "sorts", "k"]) (sc := defScope sPlc) (by decide +kernel)) (fun _ _ _ _ _ => (pg_name (i := 6) nd rfl (Or.inl rfl))) (fun _ _ _ _ _ => pts_nil) (fun _ _ _ _ _ => (pe_op op_add (pv 6) pe_int)))
(pss_cons (ps_set (i := 3) nd rfl (Or.inl rfl) (pe_call GD hr1 (by rfl) gD kD bD .nil pass0 (pa_cons (pv 0) (pa_cons pe_int pa_nil))))
(pss_cons (ps_if (pt_cmpR op_eq (pv 3) pe_int (nomark _))
(pss_one (ps_ret (pe_lc (own := [("k", 6)]) (g := (gName 6)) (tt := tYes) rfl nd (pi_range1 (by rfl) n_range (pa_cons (pv 1) pa_nil)) (blkOk_by (own := [("k", 6)]) (N := ["bag", "many", "places", "road", "turn", "sorts", "k"]) (sc := defScope sPlc) (by decide +kernel)) (fun _ _ _ _ _ => (pg_name (i := 6) nd rfl (Or.inl rfl))) (fun _ _ _ _ _ => pts_nil) (fun _ _ _ _ _ => (pe_op op_sub (pe_call GD hr1 (by rfl) gD kD bD .nil pass0 (pa_cons (pv 0) (pa_cons pe_int pa_nil))) pe_int)))))
pss_nil)
(pss_cons (ps_if (pt_cmpR op_gt (pv 1) pe_int (nomark _))
(pss_one (ps_for PassesOwn.never rfl (pi_range1 (by rfl) n_range (pa_cons (pv 3) pa_nil)) (pg_name (i := 4) nd rfl (Or.inl rfl))
(pss_cons (ps_set (i := 5) nd rfl (Or.inl rfl) (pe_lst (pa_cons pe_int (pa_cons (pe_un un_neg (pe_call GD hr1 (by rfl) gD kD bD .nil pass0 (pa_cons (pv 0) (pa_cons (pe_op op_pow pe_int pe_int) pa_nil)))) (pa_cons (pe_op op_add (pv 1) pe_int) (pa_cons (pe_op op_add (pe_op op_add (pv 1) pe_int) (pe_call GD hr1 (by rfl) gD kD bD .nil pass0 (pa_cons (pv 0) (pa_cons (pe_op op_pow pe_int pe_int) pa_nil)))) (pa_cons (pe_call GO hr2 (by rfl) gO kO bO .nil pass0 (pa_cons (pv 0) (pa_cons (pv 2) pa_nil))) pa_nil)))))))
(pss_one (ps_asg (pe_call GO hr2 (by rfl) gO kO bO .nil pass0 (pa_cons (pv 0) (pa_cons (pe_op op_cat (pv 5) (pe_lst (pa_cons (pe_call GO hr2 (by rfl) gO kO bO .nil pass0 (pa_cons (pv 0) (pa_cons (pv 2) pa_nil))) pa_nil))) pa_nil))) (pg_sub (pv 2) (pe_call GD hr1 (by rfl) gD kD bD .nil pass0 (pa_cons (pv 0) (pa_cons (pv 1) pa_nil))) set_list))))))
pss_nil)
(pss_one (ps_ret (pv 2))))))), ?_⟩
    have bk : Bk b H H n := ⟨hB, Kept.refl b H⟩
    refine ⟨_, rfl, _, rfl, by omega, by omega, fun D nD => ?_⟩
    obtain ⟨Db, D0⟩ := bk.low nD
    rw [Int.toNat_natCast]
    refine lc_it (walk_rng (n := many)) (fun j X => ∃ ps : List Int, X D = some (.lst (ps.map V.int)) ∧ ps.length = j ∧ Bk b H X n) ⟨[], upd_same, rfl, bk.same (same_put nD)⟩ (fun _ _ _ _ => trivial) ?_ ?_
    · rintro j x X' X hj ⟨ps, hD, hl, bk⟩ ⟨rfl, rfl⟩
      refine ⟨rfl, ?_⟩
      dsimp only [tYes]
      rw [if_pos rfl]
      refine ⟨_, rfl, _, _, rfl, rfl, _, hD, by rw [List.length_map, sizeLine_eq]; omega, ps ++ [(j : Int) + 1], by rw [upd_same, List.map_append]; rfl, by rw [List.length_append, hl]; rfl, bk.put Db D0⟩
    rintro X ⟨ps, hD, hl, bk⟩
    dsimp only [gName, List.set, L2.start]
    refine ⟨_, rfl, b, _, 4, rfl, bk.bag, by omega, by decide, by decide, fun r G2 r0 r1 bt hB2 => ?_⟩
    have bk := bk.draw bt hB2
    have hD := (bt D Db).trans hD
    dsimp only [List.set]
    refine ⟨_, rfl, rfl, _, rfl, ?_⟩
    by_cases c3 : r = 3
    · refine yes (decide_eq_true (congrArg V.int c3)) ⟨_, rfl, _, rfl, by omega, by omega, fun D2 nD2 => ?_⟩
      obtain ⟨D2b, D20⟩ := bk.low nD2
      rw [Int.toNat_natCast]
      refine lc_it (walk_rng (n := many)) (fun j X => ∃ ps : List Int, X D2 = some (.lst (ps.map V.int)) ∧ ps.length = j ∧ Bk b H X (n + 1 + j)) ⟨[], upd_same, rfl, (bk.same (same_put nD2)).le (by omega)⟩ (fun _ _ _ _ => trivial) ?_ ?_
      · rintro j x X' X hj ⟨ps, hD, hl, bk⟩ ⟨rfl, rfl⟩
        refine ⟨rfl, ?_⟩
        dsimp only [tYes]
        rw [if_pos rfl]
        refine ⟨_, rfl, b, _, 12, rfl, bk.bag, by omega, by decide, by decide, fun r2 G3 r0 r1 bt hB3 => ?_⟩
        have bk := bk.draw bt hB3
        exact ⟨_, _, rfl, rfl, _, (bt D2 D2b).trans hD, by rw [List.length_map, sizeLine_eq]; omega, ps ++ [r2 - 2], by rw [upd_same, List.map_append]; rfl, by rw [List.length_append, hl]; rfl, (bk.put D2b D20).le (by omega)⟩
      · rintro X ⟨ps, hD, hl, bk⟩
        exact q D2 ps X D2b D20 bk.kept (bk.bag.mono (by omega)) hD hl
    · refine no (decide_eq_false fun z => c3 (by injection z)) ?_
      dsimp only [tNext]
      have fin : ∀ (X : Hp) (ps : List Int), X D = some (.lst (ps.map V.int)) → ps.length = many → Bk b H X (n + 100) → Q (.ref D) X := fun X ps hD hl bk => q D ps X Db D0 bk.kept (bk.bag.mono (by omega)) hD hl
      refine ⟨_, rfl, _, _, rfl, rfl, _, rfl, ?_⟩
      by_cases c0 : (0 : Int) < many
      · refine yes (decide_eq_true c0) ⟨_, rfl, _, rfl, by omega, by omega, ?_⟩
        have hr2n : r.toNat ≤ 2 := by omega
        generalize r.toNat = rn at hr2n
        refine for_it (walk_rng (n := rn)) (fun j σ X => ∃ (ps : List Int) (v3 v4 v5 : Option V), σ = [some (.ref b), some (.int many), some (.ref D), v3, v4, v5, none] ∧ X D = some (.lst (ps.map V.int)) ∧ ps.length = many ∧ Bk b H X (n + 1 + 20 * j))
          ⟨ps, _, _, _, rfl, hD, hl, bk.le (by omega)⟩ (fun _ _ _ _ _ => trivial) ?_ ?_
        · rintro j x σ X' X hj ⟨ps, v3, v4, v5, rfl, hD, hl, bk⟩ ⟨rfl, rfl⟩
          dsimp only [gName, List.set]
          have int_at : ∀ {is : List Int} {i : Nat} {v : V}, (is.map V.int)[i]? = some v → ∃ z, v = .int z := fun {is i v} h => by
            rw [List.getElem?_map] at h
            obtain ⟨z, _, e⟩ := Option.map_eq_some_iff.mp h
            exact ⟨z, e.symm⟩
          have pow28 : CPow (10 : Int) 28 := ⟨by decide, by decide, by decide⟩
          refine ⟨_, rfl, _, _, rfl, rfl, pow28, b, _, _, rfl, bk.bag, by omega, by decide, by decide, fun d1 X1 _ _ bt hB1 => ⟨_, rfl, ?_⟩⟩
          have bk := bk.draw bt hB1
          have hD := (bt D Db).trans hD
          refine ⟨_, rfl, _, _, rfl, rfl, _, rfl, _, _, rfl, rfl, _, rfl, _, _, rfl, rfl, pow28, b, _, _, rfl, bk.bag, by omega, by decide, by decide, fun d2 X2 _ _ bt hB2 => ⟨_, _, rfl, rfl, ?_⟩⟩
          have bk := bk.draw bt hB2
          have hD := (bt D Db).trans hD
          refine ⟨_, rfl, _, rfl, b, D, _, _, rfl, bk.bag, by omega, Db, SqL.of hD, by rw [List.length_map]; omega, by rw [List.length_map]; omega, fun i1 v1 X3 hv1 bt hB3 => ?_⟩
          obtain ⟨z1, rfl⟩ := int_at hv1
          have bk := bk.draw bt hB3
          have hD := (bt D Db).trans hD
          refine ⟨(by show 5 ≤ sizeLine; decide), fun S nS => ?_⟩
          obtain ⟨Sb, S0⟩ := bk.low nS
          have sS := same_put (o := .lst [V.int 0, V.int (-d1), V.int ((many : Int) + 1), V.int ((many : Int) + 2 + d2), V.int z1]) nS
          have bk := bk.same sS
          have hD := sS _ _ hD
          have hS : upd X3 S (.lst [V.int 0, V.int (-d1), V.int ((many : Int) + 1), V.int ((many : Int) + 2 + d2), V.int z1]) S = some (.lst (([0, -d1, (many : Int) + 1, (many : Int) + 2 + d2, z1] : List Int).map V.int)) := upd_same
          generalize upd X3 S (.lst [V.int 0, V.int (-d1), V.int ((many : Int) + 1), V.int ((many : Int) + 2 + d2), V.int z1]) = X4 at bk hD hS ⊢
          dsimp only [gName, List.set]
          refine ⟨_, rfl, _, rfl, _, rfl, _, rfl, b, D, _, _, rfl, bk.bag, by omega, Db, SqL.of hD, by rw [List.length_map]; omega, by rw [List.length_map]; omega, fun i2 v2 X5 hv2 bt hB5 => ?_⟩
          obtain ⟨z2, rfl⟩ := int_at hv2
          have bk := bk.draw bt hB5
          have hD := (bt D Db).trans hD
          have hS := (bt S Sb).trans hS
          refine ⟨(by show 1 ≤ sizeLine; decide), fun T nT => ?_⟩
          have sT := same_put (o := .lst [V.int z2]) nT
          have bk := bk.same sT
          have hD := sT _ _ hD
          have hS := sT _ _ hS
          have hT : upd X5 T (.lst [V.int z2]) T = some (.lst (([z2] : List Int).map V.int)) := upd_same
          generalize upd X5 T (.lst [V.int z2]) = X6 at bk hD hS hT ⊢
          refine ⟨S, T, _, _, rfl, rfl, hS, hT, (by show 6 ≤ sizeLine; decide), fun C nC => ?_⟩
          obtain ⟨Cb, C0⟩ := bk.low nC
          rw [← List.map_append]
          have sC := same_put (o := .lst ((([0, -d1, (many : Int) + 1, (many : Int) + 2 + d2, z1] : List Int) ++ [z2]).map V.int)) nC
          have bk := bk.same sC
          have hD := sC _ _ hD
          refine ⟨b, C, _, _, rfl, bk.bag, by omega, Cb, SqL.of upd_same, (by show 0 < 6; decide), (by show 6 ≤ 1000; decide), fun i3 v3 X7 hv3 bt hB7 => ?_⟩
          obtain ⟨z3, rfl⟩ := int_at hv3
          have bk := bk.draw bt hB7
          have hD := (bt D Db).trans hD
          refine ⟨_, rfl, _, rfl, _, rfl, b, _, _, rfl, bk.bag, by omega, c0, by omega, fun d3 X8 d30 d31 bt hB8 => ?_⟩
          have bk := bk.draw bt hB8
          have hD := (bt D Db).trans hD
          obtain ⟨d3, rfl⟩ : ∃ k : Nat, d3 = k := ⟨d3.toNat, by omega⟩
          refine ⟨D, _, _, d3, rfl, rfl, hD, ixN_nat (by rw [List.length_map]; omega), ?_⟩
          exact ⟨ps.set d3 z3, _, _, _, rfl, by rw [upd_same, List.map_set], by rw [List.length_set]; exact hl, (bk.put Db D0).le (by omega)⟩
        · rintro σ X ⟨ps, v3, v4, v5, rfl, hD, hl, bk⟩
          exact ⟨_, rfl, fin X ps hD hl (bk.le (by omega))⟩
      · exact no (decide_eq_false c0) ⟨_, rfl, fin _ ps hD hl (bk.le (by omega))⟩
end
end K08

set_option Elab.async false
set_option maxRecDepth 100000
set_option maxHeartbeats 1000000
/-! xs.remove(z), xs.count(z) of a list of texts. -/
namespace KX
open PySem PySem.Spec PyProof.Rows L2
def eqz (z : Str) : Value → Bool
  | .str y _ => y == z
  | _ => false
theorem vals_mem {zs : List Str} : ∀ {us : List Value}, Vals (zs.map V.str) us → ∀ y ∈ us, ∃ x t, y = .str x t := by
  induction zs with
  | nil => intro us h; cases h; exact fun y hy => nomatch hy
  | cons z zs ih =>
    intro us h
    cases h with
    | cons hd tl =>
      intro y hy
      rcases List.mem_cons.mp hy with rfl | hy
      · obtain ⟨t, e⟩ := hd
        exact ⟨_, t, e⟩
      · exact ih tl y hy
theorem eqz_gives {z : Str} {t : Tok} {zs : List Str} {us : List Value} (h : Vals (zs.map V.str) us) : ∀ y ∈ us, MeetsSeq.EqGives y (.str z t) (eqz z y) := by
  intro y hy
  obtain ⟨x, u, rfl⟩ := vals_mem h y hy
  exact PyProof.Rows.eqGives_str _ _ _ _
theorem vals_eqz {z : Str} {zs : List Str} {us : List Value} (h : Vals (zs.map V.str) us) (j : Nat) (hj : j < us.length) (hz : j < zs.length) : eqz z us[j] = (zs[j] == z) := by
  have e : (zs.map V.str)[j]? = some (.str zs[j]) := by rw [List.getElem?_map, List.getElem?_eq_getElem hz]; rfl
  obtain ⟨u, hu, ru⟩ := Vals.get h e
  obtain ⟨t, rfl⟩ := ru
  obtain ⟨_, e2⟩ := List.getElem?_eq_some_iff.mp hu
  rw [e2]
  rfl
theorem eqz_count {z : Str} {zs : List Str} : ∀ {us : List Value}, Vals (zs.map V.str) us → List.countP (eqz z) us = zs.count z := by
  induction zs with
  | nil => intro us h; cases h; rfl
  | cons y zs ih =>
    intro us h
    cases h with
    | cons hd tl =>
      obtain ⟨t, rfl⟩ := hd
      rw [List.countP_cons, List.count_cons, ih tl]
      rfl
theorem er_map (zs : List Str) : ∀ j, (zs.map V.str).eraseIdx j = (zs.eraseIdx j).map V.str := by
  induction zs with
  | nil => intro j; rfl
  | cons z zs ih =>
    intro j
    cases j with
    | zero => rfl
    | succ j => show V.str z :: _ = V.str z :: _; rw [ih j]
def rRemS : V → List V → Hp → VK → Prop := fun x xs H Q => ∃ (l : Addr) (zs : List Str) (z : Str), x = .ref l ∧ xs = [.str z] ∧ H l = some (.lst (zs.map V.str)) ∧ z ∈ zs ∧ Q .non (upd H l (.lst ((zs.erase z).map V.str)))
def rCntS (K : PySem.W.Frag) : V → List V → Hp → VK → Prop := fun x xs H Q => ∃ (p : Addr) (zs : List Str) (z : Str), x = .ref p ∧ xs = [.str z] ∧ SqL K H p (zs.map V.str) ∧ Q (.int (zs.count z : Nat)) H
theorem erase_at (zs : List Str) (z : Str) (h : z ∈ zs) : ∃ j, ∃ hj : j < zs.length, zs[j] = z ∧ (∀ m (hm : m < zs.length), m < j → zs[m] ≠ z) ∧ zs.erase z = zs.eraseIdx j := by
  induction zs with
  | nil => cases h
  | cons y ys ih =>
    by_cases c : y = z
    · refine ⟨0, by simp, by simpa using c, fun m _ hm => by omega, ?_⟩
      subst c
      simp
    · have h' : z ∈ ys := by
        rcases List.mem_cons.mp h with e | e
        · exact absurd e.symm c
        · exact e
      obtain ⟨j, hj, e1, e2, e3⟩ := ih h'
      refine ⟨j + 1, by simp; omega, by simpa using e1, fun m hm hmj => ?_, ?_⟩
      · cases m with
        | zero => simpa using c
        | succ m =>
          have := e2 m (by simp at hm; omega) (by omega)
          simpa using this
      · rw [List.erase_cons_tail (by simpa using c), e3]
        rfl
variable {X : Cx}
theorem mt_removeS : MtM X "list.remove" rRemS := by
  intro pins s σ H x xs v us Q I rx rxs h
  obtain ⟨l, zs, z, rfl, rfl, hH, hz, q⟩ := h
  cases rx
  obtain ⟨u, rfl, t, rfl⟩ := Vals.one rxs
  obtain ⟨zl, its, n, r, hl, e⟩ := Inv.lstM I hH
  obtain ⟨j, hj, e1, e2, e3⟩ := erase_at zs z hz
  rw [List.length_map] at zl hl
  refine call_meets F.slot_list_remove ⟨_, e, rfl⟩ F.entry_list_remove (F.args_list_remove_2 (Value.ref l) (Value.str z t))
    (MeetsSeq.list_remove l its.toArray n (Value.str z t) (eqz z) (fun y hy => eqz_gives r y (by simpa using hy)) j (by simpa using hl ▸ hj) ?_ ?_ (by simp; omega)) ⟨e, ?_⟩
  · have := vals_eqz (z := z) r j (hl ▸ hj) hj
    simp [this, e1]
  · intro m hm hmj
    have hm' : m < its.length := by simpa using hm
    have := e2 m (by omega) hmj
    have q2 := vals_eqz (z := z) r m hm' (by omega)
    simp [q2, this]
  · have rr := Vals.eraseIdx j r
    have em : (zs.map V.str).eraseIdx j = (zs.erase z).map V.str := by rw [e3]; exact er_map zs j
    rw [em] at rr
    refine ⟨V.non, _, Inv.lset I hH e (by rw [List.eraseIdxIfInBounds_toArray]) rr ?_, rfl, q⟩
    rw [List.length_map]
    exact Nat.le_trans (List.length_erase_le ..) zl
theorem mt_countS : MtR X "list.count" (rCntS X.K) := by
  intro pins s σ H x xs v us Q I rx rxs h
  obtain ⟨p, zs, z, rfl, rfl, hs, q⟩ := h
  cases rx
  obtain ⟨u, rfl, t, rfl⟩ := Vals.one rxs
  obtain ⟨its, rv, ⟨⟨cls, dd, data, sl⟩, n, ho, hc, hdn, hd⟩, hlen⟩ := Inv.list I hs
  cases hc
  cases hd
  refine call_meets F.slot_list_count ⟨_, ho, rfl⟩ F.entry_list_count (F.args_list_count_2 (Value.ref p) (Value.str z t)) (SeqAt.list_countAt p its.toArray n dd sl (Value.str z t) (eqz z)) ⟨ho, fun y hy => MeetsSeq.EqGives.at (eqz_gives rv y (by simpa using hy)) X.A.in1 s, ?_⟩
  have ec := eqz_count (z := z) rv
  refine ⟨V.int (zs.count z : Nat), _, Inv.tok I (s.toks + 1), ⟨s.toks, ?_⟩, q⟩
  simp only [ec]
end KX

set_option Elab.async false
set_option maxRecDepth 100000
set_option maxHeartbeats 1000000
/-! xs.count(t) of a list of tuples of texts and ints. -/
namespace KX
open PySem PySem.Spec PyProof.Rows L2
theorem kV_inj {a b : Key} (h : kV a = kV b) : a = b := by
  cases a <;> cases b <;> first | (injection h with h; rw [h]) | cases h
theorem kVs_inj : ∀ {a b : List Key}, a.map kV = b.map kV → a = b
  | [], [], _ => rfl
  | [], _ :: _, h => by cases h
  | _ :: _, [], h => by cases h
  | x :: a, y :: b, h => by
    rw [List.map_cons, List.map_cons] at h
    injection h with h1 h2
    rw [kV_inj h1, kVs_inj h2]
open Classical in
/-- which of the values are equal to the key k -/
noncomputable def eqk (ts : List (Addr × List Key)) (k : List Key) (v : Value) : Bool := decide (∃ e ∈ ts, v = .ref e.1 ∧ e.2 = k)
def rCntK (K : PySem.W.Frag) : V → List V → Hp → VK → Prop := fun x xs H Q => ∃ (l t : Addr) (ts : List (Addr × List Key)) (k : List Key), x = .ref l ∧ xs = [.ref t] ∧ SqL K H l (ts.map fun e => V.ref e.1) ∧ (∀ e ∈ ts, H e.1 = some (.tup (e.2.map kV))) ∧ H t = some (.tup (k.map kV)) ∧ Q (.int (ts.countP fun e => decide (e.2 = k) : Nat)) H
variable {X : Cx}
theorem tup_key {pins : List (Addr × Obj)} {σ : L2.St} {H : Hp} {s : Shared} (I : Inv X pins σ H s) {t : Addr} {k : List Key} (h : H t = some (.tup (k.map kV))) (P : Program) (w : World) : IsTupleKey (mixKind P w) s.heap k t := by
  obtain ⟨_, us, hv, o, ho, hcl, n, hd⟩ := (I.hok t _ h : ObjOk _ _ _ _ _ (.tup _))
  exact ⟨o, _, n, ho, hcl, hd, items_of (by simpa using hv)⟩
theorem mt_countK (hu : X.A.units + 2 < cLine) : MtR X "list.count" (rCntK X.K) := by
  intro pins s σ H x xs v us Q I rx rxs h
  obtain ⟨l, t, ts, k, rfl, rfl, hs, hk, ht, q⟩ := h
  cases rx
  obtain ⟨u, rfl, ru⟩ := Vals.one rxs
  cases ru
  obtain ⟨its, rv, ⟨⟨cls, dd, data, sl⟩, n, ho, hc, hdn, hd⟩, hlen⟩ := Inv.list I hs
  cases hc
  cases hd
  have hits : its = ts.map fun e => Value.ref e.1 := refs_items rv
  refine call_meets F.slot_list_count ⟨_, ho, rfl⟩ F.entry_list_count (F.args_list_count_2 (Value.ref l) (Value.ref t)) (SeqAt.list_countAt l its.toArray n dd sl (Value.ref t) (eqk ts k)) ⟨ho, fun y hy => ?_, ?_⟩
  · rw [hits] at hy
    have hy : y ∈ ts.map fun e => Value.ref e.1 := by simpa using hy
    obtain ⟨e, he, rfl⟩ := List.mem_map.mp hy
    intro prog w E Q' hq
    refine PySem.wpAny_eqBool_tuple (knd := mixKind prog w) (x := e.2) (y := k) ?_ (tup_key I (hk e he) prog w) (tup_key I ht prog w) ?_
    · show X.A.units + 1 < cLine
      omega
    · have e2 : eqk ts k (Value.ref e.1) = decide (e.2 = k) := by
        unfold eqk
        refine decide_eq_decide.mpr ⟨?_, fun h => ⟨e, he, rfl, h⟩⟩
        rintro ⟨e', he', e1, rfl⟩
        have a1 := hk e he
        have a2 := hk e' he'
        injection e1 with e1
        rw [e1, a2] at a1
        injection a1 with a1
        injection a1 with a1
        exact (kVs_inj a1).symm
      rw [e2] at hq
      exact hq
  · have cnt : its.countP (eqk ts k) = ts.countP fun e => decide (e.2 = k) := by
      rw [hits, List.countP_map]
      refine List.countP_congr fun e he => ?_
      show eqk ts k (Value.ref e.1) = true ↔ _
      unfold eqk
      rw [decide_eq_true_iff, decide_eq_true_iff]
      refine ⟨?_, fun h => ⟨e, he, rfl, h⟩⟩
      rintro ⟨e', he', e1, rfl⟩
      have a1 := hk e he
      have a2 := hk e' he'
      injection e1 with e1
      rw [e1, a2] at a1
      injection a1 with a1
      injection a1 with a1
      exact (kVs_inj a1).symm
    refine ⟨V.int (ts.countP fun e => decide (e.2 = k) : Nat), _, Inv.tok I (s.toks + 1), ⟨s.toks, ?_⟩, q⟩
    simp only [cnt]
end KX

set_option Elab.async false
set_option maxRecDepth 100000
set_option maxHeartbeats 2000000
/-! Renumbering the rows of a list: no Lean of the program. -/
namespace K08
open PySem PySem.Spec PyProof.Rows L2 He KX
theorem prs_mem {rows : List Rw} {l : Str} {q : Pr} (h : q ∈ srtP (prsL rows l)) : (q.2, l, q.1) ∈ rows := by
  unfold srtP at h
  obtain ⟨x, hx, rfl⟩ := List.mem_map.mp (List.mem_mergeSort.mp h)
  have h1 := (List.mem_filter.mp hx).1
  have h2 := of_decide_eq_true (List.mem_filter.mp hx).2
  rw [← h2]
  exact h1
theorem mem_prs {rows : List Rw} {x : Rw} (h : x ∈ rows) : (x.2.2, x.1) ∈ srtP (prsL rows x.2.1) := by
  unfold srtP prsL
  exact List.mem_mergeSort.mpr (List.mem_map.mpr ⟨x, List.mem_filter.mpr ⟨h, decide_eq_true rfl⟩, rfl⟩)
theorem nodup_of {α β : Type} {f : α → β} {l : List α} (h : (l.map f).Nodup) : l.Nodup := List.Pairwise.of_map f (fun _ _ hne e => hne (congrArg f e)) h
def leP (a b : Pr) : Bool := decide (a.1 < b.1 ∨ (a.1 = b.1 ∧ a.2.cps.toList ≤ b.2.cps.toList))
theorem cps_inj {a b : Str} (h : a.cps.toList = b.cps.toList) : a = b := by
  obtain ⟨x⟩ := a
  obtain ⟨y⟩ := b
  exact congrArg Str.mk (Array.toList_inj.mp h)
theorem le_pr : (PySem.W.dataLe false prD : Pr → Pr → Bool) = leP := by
  funext p q
  show (!PySem.W.dataLt (.tuple [.int q.1, .str q.2]) (.tuple [.int p.1, .str p.2])) = _
  rw [PySem.W.dataLt_pair (by simp [PySem.W.alike]) (by simp [PySem.W.alike]), PySem.W.dataLt_int, PySem.W.dataLt_str]
  simp only [PyData.eqv, beq_iff_eq]
  unfold leP
  by_cases h1 : q.1 = p.1
  · rw [if_pos h1]
    by_cases h2 : q.2 = p.2
    · rw [if_pos h2]
      simp [h1, h2]
    · rw [if_neg h2, PySem.W.not_lt_str]
      simp [h1]
  · rw [if_neg h1, PySem.W.not_lt_int]
    have h3 : ¬ p.1 = q.1 := fun e => h1 e.symm
    by_cases h4 : p.1 ≤ q.1
    · have : p.1 < q.1 := by omega
      simp [h4, this]
    · have : ¬ p.1 < q.1 := by omega
      simp [h3, h4, this]
theorem leP_trans (a b c : Pr) (h1 : leP a b = true) (h2 : leP b c = true) : leP a c = true := by
  have h1 := of_decide_eq_true h1
  have h2 := of_decide_eq_true h2
  refine decide_eq_true ?_
  rcases h1 with h1 | ⟨h1, h1'⟩ <;> rcases h2 with h2 | ⟨h2, h2'⟩
  · exact .inl (by omega)
  · exact .inl (by omega)
  · exact .inl (by omega)
  · exact .inr ⟨by omega, List.le_trans h1' h2'⟩
theorem leP_total (a b : Pr) : (leP a b || leP b a) = true := by
  rw [Bool.or_eq_true]
  unfold leP
  rcases Int.lt_trichotomy a.1 b.1 with h | h | h
  · exact .inl (decide_eq_true (.inl h))
  · rcases List.le_total a.2.cps.toList b.2.cps.toList with q | q
    · exact .inl (decide_eq_true (.inr ⟨h, q⟩))
    · exact .inr (decide_eq_true (.inr ⟨h.symm, q⟩))
  · exact .inr (decide_eq_true (.inl h))
theorem leP_anti (a b : Pr) (h1 : leP a b = true) (h2 : leP b a = true) : a = b := by
  have h1 := of_decide_eq_true h1
  have h2 := of_decide_eq_true h2
  have e : a.1 = b.1 := by omega
  have q1 : a.2.cps.toList ≤ b.2.cps.toList := by
    rcases h1 with h | h
    · omega
    · exact h.2
  have q2 : b.2.cps.toList ≤ a.2.cps.toList := by
    rcases h2 with h | h
    · omega
    · exact h.2
  exact Prod.ext e (cps_inj (List.le_antisymm q1 q2))
/-- a list that is in order and holds the same things is the sorted one -/
theorem srt_is {qs zs : List Pr} (h : qs.Perm zs) (hz : zs.Pairwise fun a b => leP a b = true) : srtP qs = zs := by
  unfold srtP
  rw [le_pr]
  exact ((List.mergeSort_perm qs leP).trans h).eq_of_pairwise (fun a b _ _ h1 h2 => leP_anti a b h1 h2) (List.pairwise_mergeSort leP_trans leP_total qs) hz
theorem putR_keys {rows : List Rw} {r l : Str} {p : Int} (h : r ∈ rows.map (·.1)) : (putR rows r l p).map (·.1) = rows.map (·.1) := by
  obtain ⟨x, hx, e⟩ := List.mem_map.mp h
  unfold putR
  rw [if_pos (List.any_eq_true.mpr ⟨x, hx, decide_eq_true e⟩), List.map_map]
  congr 1
  funext x
  show (if x.1 = r then (x.1, l, p) else x).1 = x.1
  split <;> rfl
theorem mem_putR {rows : List Rw} {r l : Str} {p : Int} (h : r ∈ rows.map (·.1)) {x : Rw} : x ∈ putR rows r l p ↔ (x = (r, l, p)) ∨ (x.1 ≠ r ∧ x ∈ rows) := by
  obtain ⟨y, hy, e⟩ := List.mem_map.mp h
  unfold putR
  rw [if_pos (List.any_eq_true.mpr ⟨y, hy, decide_eq_true e⟩), List.mem_map]
  constructor
  · rintro ⟨z, hz, rfl⟩
    by_cases c : z.1 = r
    · rw [if_pos c, c]
      exact .inl rfl
    · rw [if_neg c]
      exact .inr ⟨c, hz⟩
  · rintro (rfl | ⟨c, hx⟩)
    · exact ⟨y, hy, by rw [if_pos e, e]⟩
    · exact ⟨x, hx, if_neg c⟩
def renF (l : Str) : Nat → List Str → List Rw → List Rw
  | _, [], rows => rows
  | n, z :: r, rows => renF l (n + 1) r (putR rows z l ((n : Int) + 1))
theorem renF_snoc (l : Str) : ∀ (zs : List Str) (n : Nat) (rows : List Rw) (z : Str), renF l n (zs ++ [z]) rows = putR (renF l n zs rows) z l (((n + zs.length : Nat) : Int) + 1)
  | [], n, rows, z => rfl
  | y :: r, n, rows, z => by
    show renF l (n + 1) (r ++ [z]) _ = _
    rw [renF_snoc l r (n + 1)]
    show putR (renF l (n + 1) r _) z l _ = putR (renF l (n + 1) r _) z l _
    rw [show n + 1 + r.length = n + (y :: r).length by rw [List.length_cons]; omega]
/-- the rows zs of a list renumbered from 1 -/
def ren (l : Str) (rows : List Rw) (zs : List Str) : List Rw := renF l 0 zs rows
theorem ren_take {l : Str} {rows : List Rw} {zs : List Str} {j : Nat} {z : Str} (h : zs[j]? = some z) : ren l rows (zs.take (j + 1)) = putR (ren l rows (zs.take j)) z l ((j : Int) + 1) := by
  unfold ren
  rw [List.take_succ, h]
  show renF l 0 (zs.take j ++ [z]) rows = _
  rw [renF_snoc, List.length_take, Nat.min_eq_left (Nat.le_of_lt (List.getElem?_eq_some_iff.mp h).1), Nat.zero_add]
theorem renF_keys (l : Str) : ∀ (zs : List Str) (n : Nat) (rows : List Rw), (∀ z ∈ zs, z ∈ rows.map (·.1)) → (renF l n zs rows).map (·.1) = rows.map (·.1)
  | [], _, _, _ => rfl
  | z :: r, n, rows, h => by
    show (renF l (n + 1) r (putR rows z l ((n : Int) + 1))).map (·.1) = _
    have e := putR_keys (l := l) (p := (n : Int) + 1) (h z List.mem_cons_self)
    rw [renF_keys l r (n + 1) _ (fun y hy => by rw [e]; exact h y (List.mem_cons_of_mem _ hy)), e]
theorem mem_renF (l : Str) : ∀ (zs : List Str) (n : Nat) (rows : List Rw), (∀ z ∈ zs, z ∈ rows.map (·.1)) → zs.Nodup → ∀ x : Rw, x ∈ renF l n zs rows ↔ (∃ i, zs[i]? = some x.1 ∧ x.2.1 = l ∧ x.2.2 = ((n + i : Nat) : Int) + 1) ∨ (x.1 ∉ zs ∧ x ∈ rows)
  | [], n, rows, _, _, x => by simp [renF]
  | z :: r, n, rows, h, hn, x => by
    show x ∈ renF l (n + 1) r (putR rows z l ((n : Int) + 1)) ↔ _
    have hz := h z List.mem_cons_self
    have e := putR_keys (l := l) (p := (n : Int) + 1) hz
    have hnr := List.nodup_cons.mp hn
    rw [mem_renF l r (n + 1) _ (fun y hy => by rw [e]; exact h y (List.mem_cons_of_mem _ hy)) hnr.2 x, mem_putR hz]
    constructor
    · rintro (⟨i, h1, h2, h3⟩ | ⟨h1, h2 | ⟨h2, h3⟩⟩)
      · exact .inl ⟨i + 1, h1, h2, by rw [h3]; congr 2; omega⟩
      · subst h2
        exact .inl ⟨0, rfl, rfl, rfl⟩
      · exact .inr ⟨by simp [h1, h2], h3⟩
    · rintro (⟨i, h1, h2, h3⟩ | ⟨h1, h2⟩)
      · cases i with
        | zero =>
          have e1 : z = x.1 := by simpa using h1
          refine .inr ⟨by rw [← e1]; exact hnr.1, .inl ?_⟩
          obtain ⟨x1, x2, x3⟩ := x
          dsimp only at e1 h2 h3
          rw [← e1, h2, h3]
          rfl
        | succ i => exact .inl ⟨i, h1, h2, by rw [h3]; congr 2; omega⟩
      · exact .inr ⟨fun e => h1 (List.mem_cons_of_mem _ e), .inr ⟨fun e => h1 (by rw [e]; exact List.mem_cons_self), h2⟩⟩
/-- behind it the list has its rows at 1, 2, .. in the same order -/
theorem ren_prs {rows : List Rw} {l : Str} (hN : (rows.map (·.1)).Nodup) : srtP (prsL (ren l rows ((srtP (prsL rows l)).map (·.2))) l) = (((srtP (prsL rows l)).map (·.2)).zipIdx).map fun p => (((p.2 : Nat) : Int) + 1, p.1) := by
  have hk : ∀ z ∈ (srtP (prsL rows l)).map (·.2), z ∈ rows.map (·.1) := fun z hz => by
    obtain ⟨q, hq, rfl⟩ := List.mem_map.mp hz
    exact List.mem_map.mpr ⟨_, prs_mem hq, rfl⟩
  have hpn : ∀ rs : List Rw, (rs.map (·.1)).Nodup → ((prsL rs l).map (·.2)).Nodup := fun rs h => by
    unfold prsL
    rw [List.map_map]
    exact List.Nodup.sublist (List.Sublist.map _ List.filter_sublist) h
  have hzn : ((srtP (prsL rows l)).map (·.2)).Nodup := by
    unfold srtP
    exact ((List.mergeSort_perm _ _).map _).nodup_iff.mpr (hpn rows hN)
  have hin : ∀ x ∈ rows, x.2.1 = l → x.1 ∈ (srtP (prsL rows l)).map (·.2) := fun x hx e => by
    subst e
    exact List.mem_map.mpr ⟨_, mem_prs hx, rfl⟩
  generalize (srtP (prsL rows l)).map (·.2) = zs at hk hzn hin ⊢
  have hrk : (ren l rows zs).map (·.1) = rows.map (·.1) := renF_keys l zs 0 rows hk
  have hidx : ∀ q : Pr, q ∈ zs.zipIdx.map (fun p => (((p.2 : Nat) : Int) + 1, p.1)) ↔ ∃ i : Nat, zs[i]? = some q.2 ∧ q.1 = (i : Int) + 1 := fun q => by
    rw [List.mem_map]
    constructor
    · rintro ⟨⟨z, i⟩, hp, rfl⟩
      exact ⟨i, by simpa using List.mem_zipIdx_iff_getElem?.mp hp, rfl⟩
    · rintro ⟨i, h1, h2⟩
      exact ⟨(q.2, i), List.mem_zipIdx_iff_getElem?.mpr (by simpa using h1), Prod.ext h2.symm rfl⟩
  refine srt_is ?_ ?_
  · refine (List.perm_ext_iff_of_nodup ?_ ?_).mpr fun q => ?_
    · exact nodup_of (f := fun q : Pr => q.2) (hpn _ (by rw [hrk]; exact hN))
    · refine nodup_of (f := fun q : Pr => q.2) ?_
      rw [List.map_map]
      show (zs.zipIdx.map Prod.fst).Nodup
      rw [List.zipIdx_map_fst]
      exact hzn
    · rw [hidx]
      unfold prsL
      rw [List.mem_map]
      constructor
      · rintro ⟨x, hx, rfl⟩
        obtain ⟨hx1, hx2⟩ := List.mem_filter.mp hx
        have hx2 := of_decide_eq_true hx2
        rcases (mem_renF l zs 0 rows hk hzn x).mp hx1 with ⟨i, h1, _, h3⟩ | ⟨h1, h2⟩
        · exact ⟨i, h1, by rw [h3, Nat.zero_add]⟩
        · exact absurd (hin x h2 hx2) h1
      · rintro ⟨i, h1, h2⟩
        refine ⟨(q.2, l, q.1), List.mem_filter.mpr ⟨(mem_renF l zs 0 rows hk hzn _).mpr (.inl ⟨i, h1, rfl, by rw [h2, Nat.zero_add]⟩), decide_eq_true rfl⟩, rfl⟩
  · rw [List.pairwise_map]
    refine List.pairwise_iff_getElem.mpr fun i j hi hj hij => ?_
    refine decide_eq_true (.inl ?_)
    rw [List.getElem_zipIdx, List.getElem_zipIdx]
    simp only [Nat.zero_add]
    omega
/-- its places are 1, 2, .. -/
theorem ren_places {rows : List Rw} {l : Str} (hN : (rows.map (·.1)).Nodup) : (srtP (prsL (ren l rows ((srtP (prsL rows l)).map (·.2))) l)).map (·.1) = (List.range ((srtP (prsL rows l)).map (·.2)).length).map fun i => (1 : Int) + (i : Nat) := by
  rw [ren_prs hN, List.map_map]
  generalize (srtP (prsL rows l)).map (·.2) = zs
  apply List.ext_getElem
  · simp
  · intro i h1 h2
    simp
    omega
end K08

set_option Elab.async false
set_option maxRecDepth 100000
set_option maxHeartbeats 2000000
/-! The first fault, the program's way and the law's; what renumbering does to it. No Lean of the program. -/
namespace K08
open PySem PySem.Spec PyProof.Rows L2 He KX
theorem leS_iff (a b : Str) : leS a b = decide (a.cps.toList ≤ b.cps.toList) := by
  unfold leS
  exact congrFun (congrFun (PySem.W.dataLe_str (fun x : Str => x)) a) b
theorem leS_trans (a b c : Str) (h1 : leS a b = true) (h2 : leS b c = true) : leS a c = true := by
  rw [leS_iff] at *
  exact decide_eq_true (List.le_trans (of_decide_eq_true h1) (of_decide_eq_true h2))
theorem leS_total (a b : Str) : (leS a b || leS b a) = true := by
  rw [leS_iff, leS_iff, Bool.or_eq_true]
  rcases List.le_total a.cps.toList b.cps.toList with h | h
  · exact .inl (decide_eq_true h)
  · exact .inr (decide_eq_true h)
theorem leS_anti (a b : Str) (h1 : leS a b = true) (h2 : leS b a = true) : a = b := by
  rw [leS_iff] at *
  have := List.le_antisymm (of_decide_eq_true h1) (of_decide_eq_true h2)
  obtain ⟨x⟩ := a
  obtain ⟨y⟩ := b
  congr 1
  exact Array.toList_inj.mp this
theorem one_order : ∀ {xs ys : List Str}, xs.Pairwise (fun a b => leS a b = true) → ys.Pairwise (fun a b => leS a b = true) → xs.Nodup → ys.Nodup → (∀ x, x ∈ xs ↔ x ∈ ys) → xs = ys := by
  intro xs ys h1 h2 n1 n2 hm
  have hp : xs.Perm ys := (List.perm_ext_iff_of_nodup n1 n2).mpr hm
  exact hp.eq_of_pairwise (fun a b _ _ h1 h2 => leS_anti a b h1 h2) h1 h2
theorem prs_none (rows : List Rw) (l : Str) : prsL rows l = [] ↔ l ∉ rows.map fun x => x.2.1 := by
  unfold prsL
  rw [List.map_eq_nil_iff, List.filter_eq_nil_iff, List.mem_map]
  constructor
  · rintro h ⟨x, hx, e⟩
    exact h x hx (decide_eq_true e)
  · intro h x hx e
    exact h ⟨x, hx, of_decide_eq_true e⟩
theorem names_eq {rows : List Rw} {ns ls : List Str} (hN : NmL rows ns) (hnd : ls.Nodup) (hin : ∀ x ∈ rows, x.2.1 ∈ ls) : ns = (ls.mergeSort leS).filter fun l => decide (prsL rows l ≠ []) := by
  obtain ⟨L', hL, rfl⟩ := hN
  have p1 := List.pairwise_mergeSort leS_trans leS_total L'
  have p2 := List.pairwise_mergeSort leS_trans leS_total ls
  refine one_order p1 (p2.filter _) ?_ ?_ ?_
  · exact (List.mergeSort_perm L' leS).nodup_iff.mpr (hL.nodup_iff.mpr (uniqS_nodup _))
  · exact ((List.mergeSort_perm ls leS).nodup_iff.mpr hnd).filter _
  · intro x
    rw [List.mem_mergeSort, hL.mem_iff, uniqS_mem, List.mem_filter, List.mem_mergeSort]
    constructor
    · intro h
      obtain ⟨y, hy, e⟩ := List.mem_map.mp h
      exact ⟨e ▸ hin y hy, decide_eq_true fun z => (prs_none rows x).mp z h⟩
    · rintro ⟨_, h⟩
      have := of_decide_eq_true h
      exact Classical.byContradiction fun z => this ((prs_none rows x).mpr z)
theorem fir_filter (rows : List Rw) : ∀ L : List Str, firF rows (L.filter fun l => decide (prsL rows l ≠ [])) = firF rows L
  | [] => rfl
  | l :: r => by
    have ih := fir_filter rows r
    unfold firF at ih ⊢
    rw [List.filter_cons]
    by_cases c : prsL rows l = []
    · rw [if_neg (by simp [c]), List.findSome?_cons, ih]
      have e : fauP (srtP (prsL rows l)) = none := by
        rw [c]
        unfold srtP
        rw [List.mergeSort_nil]
        rfl
      rw [e]
      rfl
    · rw [if_pos (by simp [c]), List.findSome?_cons, List.findSome?_cons, ih]
theorem fir_eq {rows : List Rw} {ns ls : List Str} (hN : NmL rows ns) (hnd : ls.Nodup) (hin : ∀ x ∈ rows, x.2.1 ∈ ls) : firF rows ns = firF rows (ls.mergeSort leS) := by
  rw [names_eq hN hnd hin, fir_filter]
theorem dbl_none : ∀ {ps : List Pr}, (ps.Pairwise fun a b => a.1 < b.1) → dblP ps = none
  | [], _ => rfl
  | [_], _ => rfl
  | a :: b :: t, h => by
    obtain ⟨h1, h2⟩ := List.pairwise_cons.mp h
    have := h1 b List.mem_cons_self
    unfold dblP
    rw [if_neg (by omega)]
    exact dbl_none h2
theorem fau_dense {ps : List Pr} (h : ps.map (·.1) = (List.range ps.length).map fun i => (1 : Int) + (i : Nat)) : fauP ps = none := by
  have at_ : ∀ (i : Nat) (hi : i < ps.length), ps[i].1 = 1 + (i : Int) := fun i hi => by
    have e := congrArg (fun l => l[i]?) h
    simp only [List.getElem?_map, List.getElem?_eq_getElem hi, Option.map_some] at e
    rw [List.getElem?_eq_getElem (by rw [List.length_range]; exact hi), List.getElem_range, Option.map_some] at e
    exact Option.some.inj e
  have mem : ∀ q ∈ ps, 1 ≤ q.1 ∧ q.1 ≤ (ps.length : Int) := fun q hq => by
    obtain ⟨i, hi, rfl⟩ := List.getElem_of_mem hq
    rw [at_ i hi]
    omega
  unfold fauP
  rw [find_no fun q hq => decide_eq_false (by have := (mem q hq).1; omega)]
  dsimp only
  rw [find_no fun q hq => decide_eq_false (by have := (mem q hq).2; omega)]
  dsimp only
  refine dbl_none (List.pairwise_iff_getElem.mpr fun i j hi hj hij => ?_)
  rw [at_ i hi, at_ j hj]
  omega
theorem srt_le (qs : List Pr) : (srtP qs).Pairwise fun a b => a.1 ≤ b.1 := by
  unfold srtP
  rw [le_pr]
  refine (List.pairwise_mergeSort leP_trans leP_total qs).imp fun {a b} h => ?_
  rcases of_decide_eq_true h with h | h
  · omega
  · omega
/-- no place twice -/
theorem dbl_off {ps : List Pr} (hs : ps.Pairwise fun a b => a.1 ≤ b.1) (h : ∀ q ∈ ps, (ps.map (·.1)).count q.1 ≤ 1) : dblP ps = none := by
  have nd : (ps.map (·.1)).Nodup := List.nodup_iff_count.mpr fun x => by
    by_cases c : x ∈ ps.map (·.1)
    · obtain ⟨q, hq, rfl⟩ := List.mem_map.mp c
      exact h q hq
    · rw [List.count_eq_zero.mpr c]
      exact Nat.zero_le _
  refine dbl_none ?_
  have nd2 : ps.Pairwise fun a b => a.1 ≠ b.1 := List.Pairwise.of_map (·.1) (fun a b h => h) nd
  exact hs.imp₂ (fun a b h1 h2 => by omega) nd2
/-- the first place that is there twice -/
theorem dbl_on : ∀ {ps : List Pr} {k : Nat} {q : Pr}, (ps.Pairwise fun a b => a.1 ≤ b.1) → ps[k]? = some q → (∀ j x, j < k → ps[j]? = some x → (ps.map (·.1)).count x.1 ≤ 1) → 1 < (ps.map (·.1)).count q.1 → ∃ r, ps[k + 1]? = some r ∧ dblP ps = some (.double q.2 r.2)
  | [], k, q, _, h, _, _ => by simp at h
  | a :: t, 0, q, hs, h, _, hc => by
    obtain rfl : a = q := Option.some.inj h
    obtain ⟨h1, h2⟩ := List.pairwise_cons.mp hs
    rw [List.map_cons, List.count_cons_self] at hc
    have hm : a.1 ∈ t.map (·.1) := List.count_pos_iff.mp (by omega)
    match t, h1, h2, hm with
    | b :: t, h1, h2, hm =>
      have e : a.1 = b.1 := by
        have hb := h1 b List.mem_cons_self
        rw [List.map_cons] at hm
        rcases List.mem_cons.mp hm with e | e
        · exact e
        · obtain ⟨x, hx, e⟩ := List.mem_map.mp e
          have := (List.pairwise_cons.mp h2).1 x hx
          omega
      exact ⟨b, rfl, by unfold dblP; rw [if_pos e]⟩
  | a :: t, k + 1, q, hs, h, hp, hc => by
    obtain ⟨h1, h2⟩ := List.pairwise_cons.mp hs
    have ha := hp 0 a (Nat.succ_pos _) rfl
    rw [List.map_cons, List.count_cons_self] at ha
    have hna : a.1 ∉ t.map (·.1) := fun z => by have := List.count_pos_iff.mpr z; omega
    have cnt : ∀ x ∈ t, ((a :: t).map (·.1)).count x.1 = (t.map (·.1)).count x.1 := fun x hx => by
      rw [List.map_cons]
      exact List.count_cons_of_ne (fun e => hna (List.mem_map.mpr ⟨x, hx, e.symm⟩))
    have hq : t[k]? = some q := h
    rw [cnt q (List.mem_of_getElem? hq)] at hc
    obtain ⟨r, h3, h4⟩ := dbl_on h2 hq (fun j x hj hx => by
      have := hp (j + 1) x (Nat.succ_lt_succ hj) hx
      rw [cnt x (List.mem_of_getElem? hx)] at this
      exact this) hc
    refine ⟨r, h3, ?_⟩
    match t, hq, h4, hna with
    | b :: t, hq, h4, hna =>
      unfold dblP
      rw [if_neg fun e => hna (by rw [List.map_cons]; exact List.mem_cons.mpr (.inl e))]
      exact h4
/-- what stands in another list stays -/
theorem srt_other {rows : List Rw} {l l' : Str} (hN : (rows.map (·.1)).Nodup) (hl : l' ≠ l) : srtP (prsL (ren l rows ((srtP (prsL rows l)).map (·.2))) l') = srtP (prsL rows l') := by
  have hk : ∀ z ∈ (srtP (prsL rows l)).map (·.2), z ∈ rows.map (·.1) := fun z hz => by
    obtain ⟨q, hq, rfl⟩ := List.mem_map.mp hz
    exact List.mem_map.mpr ⟨_, prs_mem hq, rfl⟩
  have hpn : ∀ rs : List Rw, ∀ l, (rs.map (·.1)).Nodup → ((prsL rs l).map (·.2)).Nodup := fun rs l h => by
    unfold prsL
    rw [List.map_map]
    exact List.Nodup.sublist (List.Sublist.map _ List.filter_sublist) h
  have hzn : ((srtP (prsL rows l)).map (·.2)).Nodup := by
    unfold srtP
    exact ((List.mergeSort_perm _ _).map _).nodup_iff.mpr (hpn rows l hN)
  have hz : ∀ z ∈ (srtP (prsL rows l)).map (·.2), ∀ x ∈ rows, x.1 = z → x.2.1 = l := fun z hz x hx e => by
    obtain ⟨q, hq, rfl⟩ := List.mem_map.mp hz
    have h1 := prs_mem hq
    obtain ⟨i, hi, e1⟩ := List.getElem_of_mem hx
    obtain ⟨j, hj, e2⟩ := List.getElem_of_mem h1
    have ne : ∀ (i j : Nat) (hi : i < rows.length) (hj : j < rows.length), i < j → rows[i].1 ≠ rows[j].1 := fun i j hi hj hij => by
      have := List.pairwise_iff_getElem.mp hN i j (by simpa using hi) (by simpa using hj) hij
      rwa [List.getElem_map, List.getElem_map] at this
    have : i = j := by
      rcases Nat.lt_trichotomy i j with z | z | z
      · exact absurd (by rw [e1, e2]; exact e) (ne i j hi hj z)
      · exact z
      · exact absurd (by rw [e1, e2]; exact e.symm) (ne j i hj hi z)
    subst this
    rw [← e1, e2]
  have hrk : (ren l rows ((srtP (prsL rows l)).map (·.2))).map (·.1) = rows.map (·.1) := renF_keys l _ 0 rows hk
  have mem := mem_renF l ((srtP (prsL rows l)).map (·.2)) 0 rows hk hzn
  have pm : (prsL (ren l rows ((srtP (prsL rows l)).map (·.2))) l').Perm (prsL rows l') := by
    refine (List.perm_ext_iff_of_nodup (nodup_of (f := fun q : Pr => q.2) (hpn _ _ (by rw [hrk]; exact hN))) (nodup_of (f := fun q : Pr => q.2) (hpn _ _ hN))).mpr fun q => ?_
    unfold prsL
    rw [List.mem_map, List.mem_map]
    constructor
    · rintro ⟨x, hx, rfl⟩
      obtain ⟨h1, h2⟩ := List.mem_filter.mp hx
      have h2 := of_decide_eq_true h2
      rcases (mem x).mp h1 with ⟨_, _, e, _⟩ | ⟨_, h3⟩
      · exact absurd (h2.symm.trans e) hl
      · exact ⟨x, List.mem_filter.mpr ⟨h3, decide_eq_true h2⟩, rfl⟩
    · rintro ⟨x, hx, rfl⟩
      obtain ⟨h1, h2⟩ := List.mem_filter.mp hx
      have h2 := of_decide_eq_true h2
      refine ⟨x, List.mem_filter.mpr ⟨(mem x).mpr (.inr ⟨fun z => hl (h2.symm.trans (hz _ z x h1 rfl)), h1⟩), decide_eq_true h2⟩, rfl⟩
  refine srt_is (pm.trans (List.mergeSort_perm _ _).symm) ?_
  unfold srtP
  rw [le_pr]
  exact List.pairwise_mergeSort leP_trans leP_total _
/-- the first t lists are without fault -/
def DoneT (rows : List Rw) (sl : List Str) (t : Nat) : Prop := ∀ (i : Nat) (l : Str), i < t → sl[i]? = some l → fauP (srtP (prsL rows l)) = none
theorem fir_none {rows : List Rw} {sl : List Str} : firF rows sl = none ↔ ∀ l ∈ sl, fauP (srtP (prsL rows l)) = none := by
  unfold firF
  rw [List.findSome?_eq_none_iff]
  exact forall₂_congr fun l _ => Option.map_eq_none_iff
theorem done_none {rows : List Rw} {sl : List Str} (h : firF rows sl = none) (t : Nat) : DoneT rows sl t := fun i l _ hl => fir_none.mp h l (List.mem_of_getElem? hl)
theorem done_all {rows : List Rw} {sl : List Str} (h : DoneT rows sl sl.length) : firF rows sl = none := fir_none.mpr fun l hl => by
  obtain ⟨i, hi, rfl⟩ := List.getElem_of_mem hl
  exact h i _ hi (List.getElem?_eq_getElem hi)
theorem done_next {rows : List Rw} {sl : List Str} {t : Nat} {l : Str} {x : Fl} (hN : (rows.map (·.1)).Nodup) (h : firF rows sl = some (l, x)) (d : DoneT rows sl t) : DoneT (ren l rows ((srtP (prsL rows l)).map (·.2))) sl (t + 1) := by
  intro i l' hi hl'
  by_cases c : l' = l
  · subst c
    refine fau_dense ?_
    rw [ren_places hN]
    congr 1
    have := congrArg List.length (ren_places (l := l') hN)
    rw [List.length_map, List.length_map, List.length_range] at this
    rw [this]
  · rw [srt_other hN c]
    unfold firF at h
    obtain ⟨l1, a, l2, rfl, ha, hb⟩ := List.findSome?_eq_some_iff.mp h
    obtain ⟨y, hy, e⟩ := Option.map_eq_some_iff.mp ha
    obtain rfl : a = l := by injection e
    have ge : t ≤ l1.length := by
      refine Nat.le_of_not_lt fun z => ?_
      have := d l1.length a z (by rw [List.getElem?_append_right (Nat.le_refl _), Nat.sub_self]; rfl)
      rw [this] at hy
      cases hy
    rcases Nat.lt_trichotomy i l1.length with z | z | z
    · rw [List.getElem?_append_left z] at hl'
      exact Option.map_eq_none_iff.mp (hb l' (List.mem_of_getElem? hl'))
    · rw [z, List.getElem?_append_right (Nat.le_refl _), Nat.sub_self] at hl'
      exact absurd (Option.some.inj hl').symm c
    · omega
theorem ren_keys {rows : List Rw} {l : Str} : (ren l rows ((srtP (prsL rows l)).map (·.2))).map (·.1) = rows.map (·.1) := renF_keys l _ 0 rows fun z hz => by
  obtain ⟨q, hq, rfl⟩ := List.mem_map.mp hz
  exact List.mem_map.mpr ⟨_, prs_mem hq, rfl⟩
end K08

set_option Elab.async false
set_option maxRecDepth 100000
set_option maxHeartbeats 2000000
namespace K08
open PySem PySem.Spec PyProof.Rows L2 He KX
abbrev sLF : Stmt := top 23
abbrev sLU : Stmt := top 24
-- ["model", "lists", "lst", "rows", "row", "places", "k"]
-- ["model", "spots", "row", "spot"]
def spLF (K : PySem.W.Frag) : Sp := fun vs H Q _ => ∃ (d L : Addr) (rows : List Rw) (ls : List Str), vs = [.ref d, .ref L] ∧ MdAt H d rows ∧ rows.length ≤ 1000 ∧ H L = some (.lst (ls.map V.str)) ∧ ls.length ≤ 100 ∧ ∀ v H', Same H H' → FirV H' (firF rows (ls.mergeSort leS)) v → Q v H'
def spLU (K : PySem.W.Frag) : Sp := fun vs H Q _ => ∃ (d : Addr) (rows : List Rw), vs = [.ref d] ∧ MdAt H d rows ∧ rows.length < 64 ∧ ∀ (b : Bool) H', Same H H' → (b = true ↔ UnlP rows) → Q (.bl b) H'
theorem pr_at' {α β : Type} {R : α → β → Prop} : ∀ {xs : List α} {ys : List β}, Paired R xs ys → ∀ {i : Nat} {y : β}, ys[i]? = some y → ∃ x, xs[i]? = some x ∧ R x y
  | _, _, .nil, _, _, e => by simp at e
  | _, _, .cons h t, 0, y, e => by
    cases e
    exact ⟨_, rfl, h⟩
  | _, _, .cons h t, i + 1, y, e => pr_at' t (i := i) e
theorem MdAt.same {H G : Hp} {d : Addr} {rows : List Rw} (h : MdAt H d rows) (s : Same H G) : MdAt G d rows := by
  obtain ⟨kvs, h1, h2, h3⟩ := h
  exact ⟨kvs, s _ _ h1, pr_imp (fun _ _ z => z.same s) h2, h3⟩
/-- what a name of a row finds in a dict of rows -/
theorem MdAt.find {H : Hp} {d : Addr} {rows : List Rw} (h : MdAt H d rows) {x : Rw} (hx : x ∈ rows) : ∃ t, DGet H d (V.str x.1) (some (V.ref t)) ∧ H t = some (.tup [V.str x.2.1, V.int x.2.2]) := by
  obtain ⟨kvs, h1, h2, h3⟩ := h
  obtain ⟨i, hi⟩ := List.getElem?_of_mem hx
  obtain ⟨kv, hkv, hent⟩ := pr_at' h2 hi
  obtain ⟨t, et, ht⟩ := hent.v
  have hv := val_at h2 h3 hkv
  rw [et] at hv
  exact ⟨t, .inl ⟨kvs, kv.1, .inl h1, by rw [hent.k]; rfl, hv.symm⟩, ht⟩
def strD (v : V) : PyData := match v with | .str x => .str x | _ => .none
theorem srt_strs (ls : List Str) : srtD strD (ls.map V.str) = (ls.mergeSort leS).map V.str := by
  have : Paired (fun (v : V) (x : Str) => v = V.str x) (ls.map V.str) ls := by
    induction ls with
    | nil => exact .nil
    | cons l r ih => exact .cons rfl ih
  have h := srt_pr (d := strD) (e := PyData.str) (fun v x e => by rw [e]; rfl) this
  have : ∀ {xs : List V} {ys : List Str}, Paired (fun (v : V) (x : Str) => v = V.str x) xs ys → xs = ys.map V.str := by
    intro xs ys h
    induction h with
    | nil => rfl
    | cons h _ ih => rw [List.map_cons, h, ih]
  exact this h
theorem nd_cnt {α β : Type} [DecidableEq β] (g : α → β) (l : List α) : (l.map g).Nodup ↔ ∀ x ∈ l, l.countP (fun y => decide (g y = g x)) = 1 := by
  have e : ∀ x, (l.map g).count (g x) = l.countP (fun y => decide (g y = g x)) := fun x => by
    rw [List.count_eq_countP, List.countP_map]
    rfl
  constructor
  · intro h x hx
    have a := List.nodup_iff_count.mp h (g x)
    have b : 0 < (l.map g).count (g x) := List.count_pos_iff.mpr (List.mem_map.mpr ⟨x, hx, rfl⟩)
    rw [e] at a b
    omega
  · intro h
    refine List.nodup_iff_count.mpr fun y => ?_
    by_cases c : y ∈ l.map g
    · obtain ⟨x, hx, rfl⟩ := List.mem_map.mp c
      rw [e, h x hx]
      exact Nat.le_refl _
    · rw [List.count_eq_zero.mpr c]
      exact Nat.zero_le _
theorem frz_back {H G : Hp} {d : Addr} {od : Obj} {kvs : List (Key × V)} (hd : H d = some (.dK kvs)) (s : Same (upd H d (.frz od (.dK kvs))) G) : Same H (upd G d (.dK kvs)) := fun x o e => by
  by_cases hx : x = d
  · subst hx
    rw [hd] at e
    rw [upd_same]
    exact e
  · rw [upd_ne hx]
    exact s _ _ ((upd_ne hx).trans e)
section
variable {P : Program} {w : World} {K : PySem.W.Frag} {mg : Str → Option Value} {base : Heap}
theorem scLF : FnScope ["model", "lists", "lst", "rows", "row", "places", "k"] ["model", "lists"] (defScope sLF) := ⟨rfl, rfl, rfl, by decide +kernel, rfl, by decide +kernel, by decide +kernel⟩
theorem scLU : FnScope ["model", "spots", "row", "spot"] ["model"] (defScope sLU) := ⟨rfl, rfl, rfl, by decide +kernel, rfl, by decide +kernel, by decide +kernel⟩
theorem ok_lf {f fR : Addr} {fd fdR : FuncData} (F : FnP K "_law_fault" sLF f fd)
    (GR : FnOk P w K mg base CX0 1 fR fdR ["model", "lst"] (spLRows K)) (bR : Binds K fdR ["model", "lst"] []) (kR : PySem.W.keepIn K (.ref fR) = true) (gR : mg "_law_rows" = some (.ref fR))
    (n_sorted : mg "sorted" = none) (n_len : mg "len" = none) (n_enumerate : mg "enumerate" = none) : FnOk P w K mg base CX0 2 f fd ["model", "lists"] (spLF K) := by
  refine F.ok scLF (fun vs H Q E h => ?_) (fun cdv A outer s H vs Q E hr h => ?_)
  · obtain ⟨d, L, rows, ls, rfl, _⟩ := h
    rfl
  · obtain ⟨d, L, rows, ls, rfl, hM, hl, hL, hll, k⟩ := h
    have nd := scLF.nd
    have hr1 := hr.mono (j := 1) (by decide)
    have hu64 := hr.units
    have hu := Nat.lt_of_le_of_lt (Nat.add_le_add_left (by decide : 1 ≤ 64) _) hr.units
    refine ⟨_, PSs.nox (pss_cons (ps_for PassesOwn.never rfl (pi_list (pe_callB (cr_sortedDp hu64) (by rfl) n_sorted (by decide +kernel) (pa_cons (pv 1) pa_nil))) (pg_name (i := 2) nd rfl (Or.inl rfl))
(pss_cons (ps_set (i := 3) nd rfl (Or.inl rfl) (pe_call GR hr1 (by rfl) gR kR bR .nil pass0 (pa_cons (pv 0) (pa_cons (pv 2) pa_nil))))
(pss_cons (ps_setLc (i := 5) (own := [("row", 4)]) (g := (gName 4)) (tt := tYes) rfl nd rfl rfl (sw_true rfl rfl rfl (by decide +kernel)) (pi_list (pv 3)) (blkOk_by (own := [("row", 4)]) (N := ["model", "lists", "lst", "rows", "row", "places", "k"]) (sc := defScope sLF) (by decide +kernel)) (fun _ _ _ _ _ => (pg_name (i := 4) nd rfl (Or.inl rfl))) (fun _ _ _ _ _ => pts_nil) (fun _ _ _ _ _ => (pe_ix (show IxR _ (rIxT K) from ix_tup) (pe_dget hu (pv 0) (pv 4) (fun _ _ => rfl)) pe_int (fun _ _ => rfl))))
(pss_cons (ps_for PassesOwn.never rfl (pi_list (pv 3)) (pg_name (i := 4) nd rfl (Or.inl rfl))
(pss_one (ps_if (pt_cmpR op_lt (pe_ix ix_tup (pe_dget hu (pv 0) (pv 4) (fun _ _ => rfl)) pe_int (fun _ _ => rfl)) pe_int (nomark _))
(pss_one (ps_ret (pe_tup (pa_cons pe_str (pa_cons (pv 2) (pa_cons (pv 4) pa_nil))))))
pss_nil)))
(pss_cons (ps_for PassesOwn.never rfl (pi_list (pv 3)) (pg_name (i := 4) nd rfl (Or.inl rfl))
(pss_one (ps_if (pt_cmpR op_gt (pe_ix ix_tup (pe_dget hu (pv 0) (pv 4) (fun _ _ => rfl)) pe_int (fun _ _ => rfl)) (pe_callB call_len_seq (by rfl) n_len PySem.boot_len (pa_cons (pv 3) pa_nil)) (nomark _))
(pss_one (ps_ret (pe_tup (pa_cons pe_str (pa_cons (pv 2) (pa_cons (pv 4) pa_nil))))))
pss_nil)))
(pss_one (ps_for PassesOwn.never rfl (pi_enum (by rfl) n_enumerate (pa_cons (pv 3) pa_nil)) (pg_tup rfl (pgs_cons (pg_name (i := 6) nd rfl (Or.inl rfl)) (pgs_cons (pg_name (i := 4) nd rfl (Or.inl rfl)) pgs_nil)))
(pss_one (ps_if (pt_cmpR op_gt (pe_bm PySem.F.plainAttrs_list PySem.F.slot_list_count PySem.F.type_list_count mt_lcount (pv 5) (pa_cons (pe_ix ix_list (pv 5) (pv 6) (fun _ _ => rfl)) pa_nil)) pe_int (nomark _))
(pss_one (ps_ret (pe_tup (pa_cons pe_str (pa_cons (pv 2) (pa_cons (pv 4) (pa_cons (pe_ix ix_list (pv 3) (pe_op op_add (pv 6) pe_int) (fun _ _ => rfl)) pa_nil)))))))
pss_nil)))))))))
(pss_one (ps_ret pe_non))), ?_⟩
    refine ⟨_, rfl, L, ls.map V.str, strD, rfl, SqL.of hL, fun x hx => ?_, fun a1 h1 a2 h2 => ?_, .inr fun a1 h1 => ?_, fun x hx => ?_, fun p np => ?_⟩
    · obtain ⟨z, _, rfl⟩ := List.mem_map.mp hx
      exact .str z
    · obtain ⟨x1, hx1, rfl⟩ := List.mem_map.mp h1
      obtain ⟨x2, hx2, rfl⟩ := List.mem_map.mp h2
      obtain ⟨z1, _, rfl⟩ := List.mem_map.mp hx1
      obtain ⟨z2, _, rfl⟩ := List.mem_map.mp hx2
      rfl
    · obtain ⟨x1, hx1, rfl⟩ := List.mem_map.mp h1
      obtain ⟨z1, _, rfl⟩ := List.mem_map.mp hx1
      exact ⟨(fun e => by cases e), fun _ e => by cases e⟩
    · obtain ⟨z, _, rfl⟩ := List.mem_map.mp hx
      show 0 ≤ 60
      decide
    rw [srt_strs]
    have s1 := same_put (o := .lst ((ls.mergeSort leS).map V.str)) np
    have hp : upd H p (.lst ((ls.mergeSort leS).map V.str)) p = some (.lst ((ls.mergeSort leS).map V.str)) := upd_same
    generalize upd H p (.lst ((ls.mergeSort leS).map V.str)) = G1 at s1 hp ⊢
    generalize ls.mergeSort leS = ns at hp k ⊢
    refine ⟨p, rfl, ⟨_, SqL.of hp⟩, ?_⟩
    refine for_it (walk_list (K := K) (a := p) (xs := ns.map V.str)) (fun m σ G => ∃ w2 w3 w4 w5 w6, σ = [some (.ref d), some (.ref L), w2, w3, w4, w5, w6] ∧ Same H G ∧ G p = some (.lst (ns.map V.str)) ∧ firF rows (ns.take m) = none)
      ⟨_, _, _, _, _, rfl, s1, hp, rfl⟩ (fun _ _ _ _ h => by obtain ⟨_, _, _, _, _, _, _, q, _⟩ := h; exact SqL.of q) ?_ ?_
    · rintro m x σ G' G hm ⟨w2, w3, w4, w5, w6, rfl, sG, hpG, hno⟩ ⟨rfl, hx⟩
      obtain ⟨l, hlm, rfl⟩ := Option.map_eq_some_iff.mp ((List.getElem?_map ..).symm.trans hx)
      have hfn : firF rows (ns.take (m + 1)) = (fauP (srtP (prsL rows l))).map fun x => (l, x) := by
        unfold firF at hno ⊢
        rw [List.take_succ, hlm, List.findSome?_append, hno, Option.none_or]
        show List.findSome? _ [l] = _
        rw [List.findSome?_cons]
        cases (fauP (srtP (prsL rows l))) <;> rfl
      have hfa : ∀ z, fauP (srtP (prsL rows l)) = some z → firF rows ns = some (l, z) := fun z e => by
        have h1 : firF rows ns = (firF rows (ns.take (m + 1))).or (firF rows (ns.drop (m + 1))) := by
          unfold firF
          rw [← List.findSome?_append, List.take_append_drop]
        rw [h1, hfn, e]
        rfl
      have hfind : ∀ (q : Pr) G, Same H G → q ∈ srtP (prsL rows l) → ∃ t, DGet G d (V.str q.2) (some (V.ref t)) ∧ G t = some (.tup [V.str l, V.int q.1]) := fun q G s hq => (hM.same s).find (prs_mem hq)
      have hsl := srt_le (prsL rows l)
      have hpl : (srtP (prsL rows l)).length ≤ 1000 := by rw [srt_len]; exact Nat.le_trans (prs_len rows l) hl
      dsimp only [gName, List.set]
      refine ⟨_, rfl, _, rfl, d, rows, l, rfl, hM.same sG, hl, fun R G2 nR s2 hR => ?_⟩
      have sG2 := sG.trans s2
      have hpG2 := s2 _ _ hpG
      dsimp only [gName, List.set]
      generalize srtP (prsL rows l) = ps at hfn hfa hfind hsl hpl hR
      refine ⟨_, rfl, R, rfl, ⟨_, SqL.of hR⟩, fun D nD => ?_⟩
      refine lc_it (walk_list (K := K) (a := R) (xs := (ps.map (·.2)).map V.str)) (fun j X => X D = some (.lst (((ps.take j).map (·.1)).map V.int)) ∧ Same G2 X) ⟨upd_same, same_put nD⟩ (fun j X _ h => SqL.of (h.2 _ _ hR)) ?_ ?_
      · rintro j x X' X hj ⟨hD, sX⟩ ⟨rfl, hx⟩
        rw [List.getElem?_map, List.getElem?_map] at hx
        obtain ⟨z, hz, rfl⟩ := Option.map_eq_some_iff.mp hx
        obtain ⟨q, hq, rfl⟩ := Option.map_eq_some_iff.mp hz
        obtain ⟨t, hget, ht⟩ := hfind q X (sG2.trans sX) (List.mem_of_getElem? hq)
        refine ⟨rfl, ?_⟩
        dsimp only [tYes]
        rw [if_pos rfl]
        refine ⟨_, rfl, _, rfl, d, _, rfl, hget, t, _, _, _, rfl, rfl, SqT.of ht, rfl, _, hD, ?_, ?_, fun y o z => (upd_ne (ne_of_none z nD)).trans (sX _ _ z)⟩
        · rw [List.length_map, List.length_map, List.length_take, sizeLine_eq]
          omega
        · rw [upd_same, take_at hq, List.map_append, List.map_append]
          rfl
      rintro X ⟨hD, sX⟩
      rw [List.length_map, List.length_map, List.take_length] at hD
      have hRX := sX _ _ hR
      have hpX := sX _ _ hpG2
      have sX := sG2.trans sX
      clear hR hpG2 sG2 s2 nR nD sG hpG
      dsimp only [gName, List.set]
      have row_at : ∀ {j : Nat} {v : V}, ((ps.map (·.2)).map V.str)[j]? = some v → ∃ q, ps[j]? = some q ∧ v = V.str q.2 := fun {j v} hx => by
        rw [List.getElem?_map, List.getElem?_map] at hx
        obtain ⟨z, hz, rfl⟩ := Option.map_eq_some_iff.mp hx
        obtain ⟨q, hq, rfl⟩ := Option.map_eq_some_iff.mp hz
        exact ⟨q, hq, rfl⟩
      refine ⟨_, rfl, R, rfl, ⟨_, SqL.of hRX⟩, ?_⟩
      refine for_it (walk_list (K := K) (a := R) (xs := (ps.map (·.2)).map V.str)) (fun j σ G => ∃ w4 w6, σ = [some (.ref d), some (.ref L), some (.str l), some (.ref R), w4, some (.ref D), w6] ∧ X = G ∧ ∀ q ∈ ps.take j, decide (q.1 < 1) = false)
        ⟨_, _, rfl, rfl, by simp⟩ (fun _ _ _ _ h => by obtain ⟨_, _, _, rfl, _⟩ := h; exact SqL.of hRX) ?_ ?_
      · rintro j x σ G' X hj ⟨w4, w6, rfl, rfl, lo⟩ ⟨rfl, hx⟩
        obtain ⟨q, hq, rfl⟩ := row_at hx
        obtain ⟨t, hget, ht⟩ := hfind q X sX (List.mem_of_getElem? hq)
        dsimp only [gName, List.set]
        refine ⟨_, rfl, _, rfl, d, _, rfl, hget, t, _, _, _, rfl, rfl, SqT.of ht, rfl, _, _, rfl, rfl, _, rfl, ite2' (fun c => ?_) (fun c => ?_)⟩
        · refine ⟨_, rfl, _, rfl, (by show 3 ≤ sizeLine; decide), fun T nT => ?_⟩
          have e : fauP ps = some (.low q.2) := by
            unfold fauP
            rw [find_at hq c lo]
          refine k _ _ (sX.trans (same_put nT)) ?_
          rw [hfa _ e]
          exact ⟨T, rfl, upd_same⟩
        · exact ⟨_, _, rfl, rfl, take_next hq c lo⟩
      rintro σ G ⟨w4, w6, rfl, rfl, lo⟩
      rw [List.length_map, List.length_map, List.take_length] at lo
      have low := find_no lo
      refine ⟨_, rfl, R, rfl, ⟨_, SqL.of hRX⟩, ?_⟩
      refine for_it (walk_list (K := K) (a := R) (xs := (ps.map (·.2)).map V.str)) (fun j σ G => ∃ w4 w6, σ = [some (.ref d), some (.ref L), some (.str l), some (.ref R), w4, some (.ref D), w6] ∧ X = G ∧ ∀ q ∈ ps.take j, decide (q.1 > (ps.length : Int)) = false)
        ⟨_, _, rfl, rfl, by simp⟩ (fun _ _ _ _ h => by obtain ⟨_, _, _, rfl, _⟩ := h; exact SqL.of hRX) ?_ ?_
      · rintro j x σ G' X hj ⟨w4, w6, rfl, rfl, hi⟩ ⟨rfl, hx⟩
        obtain ⟨q, hq, rfl⟩ := row_at hx
        obtain ⟨t, hget, ht⟩ := hfind q X sX (List.mem_of_getElem? hq)
        dsimp only [gName, List.set]
        refine ⟨_, rfl, _, rfl, d, _, rfl, hget, t, _, _, _, rfl, rfl, SqT.of ht, rfl, _, rfl, R, _, rfl, .inl (SqL.of hRX), _, _, rfl, rfl, _, rfl, ?_⟩
        rw [List.length_map, List.length_map]
        refine ite2' (fun c => ?_) (fun c => ?_)
        · refine ⟨_, rfl, _, rfl, (by show 3 ≤ sizeLine; decide), fun T nT => ?_⟩
          have e : fauP ps = some (.high q.2) := by
            unfold fauP
            rw [low]
            dsimp only
            rw [find_at hq c hi]
          refine k _ _ (sX.trans (same_put nT)) ?_
          rw [hfa _ e]
          exact ⟨T, rfl, upd_same⟩
        · exact ⟨_, _, rfl, rfl, take_next hq c hi⟩
      rintro σ G ⟨w4, w6, rfl, rfl, hi⟩
      rw [List.length_map, List.length_map, List.take_length] at hi
      have high := find_no hi
      have edb : fauP ps = dblP ps := by
        unfold fauP
        rw [low]
        dsimp only
        rw [high]
      refine ⟨_, rfl, R, _, rfl, SqL.of hRX, ?_⟩
      refine for_it (walk_enum (K := K) (a := R) (xs := (ps.map (·.2)).map V.str)) (fun j σ G => ∃ w4 w6, σ = [some (.ref d), some (.ref L), some (.str l), some (.ref R), w4, some (.ref D), w6] ∧ Same X G ∧ ∀ i q, i < j → ps[i]? = some q → (ps.map (·.1)).count q.1 ≤ 1)
        ⟨_, _, rfl, Same.refl X, fun _ _ z => absurd z (Nat.not_lt_zero _)⟩ (fun _ _ _ _ h => by obtain ⟨_, _, _, q, _⟩ := h; exact SqL.of (q _ _ hRX)) ?_ ?_
      · rintro j x σ G G' hj ⟨w4, w6, rfl, sG, one⟩ ⟨T, u, u2, rfl, nT, rfl, hu', hv'⟩
        obtain rfl : V.int (j : Nat) = u := Option.some.inj hu'
        obtain ⟨q, hq, rfl⟩ := row_at hv'
        have sT := sG.trans (same_put (o := .tup [V.int (j : Nat), V.str q.2]) nT)
        have hT : upd G T (.tup [V.int (j : Nat), V.str q.2]) T = some (.tup [V.int (j : Nat), V.str q.2]) := upd_same
        generalize upd G T (.tup [V.int (j : Nat), V.str q.2]) = Y at sT hT ⊢
        refine ⟨_, _, rfl, SqT.of hT, rfl, _, _, rfl, _, _, rfl, rfl, ?_⟩
        dsimp only [gName, List.set]
        have hDY := sT _ _ hD
        have hpj : (ps.map (·.1))[j]? = some q.1 := by rw [List.getElem?_map, hq]; rfl
        refine ⟨_, rfl, .inl ⟨rfl, _, SqL.of hDY⟩, _, rfl, _, rfl, D, _, _, _, rfl, rfl, SqL.of hDY, atI_nat (by rw [List.getElem?_map, hpj]; rfl), D, _, _, rfl, rfl, SqL.of hDY, _, _, rfl, rfl, _, rfl, ite2' (fun c => ?_) (fun c => ?_)⟩
        · have c := of_decide_eq_true c
          obtain ⟨r, hr, edd⟩ := dbl_on hsl hq one (by omega)
          have hr2 : ((ps.map (·.2)).map V.str)[j + 1]? = some (V.str r.2) := by rw [List.getElem?_map, List.getElem?_map, hr]; rfl
          refine ⟨_, rfl, _, rfl, _, rfl, _, rfl, _, _, rfl, rfl, R, _, _, _, rfl, rfl, SqL.of (sT _ _ hRX), (by rw [show ((j : Nat) : Int) + 1 = ((j + 1 : Nat) : Int) by omega]; exact atI_nat hr2), (by show 4 ≤ sizeLine; decide), fun T2 nT2 => ?_⟩
          refine k _ _ ((sX.trans sT).trans (same_put nT2)) ?_
          rw [hfa _ (edb.trans edd)]
          exact ⟨T2, rfl, upd_same⟩
        · have c := of_decide_eq_false c
          refine ⟨_, _, rfl, sT, fun i z hij hz => ?_⟩
          rcases Nat.lt_or_ge i j with y | y
          · exact one i z y hz
          · obtain rfl : i = j := by omega
            obtain rfl : q = z := Option.some.inj (hq.symm.trans hz)
            omega
      rintro σ G ⟨w4, w6, rfl, sG, one⟩
      rw [List.length_map, List.length_map] at one
      have off : dblP ps = none := dbl_off hsl fun q hq => by
        obtain ⟨i, hi, rfl⟩ := List.getElem_of_mem hq
        exact one i _ hi (List.getElem?_eq_getElem hi)
      refine ⟨_, _, _, _, _, rfl, sX.trans sG, sG _ _ hpX, ?_⟩
      rw [hfn, edb, off]
      rfl
    · rintro σ G ⟨w2, w3, w4, w5, w6, rfl, sG, _, hno⟩
      rw [List.length_map, List.take_length] at hno
      refine k _ _ sG ?_
      rw [hno]
      rfl
theorem ok_lu {f : Addr} {fd : FuncData} (F : FnP K "_law_is_unlike" sLU f fd) (n_all : mg "all" = none) : FnOk P w K mg base CX0 1 f fd ["model"] (spLU K) := by
  refine F.ok scLU (fun vs H Q E h => ?_) (fun cdv A outer s H vs Q E hr h => ?_)
  · obtain ⟨d, rows, rfl, _⟩ := h
    rfl
  · obtain ⟨d, rows, rfl, hM, hl, k⟩ := h
    have nd := scLU.nd
    have hu := Nat.lt_of_le_of_lt (Nat.add_le_add_left (by decide : 1 ≤ 64) _) hr.units
    have hu2 : (A.deeper (envOfC "_law_is_unlike" (defScope sLU) s.heap.objs.size f cdv)).units + 2 < cLine := Nat.lt_of_le_of_lt (Nat.add_le_add_left (by decide : 2 ≤ 64) _) hr.units
    refine ⟨_, PSs.nox (pss_cons (ps_set (i := 1) nd rfl (Or.inr rfl) (pe_lock (pe_lc (own := [("row", 2)]) (g := (gName 2)) (tt := tYes) rfl nd (pi_keys (pv 0)) (blkOk_by (own := [("row", 2)]) (N := ["model", "spots", "row", "spot"]) (sc := defScope sLU) (by decide +kernel)) (fun _ _ _ _ _ => (pg_name (i := 2) nd rfl (Or.inl rfl))) (fun _ _ _ _ _ => pts_nil) (fun _ _ _ _ _ => (pe_dget hu (pv 0) (pv 2) (fun _ _ => rfl))))))
(pss_one (ps_ret (pe_callB (cr_all rfl) (by rfl) n_all (by decide +kernel) (pa_cons (pe_lc (own := [("spot", 3)]) (g := (gName 3)) (tt := tYes) rfl nd (pi_list (pv 1)) (blkOk_by (own := [("spot", 3)]) (N := ["model", "spots", "row", "spot"]) (sc := defScope sLU) (by decide +kernel)) (fun _ _ _ _ _ => (pg_name (i := 3) nd rfl (Or.inl rfl))) (fun _ _ _ _ _ => pts_nil) (fun _ _ _ _ _ => (pe_and (pe_cmpR op_ge (pe_ix (show IxR _ (rIxT K) from ix_tup) (pv 3) pe_int (fun _ _ => rfl)) pe_int (nomark _)) (pe_one (pe_cmpR op_eq ((show PE _ _ (tBM K "list" (rCntK K) (tVar 1) (tCons (tVar 3) tNil)) from pe_bm PySem.F.plainAttrs_list PySem.F.slot_list_count PySem.F.type_list_count (mt_countK hu2) (pv 1) (pa_cons (pv 3) pa_nil))) pe_int (nomark _)))))) pa_nil))))), ?_⟩
    obtain ⟨kvs, hd, hE, hN⟩ := hM
    refine ⟨d, _, hd, trivial, fun od => ?_⟩
    have sHf : ∀ x o, x ≠ d → H x = some o → upd H d (.frz od (.dK kvs)) x = some o := fun x o n e => (upd_ne n).trans e
    have fd0 : upd H d (.frz od (.dK kvs)) d = some (.frz od (.dK kvs)) := upd_same
    have back := fun G => frz_back (G := G) (od := od) hd
    generalize upd H d (.frz od (.dK kvs)) = Hf at sHf fd0 back ⊢
    refine ⟨_, rfl, d, od, rfl, .inl ⟨kvs, fd0, fun D nD => ?_⟩⟩
    refine lc_it (walk_keys (d := d) (o := od) (kvs := kvs)) (fun j X => X D = some (.lst ((kvs.take j).map (·.2))) ∧ Same Hf X) ⟨upd_same, same_put nD⟩ (fun j X _ h => h.2 _ _ fd0) ?_ ?_
    · rintro j x X' X hj ⟨hD, sX⟩ ⟨rfl, key, val, hkv, rfl⟩
      have hval := val_at hE hN hkv
      have hget : DGet X d (kV key) (some val) := .inl ⟨kvs, key, .inr ⟨od, sX _ _ fd0⟩, rfl, hval.symm⟩
      refine ⟨rfl, ?_⟩
      dsimp only [tYes]
      rw [if_pos rfl]
      refine ⟨_, rfl, _, rfl, d, _, rfl, hget, _, hD, ?_, ?_, fun y o z => (upd_ne (ne_of_none z nD)).trans (sX _ _ z)⟩
      · rw [List.length_map, List.length_take, sizeLine_eq]
        have := hE.len
        omega
      · rw [upd_same, List.take_succ, hkv, List.map_append]
        rfl
    rintro X ⟨hD, sX⟩
    rw [List.take_length] at hD
    have sB := back X sX
    have nDd : D ≠ d := fun e => by rw [e, fd0] at nD; cases nD
    obtain ⟨ts, t1, t2, t3⟩ := ents_ts hE
    have hlt : ts.length = rows.length := by
      have := congrArg List.length t3
      rw [List.length_map, List.length_map] at this
      exact this
    rw [t1] at hD
    refine ⟨sX _ _ fd0, ?_⟩
    have hD2 : upd X d (.dK kvs) D = some (.lst (ts.map fun e => V.ref e.1)) := (upd_ne nDd).trans hD
    generalize upd X d (.dK kvs) = H2 at sB hD2
    dsimp only [gName, List.set]
    refine ⟨_, rfl, D, rfl, ⟨_, SqL.of hD2⟩, fun D2 nD2 => ?_⟩
    have cnt : ∀ (r : Rw), (ts.countP fun e => decide (e.2 = ([Sum.inr r.2.1, Sum.inl r.2.2] : List Key))) = rows.countP fun y => decide (y.2 = r.2) := fun r => by
      have e1 : (ts.map Prod.snd).countP (fun k => decide (k = ([Sum.inr r.2.1, Sum.inl r.2.2] : List Key))) = ts.countP fun e => decide (e.2 = ([Sum.inr r.2.1, Sum.inl r.2.2] : List Key)) := List.countP_map
      rw [← e1, t3, List.countP_map]
      refine List.countP_congr fun y _ => ?_
      show decide (([Sum.inr y.2.1, Sum.inl y.2.2] : List Key) = [Sum.inr r.2.1, Sum.inl r.2.2]) = true ↔ _
      rw [decide_eq_true_iff, decide_eq_true_iff]
      constructor
      · intro e
        injection e with e2 e3
        injection e3 with e3 _
        exact Prod.ext (Sum.inr.inj e2) (Sum.inl.inj e3)
      · intro e
        rw [e]
    refine lc_it (walk_list (K := K) (a := D) (xs := ts.map fun e => V.ref e.1)) (fun j X => X D2 = some (.lst (((rows.take j).map fun x => decide ((1 : Int) ≤ x.2.2) && decide ((rows.countP fun y => decide (y.2 = x.2)) = 1)).map V.bl)) ∧ Same H2 X) ⟨upd_same, same_put nD2⟩ (fun j X _ h => SqL.of (h.2 _ _ hD2)) ?_ ?_
    · rintro j x X' X hj ⟨hA, sX⟩ ⟨rfl, hx⟩
      rw [List.getElem?_map] at hx
      obtain ⟨e, he, rfl⟩ := Option.map_eq_some_iff.mp hx
      have he2 : (rows.map fun x => ([Sum.inr x.2.1, Sum.inl x.2.2] : List Key))[j]? = some e.2 := by rw [← t3, List.getElem?_map, he]; rfl
      rw [List.getElem?_map] at he2
      obtain ⟨r, hr2, e2⟩ := Option.map_eq_some_iff.mp he2
      have tsX : ∀ e ∈ ts, X e.1 = some (.tup (e.2.map kV)) := fun e he => sX _ _ (sB _ _ (t2 e he))
      have ht : X e.1 = some (.tup [V.str r.2.1, V.int r.2.2]) := by
        have := tsX e (List.mem_of_getElem? he)
        rw [← e2] at this
        exact this
      have add : ∀ c : Bool, c = (decide ((1 : Int) ≤ r.2.2) && decide ((rows.countP fun y => decide (y.2 = r.2)) = 1)) → ∃ acc, X D2 = some (.lst acc) ∧ acc.length < sizeLine ∧ upd X D2 (.lst (acc ++ [V.bl c])) D2 = some (.lst (((rows.take (j + 1)).map fun x => decide ((1 : Int) ≤ x.2.2) && decide ((rows.countP fun y => decide (y.2 = x.2)) = 1)).map V.bl)) ∧ Same H2 (upd X D2 (.lst (acc ++ [V.bl c]))) := fun c hc => by
        refine ⟨_, hA, ?_, ?_, fun y o z => (upd_ne (ne_of_none z nD2)).trans (sX _ _ z)⟩
        · rw [List.length_map, List.length_map, List.length_take, sizeLine_eq]
          omega
        · rw [upd_same, take_at hr2, List.map_append, List.map_append, hc]
          rfl
      refine ⟨rfl, ?_⟩
      dsimp only [tYes]
      rw [if_pos rfl]
      refine ⟨_, rfl, e.1, _, _, _, rfl, rfl, SqT.of ht, rfl, _, _, rfl, rfl, _, rfl, ?_⟩
      by_cases c : (1 : Int) ≤ r.2.2
      · refine yes (decide_eq_true c) ⟨_, rfl, .inl ⟨rfl, _, SqL.of (sX _ _ hD2)⟩, _, rfl, D, e.1, ts, e.2, rfl, rfl, SqL.of (sX _ _ hD2), tsX, tsX e (List.mem_of_getElem? he), rfl, ?_⟩
        refine add _ ?_
        rw [decide_eq_true c, Bool.true_and, ← e2, cnt]
        exact decide_eq_decide.mpr ⟨fun z => by injection z with z; exact Int.ofNat.inj z, fun z => by rw [z]; rfl⟩
      · refine no (decide_eq_false c) (add _ ?_)
        rw [decide_eq_false c, Bool.false_and]
    · rintro X ⟨hA, sX⟩
      rw [List.length_map, hlt, List.take_length] at hA
      refine ⟨D2, _, rfl, SqL.of hA, k _ X (sB.trans sX) ?_⟩
      rw [List.all_map, List.all_eq_true]
      unfold UnlP
      rw [nd_cnt]
      constructor
      · intro h
        exact ⟨fun x hx => of_decide_eq_true (Bool.and_eq_true_iff.mp (h x hx)).1, fun x hx => of_decide_eq_true (Bool.and_eq_true_iff.mp (h x hx)).2⟩
      · rintro ⟨h1, h2⟩ x hx
        exact Bool.and_eq_true_iff.mpr ⟨decide_eq_true (h1 x hx), decide_eq_true (h2 x hx)⟩
end
end K08

set_option Elab.async false
set_option maxRecDepth 100000
set_option maxHeartbeats 2000000
namespace K08
open PySem PySem.Spec PyProof.Rows L2 He KX
/-- what stands in a turn of the law: the bag b, the board a, the dict md, the lists L and N of names -/
structure ST (K : PySem.W.Frag) (H0 G : Hp) (b a md L N : Addr) (ls nms : List Str) (rows : List Rw) (n : Int) : Prop where
  bag : Bag G b n
  bd : BdAt K G a rows
  mdl : MdAt G md rows
  sep : ∀ dx d, G a = some (.ins (ga K "Board") dx [("_spots", V.ref d)]) → d ≠ md
  hl : G L = some (.lst (ls.map V.str))
  hn : G N = some (.lst (nms.map V.str))
  lb : L ≠ b
  nb : N ≠ b
  kept : Same H0 G
  fb : H0 b = none
  fa : H0 a = none
  fm : H0 md = none
theorem bag_lst {G : Hp} {b : Addr} {n : Int} (h : Bag G b n) : ∃ xs, G b = some (.lst xs) := by
  obtain ⟨d, m, c, e, _⟩ := h
  exact ⟨_, e⟩
section
variable {K : PySem.W.Frag} {H0 G G' : Hp} {b a md L N : Addr} {ls nms : List Str} {rows : List Rw} {n n' : Int}
theorem ST.ab (h : ST K H0 G b a md L N ls nms rows n) : a ≠ b := by
  obtain ⟨xs, e⟩ := bag_lst h.bag
  obtain ⟨dx, d, kvs, ha, _⟩ := h.bd
  rintro rfl
  rw [e] at ha
  cases ha
theorem ST.mb (h : ST K H0 G b a md L N ls nms rows n) : md ≠ b := by
  obtain ⟨xs, e⟩ := bag_lst h.bag
  obtain ⟨kvs, ha, _⟩ := h.mdl
  rintro rfl
  rw [e] at ha
  cases ha
theorem ST.draw (h : ST K H0 G b a md L N ls nms rows n) (k : But b G G') (hB : Bag G' b n') : ST K H0 G' b a md L N ls nms rows n' := by
  obtain ⟨xs, e⟩ := bag_lst h.bag
  have kk := k.kept
  have ht : ∀ zs, G b ≠ some (.tup zs) := fun zs z => by rw [e] at z; cases z
  have hd : ∀ zs, G b ≠ some (.dK zs) := fun zs z => by rw [e] at z; cases z
  exact ⟨hB, h.bd.kept kk h.ab ht hd, h.mdl.kept kk h.mb ht, fun dx d z => h.sep dx d ((k a h.ab).symm.trans z), kk _ _ h.lb h.hl, kk _ _ h.nb h.hn, h.lb, h.nb, fun x o z => kk _ _ (ne_of_none z h.fb) (h.kept _ _ z), h.fb, h.fa, h.fm⟩
theorem ST.same (h : ST K H0 G b a md L N ls nms rows n) (s : Same G G') : ST K H0 G' b a md L N ls nms rows n := by
  obtain ⟨d, m, c, e, r⟩ := h.bag
  obtain ⟨dx, d', kvs, ha, _⟩ := id h.bd
  refine ⟨⟨d, m, c, s _ _ e, r⟩, h.bd.same s, h.mdl.same s, fun dx2 d2 z => ?_, s _ _ h.hl, s _ _ h.hn, h.lb, h.nb, h.kept.trans s, h.fb, h.fa, h.fm⟩
  rw [s _ _ ha] at z
  cases z
  exact h.sep dx d' ha
theorem ST.keepb (h : ST K H0 G b a md L N ls nms rows n) (kk : Kept b G G') (hB : Bag G' b n') : ST K H0 G' b a md L N ls nms rows n' := by
  obtain ⟨xs, e⟩ := bag_lst h.bag
  obtain ⟨dx0, d0, _, ha, _⟩ := id h.bd
  have ht : ∀ zs, G b ≠ some (.tup zs) := fun zs z => by rw [e] at z; cases z
  have hd : ∀ zs, G b ≠ some (.dK zs) := fun zs z => by rw [e] at z; cases z
  refine ⟨hB, h.bd.kept kk h.ab ht hd, h.mdl.kept kk h.mb ht, fun dx d z => ?_, kk _ _ h.lb h.hl, kk _ _ h.nb h.hn, h.lb, h.nb, fun x o z => kk _ _ (ne_of_none z h.fb) (h.kept _ _ z), h.fb, h.fa, h.fm⟩
  rw [kk _ _ h.ab ha] at z
  cases z
  exact h.sep dx0 d0 ha
/-- a list of the law's own is written -/
theorem ST.put {D : Addr} {xs : List V} {o : HO} (h : ST K H0 G b a md L N ls nms rows n) (hD : G D = some (.lst xs)) (Db : D ≠ b) (DL : D ≠ L) (DN : D ≠ N) (D0 : H0 D = none) : ST K H0 (upd G D o) b a md L N ls nms rows n := by
  obtain ⟨dx0, d0, kvs0, ha, _⟩ := id h.bd
  obtain ⟨kvs1, hm, _⟩ := id h.mdl
  have ht : ∀ zs, G D ≠ some (.tup zs) := fun zs z => by rw [hD] at z; cases z
  have hd : ∀ zs, G D ≠ some (.dK zs) := fun zs z => by rw [hD] at z; cases z
  have aD : a ≠ D := fun e => by rw [e, hD] at ha; cases ha
  have mD : md ≠ D := fun e => by rw [e, hD] at hm; cases hm
  have kk : Kept D G (upd G D o) := fun x o2 n e => (upd_ne n).trans e
  exact ⟨h.bag.put Db, h.bd.kept kk aD ht hd, h.mdl.kept kk mD ht, fun dx d z => h.sep dx d ((upd_ne aD).symm.trans z), (upd_ne DL.symm).trans h.hl, (upd_ne DN.symm).trans h.hn, h.lb, h.nb, fun x o2 e => (upd_ne (ne_of_none e D0)).trans (h.kept _ _ e), h.fb, h.fa, h.fm⟩
/-- the names that are left, fewer -/
theorem ST.left (h : ST K H0 G b a md L N ls nms rows n) (zs : List Str) (LN : L ≠ N) (N0 : H0 N = none) : ST K H0 (upd G N (.lst (zs.map V.str))) b a md L N ls zs rows n := by
  obtain ⟨dx0, d0, kvs0, ha, _⟩ := id h.bd
  obtain ⟨kvs1, hm, _⟩ := id h.mdl
  have hD := h.hn
  have ht : ∀ zs, G N ≠ some (.tup zs) := fun zs z => by rw [hD] at z; cases z
  have hd : ∀ zs, G N ≠ some (.dK zs) := fun zs z => by rw [hD] at z; cases z
  have aD : a ≠ N := fun e => by rw [e, hD] at ha; cases ha
  have mD : md ≠ N := fun e => by rw [e, hD] at hm; cases hm
  have kk : Kept N G (upd G N (.lst (zs.map V.str))) := fun x o2 n e => (upd_ne n).trans e
  exact ⟨h.bag.put h.nb, h.bd.kept kk aD ht hd, h.mdl.kept kk mD ht, fun dx d z => h.sep dx d ((upd_ne aD).symm.trans z), (upd_ne LN).trans h.hl, upd_same, h.lb, h.nb, fun x o2 e => (upd_ne (ne_of_none e N0)).trans (h.kept _ _ e), h.fb, h.fa, h.fm⟩
theorem ST.le (h : ST K H0 G b a md L N ls nms rows n) (q : n ≤ n') : ST K H0 G b a md L N ls nms rows n' := ⟨h.bag.mono q, h.bd, h.mdl, h.sep, h.hl, h.hn, h.lb, h.nb, h.kept, h.fb, h.fa, h.fm⟩
/-- the board changed -/
theorem ST.brd {rows' : List Rw} (h : ST K H0 G b a md L N ls nms rows n) (k : Kept a G G') (hB : BdAt K G' a rows') (hN : BdNew K G G' a) :
    Bag G' b n ∧ MdAt G' md rows ∧ (∀ dx d, G' a = some (.ins (ga K "Board") dx [("_spots", V.ref d)]) → d ≠ md) ∧ G' L = some (.lst (ls.map V.str)) ∧ G' N = some (.lst (nms.map V.str)) ∧ Same H0 G' := by
  obtain ⟨dx, d', kvs, ha, _⟩ := id h.bd
  have ht : ∀ zs, G a ≠ some (.tup zs) := fun zs z => by rw [ha] at z; cases z
  obtain ⟨kvs2, hm, hm2⟩ := id h.mdl
  have hma : md ≠ a := by rintro rfl; rw [ha] at hm; cases hm
  have hLa : L ≠ a := fun e => by have := h.hl; rw [e, ha] at this; cases this
  have hNa : N ≠ a := fun e => by have := h.hn; rw [e, ha] at this; cases this
  obtain ⟨d, m, c, e, r⟩ := h.bag
  refine ⟨⟨d, m, c, k _ _ h.ab.symm e, r⟩, h.mdl.kept k hma ht, fun dx2 d2 z => ?_, k _ _ hLa h.hl, k _ _ hNa h.hn, fun x o z => k _ _ (ne_of_none z h.fa) (h.kept _ _ z)⟩
  rintro rfl
  have := hN dx2 _ z
  rw [hm] at this
  cases this
/-- the board is written, and the dict behind it -/
theorem ST.write {r l : Str} {p : Int} {t : Addr} (h : ST K H0 G b a md L N ls nms rows n) (k : Kept a G G') (hB : BdAt K G' a (putR rows r l p)) (hN : BdNew K G G' a) (ht' : G' t = some (.tup [V.str l, V.int p])) :
    ∃ kvs, G' md = some (.dK kvs) ∧ kvs.length = rows.length ∧ ST K H0 (upd G' md (.dK (putK kvs (.inr r) (V.ref t)))) b a md L N ls nms (putR rows r l p) n := by
  obtain ⟨hbag, hmd, hsep, hl, hn, hk⟩ := h.brd k hB hN
  obtain ⟨dx, d', kvs0, ha, _⟩ := id h.bd
  obtain ⟨kvs, hm, hE, hNd⟩ := hmd
  obtain ⟨dx2, d2, kvs2, ha2, hd2, hE2, hN2⟩ := hB
  have hds := hsep dx2 d2 ha2
  have ham : a ≠ md := fun e => by rw [e, hm] at ha2; cases ha2
  have ne : ∀ x zs, G' x = some (.tup zs) → x ≠ md := fun x zs z e => by rw [e, hm] at z; cases z
  have hLm : L ≠ md := fun e => by rw [e, hm] at hl; cases hl
  have hNm : N ≠ md := fun e => by rw [e, hm] at hn; cases hn
  obtain ⟨d, m, c, e, rr⟩ := hbag
  have hbm : b ≠ md := fun e2 => by rw [e2, hm] at e; cases e
  have mv : ∀ (kv : Key × V) (x : Rw), Ent G' kv x → Ent (upd G' md (.dK (putK kvs (.inr r) (V.ref t)))) kv x := fun kv x z => ⟨z.k, z.v.imp fun t h => ⟨h.1, (upd_ne (ne _ _ h.2)).trans h.2⟩⟩
  refine ⟨kvs, hm, hE.len, ⟨⟨d, m, c, (upd_ne hbm).trans e, rr⟩, ⟨dx2, d2, kvs2, (upd_ne ham).trans ha2, (upd_ne hds).trans hd2, pr_imp mv hE2, hN2⟩, ⟨_, upd_same, Ents.put (pr_imp mv hE) ((upd_ne (ne _ _ ht')).trans ht'), putR_names _ _ _ _ hNd⟩, fun dx3 d3 z => ?_, (upd_ne hLm).trans hl, (upd_ne hNm).trans hn, h.lb, h.nb, fun x o z => ?_, h.fb, h.fa, h.fm⟩⟩
  · rw [upd_ne ham] at z
    exact hsep dx3 d3 z
  · rw [upd_ne (ne_of_none z h.fm)]
    exact hk _ _ z
theorem ST.write3 {r l : Str} {p : Int} {t : Addr} (h : ST K H0 G b a md L N ls nms rows n) (k : Kept a G G') (hB : BdAt K G' a (putR rows r l p)) (hN : BdNew K G G' a) (nt : G' t = none) :
    ∃ kvs, upd G' t (.tup [V.str l, V.int p]) md = some (.dK kvs) ∧ kvs.length = rows.length ∧ ST K H0 (upd (upd G' t (.tup [V.str l, V.int p])) md (.dK (putK kvs (.inr r) (V.ref t)))) b a md L N ls nms (putR rows r l p) n := by
  have s := same_put (o := .tup [V.str l, V.int p]) nt
  obtain ⟨dx, d, kvs, ha, _⟩ := id hB
  refine h.write (fun x o n e => s _ _ (k x o n e)) (hB.same s) (fun dx2 d2 z => ?_) upd_same
  rw [upd_ne (ne_of_none ha nt)] at z
  exact hN dx2 d2 z
/-- a list that is no part of this is kept when the board and the dict are written -/
theorem ST.list_keep {r l : Str} {p : Int} {t D : Addr} {xs : List V} {kvs : List (Key × V)} (h : ST K H0 G b a md L N ls nms rows n) (k : Kept a G G') (hm : upd G' t (.tup [V.str l, V.int p]) md = some (.dK kvs)) (nt : G' t = none) (hD : G D = some (.lst xs)) : upd (upd G' t (.tup [V.str l, V.int p])) md (.dK (putK kvs (.inr r) (V.ref t))) D = some (.lst xs) := by
  obtain ⟨dx, d, _, ha, _⟩ := id h.bd
  have aD : D ≠ a := fun e => by rw [e, ha] at hD; cases hD
  have h1 := k _ _ aD hD
  have h2 : upd G' t (.tup [V.str l, V.int p]) D = some (.lst xs) := (upd_ne (ne_of_none h1 nt)).trans h1
  have mD : D ≠ md := fun e => by rw [e, hm] at h2; cases h2
  exact (upd_ne mD).trans h2
theorem ST.obj_keep {r l : Str} {p : Int} {t D : Addr} {o : HO} {kvs : List (Key × V)} (k : Kept a G G') (hm : upd G' t (.tup [V.str l, V.int p]) md = some (.dK kvs)) (nt : G' t = none) (hD : G D = some o) (aD : D ≠ a) (od : ∀ kvs, o ≠ .dK kvs) : upd (upd G' t (.tup [V.str l, V.int p])) md (.dK (putK kvs (.inr r) (V.ref t))) D = some o := by
  have h1 := k _ _ aD hD
  have h2 : upd G' t (.tup [V.str l, V.int p]) D = some o := (upd_ne (ne_of_none h1 nt)).trans h1
  have mD : D ≠ md := fun e => by rw [e, hm] at h2; exact od kvs (Option.some.inj h2).symm
  exact (upd_ne mD).trans h2
end
end K08

set_option Elab.async false
set_option maxRecDepth 100000
set_option maxHeartbeats 2000000
/-! x in t, x not in t: data, t a tuple of data. -/
namespace KX
open PySem PySem.Spec PyProof.Rows L2
variable {X : Cx}
def rInDT (K : PySem.W.Frag) (neg : Bool) : R2 := fun x y H Q => ∃ d ds, Dp K H x d ∧ Dp K H y (.tuple ds) ∧ SeqAt.shaped d = true ∧ SeqAt.shaped (.tuple ds) = true ∧ Q (.bl (if neg then !ds.any fun z => PyData.eqv z d else ds.any fun z => PyData.eqv z d)) H
theorem op_inDT (hu : X.A.units + 65 < cLine) : OpR X (compareOp .In) (rInDT X.K false) := by
  intro pins s σ H x y v u Q I rx ry h
  obtain ⟨d, ds, hd, he, sd, se, q⟩ := h
  obtain ⟨as, r1⟩ := Dp.reads I d x v hd rx
  obtain ⟨bs, r2⟩ := Dp.reads I (.tuple ds) y u he ry
  exact SeqAt.in_tuple_reads r2 r1 (SeqAt.canLay_of_shaped se) (SeqAt.canLay_of_shaped sd) (room_in_shaped sd hu) ⟨.bl _, H, I, rfl, q⟩
theorem op_notInDT (hu : X.A.units + 65 < cLine) : OpR X (compareOp .NotIn) (rInDT X.K true) := by
  intro pins s σ H x y v u Q I rx ry h
  obtain ⟨d, ds, hd, he, sd, se, q⟩ := h
  obtain ⟨as, r1⟩ := Dp.reads I d x v hd rx
  obtain ⟨bs, r2⟩ := Dp.reads I (.tuple ds) y u he ry
  exact SeqAt.notIn_tuple_reads r2 r1 (SeqAt.canLay_of_shaped se) (SeqAt.canLay_of_shaped sd) (room_in_shaped sd hu) ⟨.bl _, H, I, rfl, q⟩
theorem strs_dp {K : PySem.W.Frag} {H : Hp} : ∀ zs : List Str, DpAll K H (zs.map V.str) (zs.map PyData.str)
  | [] => .nil
  | z :: r => .cons (.str z) (strs_dp r)
/-- is the thing one of the texts -/
def inS (zs : List Str) (d : PyData) : Bool := (zs.map PyData.str).any fun z => PyData.eqv z d
theorem inS_str (zs : List Str) (z : Str) : inS zs (.str z) = decide (z ∈ zs) := by
  unfold inS
  rw [List.any_map]
  by_cases h : z ∈ zs
  · rw [decide_eq_true h]
    exact List.any_eq_true.mpr ⟨z, h, by show (z == z) = true; exact beq_self_eq_true z⟩
  · rw [decide_eq_false h]
    refine List.any_eq_false.mpr fun y hy => ?_
    show ¬ (y == z) = true
    rw [beq_iff_eq]
    rintro rfl
    exact h hy
end KX

set_option Elab.async false
set_option maxRecDepth 100000
set_option maxHeartbeats 2000000
namespace K08
open PySem PySem.Spec PyProof.Rows L2 He KX

-- ["script", "at", "bag", "lists", "left", "board", "model", "lst", "many", "k", "rows", "places", "row", "place", "turn", "fault", "told"]
def spLaw (K : PySem.W.Frag) : Sp := fun vs H Q _ => ∃ (a : Addr) (ns : List Int), vs = [.ref a] ∧ SqL K H a (ns.map V.int) ∧ ns.length ≤ 63 ∧ ∀ H', Q (.bl true) H'
section
variable {P : Program} {w : World} {K : PySem.W.Frag} {mg : Str → Option Value} {base : Heap}
theorem scLaw : FnScope ["script", "at", "bag", "lists", "left", "board", "model", "lst", "many", "k", "rows", "places", "row", "place", "turn", "fault", "told"] ["script"] (defScope sLaw) := ⟨rfl, rfl, rfl, by decide +kernel, rfl, by decide +kernel, by decide +kernel⟩
theorem nml_nil {ns : List Str} (h : NmL [] ns) : ns = [] := by
  obtain ⟨L', hL, rfl⟩ := h
  have : L' = [] := List.Perm.eq_nil hL
  subst this
  simp
theorem bag_same {H G : Hp} {b : Addr} {n : Int} (h : Bag H b n) (s : Same H G) : Bag G b n := by
  obtain ⟨d, m, c, e, r⟩ := h
  exact ⟨d, m, c, s _ _ e, r⟩
theorem put_all {C : Rw → Prop} {rows : List Rw} {r l : Str} {p : Int} (h : ∀ x ∈ rows, C x) (h1 : C (r, l, p)) : ∀ x ∈ putR rows r l p, C x := by
  intro x hx
  unfold putR at hx
  split at hx
  · obtain ⟨y, hy, rfl⟩ := List.mem_map.mp hx
    split
    · rename_i e
      rw [e]
      exact h1
    · exact h y hy
  · rcases List.mem_append.mp hx with hx | hx
    · exact h x hx
    · rw [List.mem_singleton.mp hx]
      exact h1
/-- what a fault tells, as texts -/
def flS (l : Str) : Fl → List Str
  | .low r => ["low", l, r]
  | .high r => ["high", l, r]
  | .double r o => ["double", l, r, o]
theorem flV_eq (l : Str) (x : Fl) : flV l x = (flS l x).map V.str := by cases x <;> rfl
theorem dbl_mem : ∀ {ps : List Pr} {x : Fl}, dblP ps = some x → ∃ a b, x = .double a b ∧ a ∈ ps.map (·.2) ∧ b ∈ ps.map (·.2)
  | [], x, h => by cases h
  | [_], x, h => by cases h
  | a :: b :: t, x, h => by
    unfold dblP at h
    by_cases c : a.1 = b.1
    · rw [if_pos c] at h
      injection h with h
      exact ⟨a.2, b.2, h.symm, List.mem_cons_self, .tail _ List.mem_cons_self⟩
    · rw [if_neg c] at h
      obtain ⟨p, q, e, h1, h2⟩ := dbl_mem h
      exact ⟨p, q, e, .tail _ h1, .tail _ h2⟩
theorem fl_nm {ps : List Pr} {l : Str} {x : Fl} (h : fauP ps = some x) (hl : isNm l = true) (nm : ∀ z ∈ ps.map (·.2), isNm z = true) : ∀ z ∈ flS l x, isNm z = true := by
  have w1 : isNm "low" = true := by decide +kernel
  have w2 : isNm "high" = true := by decide +kernel
  have w3 : isNm "double" = true := by decide +kernel
  have one : ∀ (w r : Str), isNm w = true → isNm r = true → ∀ z ∈ [w, l, r], isNm z = true := fun w r hw hr z hz => by
    rcases List.mem_cons.mp hz with rfl | hz
    · exact hw
    rcases List.mem_cons.mp hz with rfl | hz
    · exact hl
    · rw [List.mem_singleton.mp hz]
      exact hr
  unfold fauP at h
  cases e1 : ps.find? (fun q => decide (q.1 < 1)) with
  | some q =>
    rw [e1] at h
    injection h with h
    subst h
    exact one _ _ w1 (nm _ (List.mem_map.mpr ⟨q, List.mem_of_find?_eq_some e1, rfl⟩))
  | none =>
    rw [e1] at h
    dsimp only at h
    cases e2 : ps.find? (fun q => decide (q.1 > (ps.length : Int))) with
    | some q =>
      rw [e2] at h
      injection h with h
      subst h
      exact one _ _ w2 (nm _ (List.mem_map.mpr ⟨q, List.mem_of_find?_eq_some e2, rfl⟩))
    | none =>
      rw [e2] at h
      obtain ⟨a, b, rfl, h1, h2⟩ := dbl_mem h
      intro z hz
      rcases List.mem_cons.mp hz with rfl | hz
      · exact w3
      · rcases List.mem_cons.mp hz with rfl | hz
        · exact hl
        rcases List.mem_cons.mp hz with rfl | hz
        · exact nm _ h1
        · rw [List.mem_singleton.mp hz]
          exact nm _ h2
theorem nm_strOk {z : Str} (h : isNm z = true) : PyData.strOk z = true := by
  unfold PyData.strOk
  rw [← Array.all_toList, List.all_eq_true]
  intro c hc
  have := (nm_inv h).2.2 c hc
  unfold isLet at this
  simp at this
  exact decide_eq_true (by omega)
theorem nmsT {zs : List Str} (h : ∀ z ∈ zs, isNm z = true) : SeqAt.shaped (.tuple (zs.map PyData.str)) = true := by
  have e1 : ∀ zs : List Str, (∀ z ∈ zs, isNm z = true) → PyData.canLayAll0 (zs.map PyData.str) = true ∧ PyData.depthAll (zs.map PyData.str) = 0 := by
    intro zs
    induction zs with
    | nil => intro _; exact ⟨rfl, rfl⟩
    | cons z r ih =>
      intro h
      obtain ⟨h1, h2⟩ := ih fun y hy => h y (List.mem_cons_of_mem _ hy)
      refine ⟨?_, ?_⟩
      · show (PyData.strOk z && PyData.canLayAll0 (r.map PyData.str)) = true
        rw [nm_strOk (h z List.mem_cons_self), h1]
        rfl
      · show max 0 (PyData.depthAll (r.map PyData.str)) = 0
        rw [h2]
        rfl
  obtain ⟨h1, h2⟩ := e1 zs h
  unfold SeqAt.shaped
  refine Bool.and_eq_true_iff.mpr ⟨h1, decide_eq_true ?_⟩
  show PyData.depthAll (zs.map PyData.str) + 1 ≤ 64
  omega
theorem ok_law {f fB fD fNs fPc fLf fLu fR : Addr} {fd fdB fdD fdNs fdPc fdLf fdLu fdR fdBI fdFf fdDn fdUn fdSet : FuncData} (F : FnP K "law" sLaw f fd) (S : Brd K)
    (GB : FnOk P w K mg base CX0 1 fB fdB ["script", "at"] (spBag K)) (bB : Binds K fdB ["script", "at"] []) (kB : PySem.W.keepIn K (.ref fB) = true) (gB : mg "_law_bag" = some (.ref fB))
    (GD : FnOk P w K mg base CX0 1 fD fdD ["bag", "many"] spDraw) (bD : Binds K fdD ["bag", "many"] []) (kD : PySem.W.keepIn K (.ref fD) = true) (gD : mg "_law_draw" = some (.ref fD))
    (GNs : FnOk P w K mg base CX0 3 fNs fdNs ["bag", "many"] spLNames) (bNs : Binds K fdNs ["bag", "many"] []) (kNs : PySem.W.keepIn K (.ref fNs) = true) (gNs : mg "_law_names" = some (.ref fNs))
    (GPc : FnOk P w K mg base CX0 3 fPc fdPc ["bag", "many"] spPlc) (bPc : Binds K fdPc ["bag", "many"] []) (kPc : PySem.W.keepIn K (.ref fPc) = true) (gPc : mg "_law_places" = some (.ref fPc))
    (GLf : FnOk P w K mg base CX0 2 fLf fdLf ["model", "lists"] (spLF K)) (bLf : Binds K fdLf ["model", "lists"] []) (kLf : PySem.W.keepIn K (.ref fLf) = true) (gLf : mg "_law_fault" = some (.ref fLf))
    (GLu : FnOk P w K mg base CX0 1 fLu fdLu ["model"] (spLU K)) (bLu : Binds K fdLu ["model"] []) (kLu : PySem.W.keepIn K (.ref fLu) = true) (gLu : mg "_law_is_unlike" = some (.ref fLu))
    (GR : FnOk P w K mg base CX0 1 fR fdR ["model", "lst"] (spLRows K)) (bR : Binds K fdR ["model", "lst"] []) (kR : PySem.W.keepIn K (.ref fR) = true) (gR : mg "_law_rows" = some (.ref fR))
    (GBI : FnOk P w K mg base CX0 1 (ma K (ga K "Board") "__init__") fdBI ["self"] (spBI K)) (bBI : Binds K fdBI ["self"] []) (gBrd : mg "Board" = some (.ref (ga K "Board")))
    (GFf : FnOk P w K mg base CX0 2 (ma K (ga K "Board") "first_fault") fdFf ["self"] (spFf K)) (bFf : Binds K fdFf ["self"] [])
    (PDn : PropOf K (ga K "Board") "is_dense" (ma K (ga K "Board") "is_dense") (gAd K "Board" "is_dense")) (GDn : FnOk P w K mg base CX0 3 (gAd K "Board" "is_dense") fdDn ["self"] (spDns K)) (bDn : Binds K fdDn ["self"] [])
    (PUn : PropOf K (ga K "Board") "is_unlike" (ma K (ga K "Board") "is_unlike") (gAd K "Board" "is_unlike")) (GUn : FnOk P w K mg base CX0 1 (gAd K "Board" "is_unlike") fdUn ["self"] (spUnl K)) (bUn : Binds K fdUn ["self"] [])
    (GSet : FnOk P w K mg base CX0 2 (ma K (ga K "Board") "__setitem__") fdSet ["self", "at", "worth"] (spSet K)) (bSet : Binds K fdSet ["self", "at", "worth"] [])
    (n_max : mg "max" = none) (n_min : mg "min" = none) (n_len : mg "len" = none) (n_range : mg "range" = none) (n_isinstance : mg "isinstance" = none) (n_tuple : mg "tuple" = none) (n_zip : mg "zip" = none) (n_enumerate : mg "enumerate" = none) : FnG P w K mg base CX0 5 f fd ["script"] (spLaw K) := by
  refine fnG_ok F scLaw (fun vs H Q E h => ?_) (fun cdv A outer s H vs Q E gg hr h => ?_)
  · obtain ⟨a, ns, rfl, _⟩ := h
    rfl
  · obtain ⟨a, ns, rfl, hS, hl, k⟩ := h
    have hr1 := hr.mono (j := 1) (by decide)
    have hr2 := hr.mono (j := 2) (by decide)
    have hr3 := hr.mono (j := 3) (by decide)
    have hr4 := hr.mono (j := 4) (by decide)
    have hu64 := hr.units
    have hu := Nat.lt_of_le_of_lt (Nat.add_le_add_left (by decide : 1 ≤ 64) _) hr.units
    have nd := scLaw.nd
    refine ⟨_, PSs.nox (pss_cons (ps_for PassesOwn.never rfl (pi_range1 (by rfl) n_range (pa_cons (pe_callB (call_max2 rfl) (by rfl) n_max (by decide +kernel) (pa_cons pe_int (pa_cons (pe_callB (call_min2 rfl) (by rfl) n_min (by decide +kernel) (pa_cons pe_int (pa_cons (pe_callB call_len_seq (by rfl) n_len PySem.boot_len (pa_cons (pv 0) pa_nil)) pa_nil))) pa_nil))) pa_nil)) (pg_name (i := 1) nd rfl (Or.inl rfl))
(pss_cons (ps_set (i := 2) nd rfl (Or.inl rfl) (pe_call GB hr1 (by rfl) gB kB bB .nil pass0 (pa_cons (pv 0) (pa_cons (pv 1) pa_nil))))
(pss_cons (ps_asg (pe_tup (pa_cons (pe_call GNs hr3 (by rfl) gNs kNs bNs .nil pass0 (pa_cons (pv 2) (pa_cons pe_int pa_nil))) (pa_cons (pe_call GNs hr3 (by rfl) gNs kNs bNs .nil pass0 (pa_cons (pv 2) (pa_cons pe_int pa_nil))) pa_nil))) (pg_tup rfl (pgs_cons (pg_name (i := 3) nd rfl (Or.inl rfl)) (pgs_cons (pg_name (i := 4) nd rfl (Or.inr rfl)) pgs_nil))))
(pss_cons (ps_par (i := 5) (j := 6) (by rfl) nd rfl rfl (by decide) rfl rfl (pa_cons (pe_make0 S.made GBI hr2 (by rfl) gBrd bBI .nil pass0) (pa_cons (pe_dnewK) pa_nil)) (by rfl))
(pss_cons (ps_for PassesOwn.never rfl (pi_list (pv 3)) (pg_name (i := 7) nd rfl (Or.inl rfl))
(pss_cons (ps_set (i := 8) nd rfl (Or.inl rfl) (pe_callB (call_min2 rfl) (by rfl) n_min (by decide +kernel) (pa_cons (pe_callB call_len_seq (by rfl) n_len PySem.boot_len (pa_cons (pv 4) pa_nil)) (pa_cons (pe_call GD hr1 (by rfl) gD kD bD .nil pass0 (pa_cons (pv 2) (pa_cons pe_int pa_nil))) pa_nil))))
(pss_cons (ps_par (i := 10) (j := 11) (by rfl) nd rfl rfl (by decide) rfl rfl (pa_cons (pe_lc (own := [("k", 9)]) (g := (gName 9)) (tt := tYes) rfl nd (pi_range1 (by rfl) n_range (pa_cons (pv 8) pa_nil)) (blkOk_by (own := [("k", 9)]) (N := ["script", "at", "bag", "lists", "left", "board", "model", "lst", "many", "k", "rows", "places", "row", "place", "turn", "fault", "told"]) (sc := defScope sLaw) (by decide +kernel)) (fun _ _ _ _ _ => (pg_name (i := 9) nd rfl (Or.inl rfl))) (fun _ _ _ _ _ => pts_nil) (fun _ _ _ _ _ => ((show PE _ _ (tBM0 K "list" rPop (tVar 4)) from pe_bm0 PySem.F.plainAttrs_list PySem.F.slot_list_pop PySem.F.type_list_pop mt_pop (pv 4))))) (pa_cons (pe_call GPc hr3 (by rfl) gPc kPc bPc .nil pass0 (pa_cons (pv 2) (pa_cons (pv 8) pa_nil))) pa_nil)) (by rfl))
(pss_one (ps_for PassesOwn.never rfl (pi_zip (by rfl) n_zip (pa_cons (pv 10) (pa_cons (pv 11) pa_nil))) (pg_tup rfl (pgs_cons (pg_name (i := 12) nd rfl (Or.inl rfl)) (pgs_cons (pg_name (i := 13) nd rfl (Or.inl rfl)) pgs_nil)))
(pss_cons (ps_asg (pv 12) (pg_sub (pv 5) (pe_tup (pa_cons (pv 7) (pa_cons (pv 13) pa_nil))) (set_ownI (S.mth "__setitem__" (by decide)) S.nos GSet hr2 bSet pass0)))
(pss_one (ps_dput hu (pv 6) (pv 12) (pe_tup (pa_cons (pv 7) (pa_cons (pv 13) pa_nil))) rfl))))))))
(pss_cons (ps_for PassesOwn.never rfl (pi_range1 (by rfl) n_range (pa_cons (pe_op op_add (pe_callB call_len_seq (by rfl) n_len PySem.boot_len (pa_cons (pv 3) pa_nil)) pe_int) pa_nil)) (pg_name (i := 14) nd rfl (Or.inl rfl))
(pss_cons (ps_par (i := 15) (j := 16) (by rfl) nd rfl rfl (by decide) rfl rfl (pa_cons (pe_call GLf hr2 (by rfl) gLf kLf bLf .nil pass0 (pa_cons (pv 6) (pa_cons (pv 3) pa_nil))) (pa_cons (pe_meth0 (pv 5) S.cls (S.mth "first_fault" (by decide)) GFf hr2 bFf .nil pass0) pa_nil)) (by rfl))
(pss_cons (ps_if (PW.pt (pw_or (pt_cmpR (op_neD hu64) (pv 16) (pv 15) (nomark _)) (pw_or1 (PW.pt (pw_and (pt_cmpR op_notN (pv 16) pe_non (nomark _)) (pw_and1 (pt_not (pt_val (pe_callB call_isi (by rfl) n_isinstance (by decide +kernel) (pa_cons (pv 16) (pa_cons (pe_bltn (v := .ty "tuple") (by rfl) n_tuple (by decide +kernel) rfl) pa_nil)))))))))))
(pss_one (ps_ret pe_bl))
pss_nil)
(pss_cons (ps_if (PW.pt (pw_or (pt_cmpR op_ne (pe_prop (pv 5) S.cls PDn GDn hr4 bDn .nil pass0 rfl) (pe_cmpR op_isN (pv 15) pe_non (nomark _)) (nomark _)) (pw_or1 (pt_cmpR op_ne (pe_prop (pv 5) S.cls PUn GUn hr2 bUn .nil pass0 rfl) (pe_call GLu hr1 (by rfl) gLu kLu bLu .nil pass0 (pa_cons (pv 6) pa_nil)) (nomark _)))))
(pss_one (ps_ret pe_bl))
pss_nil)
(pss_one (ps_if (pt_cmpR op_notN (pv 15) pe_non (nomark _))
(pss_one (ps_for PassesOwn.never rfl (pi_enum (by rfl) n_enumerate (pa_cons (pe_call GR hr1 (by rfl) gR kR bR .nil pass0 (pa_cons (pv 6) (pa_cons (pe_ix ix_tup (pv 15) pe_int (fun _ _ => rfl)) pa_nil))) pa_nil)) (pg_tup rfl (pgs_cons (pg_name (i := 9) nd rfl (Or.inl rfl)) (pgs_cons (pg_name (i := 12) nd rfl (Or.inl rfl)) pgs_nil)))
(pss_cons (ps_asg (pv 12) (pg_sub (pv 5) (pe_tup (pa_cons (pe_ix ix_tup (pv 15) pe_int (fun _ _ => rfl)) (pa_cons (pe_op op_add (pv 9) pe_int) pa_nil))) (set_ownI (S.mth "__setitem__" (by decide)) S.nos GSet hr2 bSet pass0)))
(pss_one (ps_dput hu (pv 6) (pv 12) (pe_tup (pa_cons (pe_ix ix_tup (pv 15) pe_int (fun _ _ => rfl)) (pa_cons (pe_op op_add (pv 9) pe_int) pa_nil))) rfl)))))
pss_nil))))))
(pss_one (ps_if (pt_not (pt_val (pe_prop (pv 5) S.cls PDn GDn hr4 bDn .nil pass0 rfl)))
(pss_one (ps_ret pe_bl))
pss_nil))))))))
(pss_one (ps_ret pe_bl))), ?_⟩
    refine ⟨_, rfl, a, _, rfl, .inl hS, _, _, rfl, _, _, rfl, _, rfl, ?_, ?_, ?_⟩
    · rw [List.length_map]; split <;> (try split) <;> omega
    · rw [List.length_map]; split <;> (try split) <;> omega
    rw [List.length_map]
    have hn3 : (if (if (ns.length : Int) < 3 then (ns.length : Int) else 3) > 1 then (if (ns.length : Int) < 3 then (ns.length : Int) else 3) else 1).toNat ≤ 3 := by
      split <;> (try split) <;> omega
    generalize (if (if (ns.length : Int) < 3 then (ns.length : Int) else 3) > 1 then (if (ns.length : Int) < 3 then (ns.length : Int) else 3) else 1).toNat = nn at hn3
    refine for_it (walk_rng (n := nn)) (fun _ σ G => ∃ v1 v2 v3 v4 v5 v6 v7 v8 v9 v10 v11 v12 v13 v14 v15 v16, σ = [some (.ref a), v1, v2, v3, v4, v5, v6, v7, v8, v9, v10, v11, v12, v13, v14, v15, v16] ∧ Same H G)
      ⟨none, none, none, none, none, none, none, none, none, none, none, none, none, none, none, none, rfl, Same.refl H⟩ (fun _ _ _ _ _ => trivial) ?_ (fun σ G _ => k _)
    rintro i x σ G' G hi ⟨v1, v2, v3, v4, v5, v6, v7, v8, v9, v10, v11, v12, v13, v14, v15, v16, rfl, sG⟩ ⟨rfl, rfl⟩
    refine ⟨_, rfl, _, rfl, a, ns, i, rfl, sG.seq hS, hl, by omega, fun b G1 nb kb eb hB => ?_⟩
    dsimp only [gName, List.set]
    have hbH : H b = none := free_same sG nb
    refine ⟨_, rfl, b, _, 4, rfl, hB, by omega, by decide, by decide, fun L ls G2 hN1 l1 l2 => ?_⟩
    obtain ⟨nL, Lb, k2, hB2, hL2, ndL, nmL⟩ := hN1
    refine ⟨_, rfl, b, _, 28, rfl, hB2, by omega, by decide, by decide, fun N nms G3 hN2 m1 m2 => ?_⟩
    obtain ⟨nN, Nb, k3, hB3, hN3, ndN, nmN⟩ := hN2
    have hLN : L ≠ N := fun e => by rw [e, nN] at hL2; cases hL2
    have hL3 := k3 _ _ Lb hL2
    have sH2 : Same H G2 := fun x o e => by
      have hx : x ≠ b := ne_of_none e hbH
      exact k2 _ _ hx (kb _ _ hx (sG _ _ e))
    have sH3 : Same H G3 := fun x o e => k3 _ _ (ne_of_none e hbH) (sH2 _ _ e)
    have hNH : H N = none := free_same sH2 nN
    clear k3 k2 kb hL2 hB2 hB
    refine ⟨(by show 2 ≤ sizeLine; decide), fun T nT => ?_⟩
    have sT := same_put (o := .tup [V.ref L, V.ref N]) nT
    have hT : upd G3 T (.tup [V.ref L, V.ref N]) T = some (.tup [V.ref L, V.ref N]) := upd_same
    have hL3 := sT _ _ hL3
    have hN3 := sT _ _ hN3
    have sH3 := sH3.trans sT
    have hB3 := bag_same hB3 sT
    generalize upd G3 T (.tup [V.ref L, V.ref N]) = G3 at hT hL3 hN3 sH3 hB3 ⊢
    clear sT nT
    refine ⟨_, _, rfl, SqT.of hT, rfl, _, _, rfl, _, _, rfl, rfl, ?_⟩
    dsimp only [gName, List.set]
    refine fun bd dx nbd ndx nex => ⟨bd, dx, rfl, upd_same, fun d0 nd0 => ⟨rfl, fun md nmd => ⟨_, _, rfl, ?_⟩⟩⟩
    have st : ∃ G8, G8 = upd (upd (upd (upd (upd G3 dx (.own bd)) bd (.ins (ga K "Board") dx [])) d0 (.dK [])) bd (.ins (ga K "Board") dx [("_spots", V.ref d0)])) md (.dK []) ∧ ST K H G8 b bd md L N ls nms [] 800 := by
      refine ⟨_, rfl, ?_⟩
      have e1 : d0 ≠ bd := fun e => by rw [e, upd_same] at nd0; cases nd0
      have e2 : d0 ≠ dx := fun e => by rw [e, upd_ne nex, upd_same] at nd0; cases nd0
      have n3d : G3 d0 = none := by rw [upd_ne e1, upd_ne e2] at nd0; exact nd0
      have e3 : md ≠ bd := fun e => by rw [e, upd_same] at nmd; cases nmd
      have e4 : md ≠ d0 := fun e => by rw [e, upd_ne e1, upd_same] at nmd; cases nmd
      have e5 : md ≠ dx := fun e => by rw [e, upd_ne nex, upd_ne e2.symm, upd_ne nex, upd_same] at nmd; cases nmd
      have n3m : G3 md = none := by rw [upd_ne e3, upd_ne e4, upd_ne e3, upd_ne e5] at nmd; exact nmd
      have mv : Same G3 (upd (upd (upd (upd (upd G3 dx (.own bd)) bd (.ins (ga K "Board") dx [])) d0 (.dK [])) bd (.ins (ga K "Board") dx [("_spots", V.ref d0)])) md (.dK [])) := fun x o e => by
        rw [upd_ne (ne_of_none e n3m), upd_ne (ne_of_none e nbd), upd_ne (ne_of_none e n3d), upd_ne (ne_of_none e nbd), upd_ne (ne_of_none e ndx)]
        exact e
      have hbd : upd (upd (upd (upd (upd G3 dx (.own bd)) bd (.ins (ga K "Board") dx [])) d0 (.dK [])) bd (.ins (ga K "Board") dx [("_spots", V.ref d0)])) md (.dK []) bd = some (.ins (ga K "Board") dx [("_spots", V.ref d0)]) := by
        rw [upd_ne e3.symm, upd_same]
      refine ⟨Bag.mono (bag_same hB3 mv) (by omega), ⟨dx, d0, [], hbd, ?_, .nil, List.nodup_nil⟩, ⟨[], upd_same, .nil, List.nodup_nil⟩, fun dx' d' z => ?_, mv _ _ hL3, mv _ _ hN3, Lb, Nb, sH3.trans mv, hbH, free_same sH3 nbd, free_same sH3 n3m⟩
      · rw [upd_ne e4.symm, upd_ne e1, upd_same]
      · rw [hbd] at z
        cases z
        exact e4.symm
    obtain ⟨G8, eG8, st⟩ := st
    rw [← eG8]
    clear eG8 nmd nd0 nbd ndx nex hL3 hN3 hB3 sH3 nL nN hT
    dsimp only [List.set]
    refine ⟨_, rfl, L, rfl, ⟨_, SqL.of st.hl⟩, ?_⟩
    refine for_it (walk_list (K := K) (a := L) (xs := ls.map V.str)) (fun m σ G => ∃ v7 v8 v9 v10 v11 v12 v13 v14 v15 v16 nms rows, σ = [some (.ref a), some (.int (i : Int)), some (.ref b), some (.ref L), some (.ref N), some (.ref bd), some (.ref md), v7, v8, v9, v10, v11, v12, v13, v14, v15, v16] ∧ ST K H G b bd md L N ls nms rows (800 + 250 * m) ∧ (∀ x ∈ rows, x.2.1 ∈ ls ∧ isNm x.1 = true) ∧ (∀ z ∈ nms, isNm z = true) ∧ rows.length + nms.length ≤ 28)
      ⟨_, _, _, _, _, _, _, _, _, _, nms, [], rfl, st.le (by omega), (fun x hx => absurd hx (by simp)), nmN, by show 0 + nms.length ≤ 28; omega⟩ (fun _ _ _ _ h => by obtain ⟨_, _, _, _, _, _, _, _, _, _, _, _, _, q, _⟩ := h; exact SqL.of q.hl) ?_ ?_
    · clear st nmN m1 m2 ndN
      rintro m x σ G' G hm ⟨v7, v8, v9, v10, v11, v12, v13, v14, v15, v16, nms, rows, rfl, st, hin, nmN, cnt⟩ ⟨rfl, hx⟩
      obtain ⟨l, hlm, rfl⟩ := Option.map_eq_some_iff.mp ((List.getElem?_map ..).symm.trans hx)
      rw [List.length_map] at hm
      have hll := List.mem_of_getElem? hlm
      have hln := nmL l hll
      dsimp only [gName, List.set]
      refine ⟨_, rfl, N, _, rfl, .inl (SqL.of st.hn), _, rfl, b, _, 8, rfl, st.bag, by omega, by decide, by decide, fun r G2 r0 r1 bt hB2 => ⟨_, _, rfl, ?_⟩⟩
      have st := st.draw bt hB2
      rw [List.length_map]
      obtain ⟨mm, h7, hmn, emm⟩ : ∃ mm : Nat, mm ≤ 7 ∧ mm ≤ nms.length ∧ (if r < (nms.length : Int) then r else (nms.length : Int)) = (mm : Int) := by
        by_cases c : r < (nms.length : Int)
        · rw [if_pos c]
          exact ⟨r.toNat, by omega, by omega, by omega⟩
        · rw [if_neg c]
          exact ⟨nms.length, by omega, Nat.le_refl _, rfl⟩
      rw [emm]
      dsimp only [List.set]
      refine ⟨_, rfl, _, rfl, by omega, by omega, fun D nD => ?_⟩
      rw [Int.toNat_natCast]
      have Db := st.bag.ne nD
      have DL : D ≠ L := fun e => by have := st.hl; rw [← e, nD] at this; cases this
      have DN : D ≠ N := fun e => by have := st.hn; rw [← e, nD] at this; cases this
      have D0 := free_same st.kept nD
      refine lc_it (walk_rng (n := mm)) (fun j X => ∃ rs zs : List Str, X D = some (.lst (rs.map V.str)) ∧ rs.length = j ∧ zs.length + j = nms.length ∧ (∀ z ∈ rs, isNm z = true) ∧ (∀ z ∈ zs, isNm z = true) ∧ ST K H X b bd md L N ls zs rows (800 + 250 * m + 1)) ⟨[], nms, upd_same, rfl, rfl, (fun z hz => by cases hz), nmN, st.same (same_put nD)⟩ (fun _ _ _ _ => trivial) ?_ ?_
      · rintro j x X' X hj ⟨rs, zs, hD, hrl, hzl, nr, nz, st⟩ ⟨rfl, rfl⟩
        refine ⟨rfl, ?_⟩
        dsimp only [tYes]
        rw [if_pos rfl]
        have hpos : zs.length - 1 < zs.length := by omega
        have hlast : (zs.map V.str)[(zs.map V.str).length - 1]? = some (V.str zs[zs.length - 1]) := by
          rw [List.length_map, List.getElem?_map, List.getElem?_eq_getElem hpos]
          rfl
        have hz1 := nz _ (List.getElem_mem hpos)
        have edl : (zs.map V.str).dropLast = zs.dropLast.map V.str := (List.map_dropLast ..).symm
        refine ⟨_, rfl, .inl ⟨rfl, _, SqL.of st.hn⟩, N, _, _, rfl, rfl, st.hn, hlast, ?_⟩
        rw [edl]
        have st := st.left zs.dropLast hLN hNH
        refine ⟨_, (upd_ne DN).trans hD, by rw [List.length_map, sizeLine_eq]; omega, rs ++ [zs[zs.length - 1]], zs.dropLast, by rw [upd_same, List.map_append]; rfl, by rw [List.length_append, hrl]; rfl, by rw [List.length_dropLast]; omega, fun z hz => ?_, fun z hz => nz z ((List.dropLast_sublist zs).subset hz), st.put ((upd_ne DN).trans hD) Db DL DN D0⟩
        rcases List.mem_append.mp hz with hz | hz
        · exact nr z hz
        · rw [List.mem_singleton.mp hz]
          exact hz1
      rintro X ⟨rs, zs, hD, hrl, hzl, nr, nz, st⟩
      refine ⟨_, rfl, _, rfl, b, _, mm, rfl, st.bag, by omega, by omega, fun Pl ps G5 Plb Pl0 k5 hB5 hps hpl => ⟨_, _, rfl, ?_⟩⟩
      have st := st.keepb k5 hB5
      have hD := k5 _ _ Db hD
      dsimp only [gName, List.set]
      refine ⟨_, rfl, _, rfl, D, Pl, _, _, rfl, SqL.of hD, SqL.of hps, ?_⟩
      refine for_it (walk_zip (K := K) (a := D) (b := Pl) (xs := rs.map V.str) (ys := ps.map V.int) (n := mm) (by rw [List.length_map, List.length_map, hrl, hpl, Nat.min_self])) (fun j σ G => ∃ w9 w12 w13 rows2, σ = [some (.ref a), some (.int (i : Int)), some (.ref b), some (.ref L), some (.ref N), some (.ref bd), some (.ref md), some (.str l), some (.int mm), w9, some (.ref D), some (.ref Pl), w12, w13, v14, v15, v16] ∧ ST K H G b bd md L N ls zs rows2 (800 + 250 * m + 1 + 200) ∧ (∀ x ∈ rows2, x.2.1 ∈ ls ∧ isNm x.1 = true) ∧ rows2.length ≤ rows.length + j ∧ G D = some (.lst (rs.map V.str)) ∧ G Pl = some (.lst (ps.map V.int)))
        ⟨_, _, _, rows, rfl, st, hin, by omega, hD, hps⟩ (fun _ _ _ _ h => by obtain ⟨_, _, _, _, _, _, _, _, q1, q2⟩ := h; exact ⟨SqL.of q1, SqL.of q2⟩) ?_ ?_
      · clear st hin hD hps
        rintro j x σ G G' hj ⟨w9, w12, w13, rows2, rfl, st, hin, hlen, hD, hps⟩ ⟨T, u, u2, rfl, nT, rfl, hu', hv'⟩
        obtain ⟨r2, hr2, rfl⟩ := Option.map_eq_some_iff.mp ((List.getElem?_map ..).symm.trans hu')
        obtain ⟨p2, hp2, rfl⟩ := Option.map_eq_some_iff.mp ((List.getElem?_map ..).symm.trans hv')
        have sT := same_put (o := .tup [V.str r2, V.int p2]) nT
        have hT : upd G T (.tup [V.str r2, V.int p2]) T = some (.tup [V.str r2, V.int p2]) := upd_same
        have st := st.same sT
        have hD := sT _ _ hD
        have hps := sT _ _ hps
        generalize upd G T (.tup [V.str r2, V.int p2]) = G6 at st hD hps hT ⊢
        refine ⟨_, _, rfl, SqT.of hT, rfl, _, _, rfl, _, _, rfl, rfl, ?_⟩
        dsimp only [gName, List.set]
        refine ⟨_, rfl, _, rfl, _, rfl, _, rfl, (by show 2 ≤ sizeLine; decide), fun T2 nT2 => ?_⟩
        have sT2 := same_put (o := .tup [V.str l, V.int p2]) nT2
        have hT2 : upd G6 T2 (.tup [V.str l, V.int p2]) T2 = some (.tup [V.str l, V.int p2]) := upd_same
        have st := st.same sT2
        have hD := sT2 _ _ hD
        have hps := sT2 _ _ hps
        generalize upd G6 T2 (.tup [V.str l, V.int p2]) = G6 at st hD hps hT2 ⊢
        obtain ⟨dx3, d3, kvs3, ha3, _⟩ := id st.bd
        refine ⟨bd, rfl, ⟨_, _, ha3⟩, bd, T2, rows2, r2, l, p2, rfl, st.bd, SqT.of hT2, nr r2 (List.mem_of_getElem? hr2), hln, by omega, fun G7 k7 hbd7 hnew7 => ?_⟩
        refine ⟨_, rfl, _, rfl, (by show 2 ≤ sizeLine; decide), fun T3 nT3 => ?_⟩
        obtain ⟨kvs, hmd7, hkl, st8⟩ := st.write3 k7 hbd7 hnew7 nT3
        refine ⟨_, rfl, _, rfl, md, _, rfl, .inl ⟨kvs, .inr r2, hmd7, rfl, by rw [hkl, sizeLine_eq]; omega, rfl⟩, ?_⟩
        have := putR_len rows2 r2 l p2
        exact ⟨_, _, _, _, rfl, st8, put_all hin ⟨hll, nr r2 (List.mem_of_getElem? hr2)⟩, by omega, st.list_keep k7 hmd7 nT3 hD, st.list_keep k7 hmd7 nT3 hps⟩
      · rintro σ G ⟨w9, w12, w13, rows2, rfl, st, hin, hlen, _, _⟩
        exact ⟨_, _, _, _, _, _, _, _, _, _, zs, rows2, rfl, st.le (by omega), hin, nz, by omega⟩
    · rintro σ G ⟨v7, v8, v9, v10, v11, v12, v13, v14, v15, v16, nms, rows, rfl, st, hin, nmN, cnt⟩
      rw [List.length_map] at st
      refine ⟨_, rfl, L, _, rfl, .inl (SqL.of st.hl), _, _, rfl, rfl, _, rfl, by rw [List.length_map]; omega, by rw [List.length_map]; omega, ?_⟩
      rw [List.length_map, show ((ls.length : Int) + 1).toNat = ls.length + 1 by omega]
      refine for_it (walk_rng (n := ls.length + 1)) (fun t σ G => ∃ v7 v8 v9 v10 v11 v12 v13 v14 v15 v16 rows, σ = [some (.ref a), some (.int (i : Int)), some (.ref b), some (.ref L), some (.ref N), some (.ref bd), some (.ref md), v7, v8, v9, v10, v11, v12, v13, v14, v15, v16] ∧ ST K H G b bd md L N ls nms rows (800 + 250 * ls.length) ∧ (∀ x ∈ rows, x.2.1 ∈ ls ∧ isNm x.1 = true) ∧ rows.length ≤ 28 ∧ DoneT rows (ls.mergeSort leS) t)
        ⟨_, _, _, _, _, _, _, _, _, _, rows, rfl, st, hin, by omega, fun i l h => absurd h (Nat.not_lt_zero _)⟩ (fun _ _ _ _ _ => trivial) ?_ ?_
      · clear st hin cnt
        rintro t x σ G' G ht ⟨v7, v8, v9, v10, v11, v12, v13, v14, v15, v16, rows, rfl, st, hin, cnt, dn⟩ ⟨rfl, rfl⟩
        have hin1 : ∀ x ∈ rows, x.2.1 ∈ ls := fun x hx => (hin x hx).1
        have hNr : (rows.map (·.1)).Nodup := by obtain ⟨_, _, _, _, _, _, h⟩ := st.bd; exact h
        dsimp only [gName, List.set]
        refine ⟨_, rfl, _, rfl, md, L, rows, ls, rfl, st.mdl, by omega, st.hl, by omega, fun u1 G2 s2 hv1 => ?_⟩
        have st := st.same s2
        obtain ⟨dx, d0, kvs0, ha0, _⟩ := id st.bd
        refine ⟨_, rfl, bd, dx, _, rfl, ha0, rfl, bd, rows, rfl, st.bd, by omega, fun u2 ns2 G3 s3 hN2 hv2 => ⟨_, _, rfl, ?_⟩⟩
        have st := st.same s3
        rw [fir_eq hN2 ndL hin1] at hv2
        dsimp only [List.set]
        have hcase : (firF rows (ls.mergeSort leS) = none ∧ u1 = .non ∧ u2 = .non) ∨ ∃ (l : Str) (z : Fl) (t1 t2 : Addr), firF rows (ls.mergeSort leS) = some (l, z) ∧ u1 = .ref t1 ∧ u2 = .ref t2 ∧ G3 t1 = some (.tup ((flS l z).map V.str)) ∧ G3 t2 = some (.tup ((flS l z).map V.str)) := by
          cases e : firF rows (ls.mergeSort leS) with
          | none =>
            rw [e] at hv1 hv2
            exact .inl ⟨rfl, hv1, hv2⟩
          | some y =>
            obtain ⟨l, z⟩ := y
            rw [e] at hv1 hv2
            obtain ⟨t1, e1, h1⟩ := hv1
            obtain ⟨t2, e2, h2⟩ := hv2
            dsimp only at h1 h2
            rw [flV_eq] at h1 h2
            exact .inr ⟨l, z, t1, t2, rfl, e1, e2, s3 _ _ h1, h2⟩
        have hlz : ∀ l z, firF rows (ls.mergeSort leS) = some (l, z) → isNm l = true ∧ fauP (srtP (prsL rows l)) = some z := fun l z e => by
          unfold firF at e
          obtain ⟨l1, y, l2, e1, e2, _⟩ := List.findSome?_eq_some_iff.mp e
          obtain ⟨z2, h2, e3⟩ := Option.map_eq_some_iff.mp e2
          obtain ⟨rfl, rfl⟩ : y = l ∧ z2 = z := by injection e3 with e3 e4; exact ⟨e3, e4⟩
          have hm : y ∈ ls.mergeSort leS := by rw [e1]; exact List.mem_append_right _ List.mem_cons_self
          exact ⟨nmL y (List.mem_mergeSort.mp hm), h2⟩
        have hnp : ∀ l, ∀ z ∈ (srtP (prsL rows l)).map (·.2), isNm z = true := fun l z hz => by
          obtain ⟨q, hq, rfl⟩ := List.mem_map.mp hz
          exact (hin _ (prs_mem hq)).2
        clear hv1 hv2 hN2 s2 s3 ha0
        refine seq_by (fun σ G => σ = [some (.ref a), some (.int (i : Int)), some (.ref b), some (.ref L), some (.ref N), some (.ref bd), some (.ref md), v7, v8, v9, v10, v11, v12, v13, some (.int (t : Nat)), some u1, some u2] ∧ Same G3 G) ?_ (fun nxt => ?_)
        · rintro σ G4 ⟨rfl, s4⟩
          refine seq_by (fun σ G => σ = [some (.ref a), some (.int (i : Int)), some (.ref b), some (.ref L), some (.ref N), some (.ref bd), some (.ref md), v7, v8, v9, v10, v11, v12, v13, some (.int (t : Nat)), some u1, some u2] ∧ Same G3 G) ?_ (fun nxt => ?_)
          · clear s4 G4
            rintro σ G4 ⟨rfl, s4⟩
            have st := st.same s4
            refine ⟨_, rfl, rfl, _, rfl, ?_⟩
            rcases hcase with ⟨en, rfl, rfl⟩ | ⟨l, z, t1, t2, es, rfl, rfl, h1, h2⟩
            · refine no rfl ⟨_, _, _, _, _, _, _, _, _, _, rows, rfl, st, hin, cnt, done_none en (t + 1)⟩
            · refine yes rfl ?_
              have hat : atI ((flS l z).map V.str) 1 = some (V.str l) := by cases z <;> rfl
              have h1 := s4 _ _ h1
              obtain ⟨hl1, hf1⟩ := hlz l z es
              have hll : l ∈ ls := by
                unfold firF at es
                obtain ⟨l1, y, l2, e1, e2, _⟩ := List.findSome?_eq_some_iff.mp es
                obtain ⟨z2, _, e3⟩ := Option.map_eq_some_iff.mp e2
                obtain rfl : y = l := by injection e3
                exact List.mem_mergeSort.mp (by rw [e1]; exact List.mem_append_right _ List.mem_cons_self)
              refine ⟨_, rfl, _, rfl, t1, _, _, _, rfl, rfl, SqT.of h1, hat, md, rows, l, rfl, st.mdl, by omega, fun R G5 nR s5 hR => ⟨R, _, rfl, SqL.of hR, ?_⟩⟩
              have st := st.same s5
              have h1 := s5 _ _ h1
              obtain ⟨dx, d0, kvs0, ha0, _⟩ := id st.bd
              have t1d : t1 ≠ bd := fun e => by rw [e, ha0] at h1; cases h1
              have Rbd : R ≠ bd := fun e => by rw [e, ha0] at hR; cases hR
              have hk : ∀ y ∈ (srtP (prsL rows l)).map (·.2), y ∈ rows.map (·.1) := fun y hy => by
                obtain ⟨q, hq, rfl⟩ := List.mem_map.mp hy
                exact List.mem_map.mpr ⟨_, prs_mem hq, rfl⟩
              have hnz := hnp l
              have nxtD := done_next hNr es dn
              clear s4 s5 nR ha0
              generalize (srtP (prsL rows l)).map (·.2) = zs at hR hk hnz nxtD
              refine for_it (walk_enum (K := K) (a := R) (xs := zs.map V.str)) (fun j σ G => ∃ w9 w12, σ = [some (.ref a), some (.int (i : Int)), some (.ref b), some (.ref L), some (.ref N), some (.ref bd), some (.ref md), v7, v8, w9, v10, v11, w12, v13, some (.int (t : Nat)), some (.ref t1), some (.ref t2)] ∧ ST K H G b bd md L N ls nms (ren l rows (zs.take j)) (800 + 250 * ls.length) ∧ (∀ x ∈ ren l rows (zs.take j), x.2.1 ∈ ls ∧ isNm x.1 = true) ∧ G R = some (.lst (zs.map V.str)) ∧ G t1 = some (.tup ((flS l z).map V.str)))
                ⟨_, _, rfl, by rw [List.take_zero]; exact st, by rw [List.take_zero]; exact hin, hR, h1⟩ (fun _ _ _ _ h => by obtain ⟨_, _, _, _, _, q, _⟩ := h; exact SqL.of q) ?_ ?_
              · clear st hin hR h1
                rintro j x σ G G' hj ⟨w9, w12, rfl, st, hin, hR, h1⟩ ⟨T, u, u2, rfl, nT, rfl, hu', hv'⟩
                obtain rfl : V.int (j : Nat) = u := Option.some.inj hu'
                obtain ⟨r2, hr2, rfl⟩ := Option.map_eq_some_iff.mp ((List.getElem?_map ..).symm.trans hv')
                have hlen : (ren l rows (zs.take j)).length = rows.length := by
                  have := congrArg List.length (renF_keys l (zs.take j) 0 rows fun y hy => hk y (List.mem_of_mem_take hy))
                  rw [List.length_map, List.length_map] at this
                  exact this
                have hnr := hnz r2 (List.mem_of_getElem? hr2)
                have erq := ren_take (l := l) (rows := rows) hr2
                have sT := same_put (o := .tup [V.int (j : Nat), V.str r2]) nT
                have hT : upd G T (.tup [V.int (j : Nat), V.str r2]) T = some (.tup [V.int (j : Nat), V.str r2]) := upd_same
                have st := st.same sT
                have hR := sT _ _ hR
                have h1 := sT _ _ h1
                generalize upd G T (.tup [V.int (j : Nat), V.str r2]) = G6 at st hR h1 hT ⊢
                refine ⟨_, _, rfl, SqT.of hT, rfl, _, _, rfl, _, _, rfl, rfl, ?_⟩
                dsimp only [gName, List.set]
                refine ⟨_, rfl, _, rfl, _, rfl, t1, _, _, _, rfl, rfl, SqT.of h1, hat, _, rfl, _, _, rfl, rfl, (by show 2 ≤ sizeLine; decide), fun T2 nT2 => ?_⟩
                have sT2 := same_put (o := .tup [V.str l, V.int ((j : Int) + 1)]) nT2
                have hT2 : upd G6 T2 (.tup [V.str l, V.int ((j : Int) + 1)]) T2 = some (.tup [V.str l, V.int ((j : Int) + 1)]) := upd_same
                have st := st.same sT2
                have hR := sT2 _ _ hR
                have h1 := sT2 _ _ h1
                generalize upd G6 T2 (.tup [V.str l, V.int ((j : Int) + 1)]) = G6 at st hR h1 hT2 ⊢
                obtain ⟨dx3, d3, kvs3, ha3, _⟩ := id st.bd
                refine ⟨bd, rfl, ⟨_, _, ha3⟩, bd, T2, _, r2, l, (j : Int) + 1, rfl, st.bd, SqT.of hT2, hnr, hl1, by omega, fun G7 k7 hbd7 hnew7 => ?_⟩
                have h17 := k7 _ _ t1d h1
                refine ⟨_, rfl, t1, _, _, _, rfl, rfl, SqT.of h17, hat, _, rfl, _, _, rfl, rfl, (by show 2 ≤ sizeLine; decide), fun T3 nT3 => ?_⟩
                obtain ⟨kvs, hmd7, hkl, st8⟩ := st.write3 k7 hbd7 hnew7 nT3
                refine ⟨_, rfl, _, rfl, md, _, rfl, .inl ⟨kvs, .inr r2, hmd7, rfl, by rw [hkl, hlen, sizeLine_eq]; omega, rfl⟩, ?_⟩
                exact ⟨_, _, rfl, by rw [erq]; exact st8, by rw [erq]; exact put_all hin ⟨hll, hnr⟩, ST.obj_keep k7 hmd7 nT3 hR Rbd (fun kvs e => by cases e), ST.obj_keep k7 hmd7 nT3 h1 t1d (fun kvs e => by cases e)⟩
              · rintro σ G ⟨w9, w12, rfl, st, hin, _, _⟩
                rw [List.length_map, List.take_length] at st hin
                have hlen : (ren l rows zs).length = rows.length := by
                  have := congrArg List.length (renF_keys l zs 0 rows hk)
                  rw [List.length_map, List.length_map] at this
                  exact this
                exact ⟨_, _, _, _, _, _, _, _, _, _, _, rfl, st, hin, by omega, nxtD⟩
          · have st := st.same s4
            obtain ⟨dx, d0, kvs0, ha0, _⟩ := id st.bd
            refine ⟨_, rfl, bd, dx, _, rfl, ha0, bd, rows, rfl, st.bd, by omega, fun ns4 G5 s5 hN4 => ?_⟩
            rw [fir_eq hN4 ndL hin1]
            have st := st.same s5
            refine ⟨_, rfl, rfl, rfl, _, rfl, no ?_ ?_⟩
            · rcases hcase with ⟨en, rfl, rfl⟩ | ⟨l, z, t1, t2, es, rfl, rfl, h1, h2⟩
              · rw [en]
                rfl
              · rw [es]
                rfl
            · obtain ⟨dx, d0, kvs0, ha0, _⟩ := id st.bd
              refine ⟨_, rfl, bd, dx, _, rfl, ha0, bd, rows, rfl, st.bd, by omega, fun b1 G6 s6 e1 => ?_⟩
              have st := st.same s6
              refine ⟨_, rfl, md, rows, rfl, st.mdl, by omega, fun b2 G7 s7 e2 => ⟨rfl, _, rfl, no ?_ (nxt _ _ ⟨rfl, ((s4.trans s5).trans s6).trans s7⟩)⟩⟩
              have : b1 = b2 := Bool.eq_iff_iff.mpr (e1.trans e2.symm)
              rw [this, decide_eq_true rfl]
              rfl
        · rcases hcase with ⟨en, rfl, rfl⟩ | ⟨l, z, t1, t2, es, rfl, rfl, h1, h2⟩
          · refine ⟨_, rfl, _, rfl, .none, .none, .non, .non, by decide, by decide, _, rfl, no (by decide) ⟨_, rfl, rfl, _, rfl, no rfl (no rfl (nxt _ _ ⟨rfl, Same.refl _⟩))⟩⟩
          · obtain ⟨hl1, hf1⟩ := hlz l z es
            have sh := nmsT (fl_nm hf1 hl1 (hnp l))
            refine ⟨_, rfl, _, rfl, _, _, .tup (SqT.of h2) (strs_dp _), .tup (SqT.of h1) (strs_dp _), sh, sh, _, rfl, no (by rw [SeqAt.eqv_refl _ (Bool.and_eq_true_iff.mp sh).1]; rfl) ⟨_, rfl, rfl, _, rfl, yes rfl ⟨_, rfl, _, _, _, _, _, rfl, .ty _, .base (.tup h2), (by kernel_rfl : PySem.W.kitOne K (.type "tuple") (.type "tuple") = some true), _, rfl, no rfl (nxt _ _ ⟨rfl, Same.refl _⟩)⟩⟩⟩
      · rintro σ G ⟨v7, v8, v9, v10, v11, v12, v13, v14, v15, v16, rows, rfl, st, hin, cnt, dn⟩
        have hin1 : ∀ x ∈ rows, x.2.1 ∈ ls := fun x hx => (hin x hx).1
        have none := done_all (rows := rows) (sl := ls.mergeSort leS) fun i l hi hl => dn i l (by rw [List.length_mergeSort] at hi; omega) hl
        obtain ⟨dx, d0, kvs0, ha0, _⟩ := id st.bd
        refine ⟨_, rfl, bd, dx, _, rfl, ha0, bd, rows, rfl, st.bd, by omega, fun ns4 G4 s4 hN4 => ?_⟩
        rw [fir_eq hN4 ndL hin1, none]
        exact ⟨_, rfl, no rfl ⟨_, _, _, _, _, _, _, _, _, _, _, _, _, _, _, _, rfl, (st.same s4).kept⟩⟩
end
end K08

set_option Elab.async false
set_option maxRecDepth 100000
set_option maxHeartbeats 0
namespace K08
open PySem PySem.Spec PyProof.Rows L2 He KX
structure Fs (K : PySem.W.Frag) : Prop where
  brd : Brd K
  fre : ∀ x ∈ frees, (Fa.free x).ok K = true
  glo : ∀ x ∈ gls, (Fa.glo x).ok K = true
theorem ba9 {a b : Bool} (h : (a && b) = true) : a = true ∧ b = true := Bool.and_eq_true_iff.mp h
theorem brd_of {K : PySem.W.Frag} (h : brdB K = true) : Brd K := by
  unfold brdB at h
  obtain ⟨h1, h⟩ := ba9 h
  obtain ⟨h2, h⟩ := ba9 h
  obtain ⟨h3, h⟩ := ba9 h
  obtain ⟨h4, h5⟩ := ba9 h
  exact ⟨mkr_ok h1, cls_ok h2, noat_ok h3, fun m hm => meth_ok (List.all_eq_true.mp h4 m hm), h5⟩
theorem facts_of {K : PySem.W.Frag} (h : chk K = true) : Fs K := by
  unfold chk at h
  obtain ⟨h1, h⟩ := ba9 h
  obtain ⟨h4, h5⟩ := ba9 h
  exact ⟨brd_of h1, List.all_eq_true.mp h4, List.all_eq_true.mp h5⟩
theorem all_ok {P : Program} {w : World} {K : PySem.W.Frag} {h : Heap} {mg : Str → Option Value} {f : Addr} (X : K.In h) (G : h.Ns mainGlobals mg) (hfa : mg ("law" : Str) = some (.ref f)) (c : SaysP chk fn prs K) :
    ∃ fd : FuncData, (∀ (s : Shared) (u : Value), BindsTo s fd ⟨[u], []⟩ [("script", u)]) ∧ ∀ base : Heap, K.In base → base.Ns mainGlobals mg → FnG P w K mg base CX0 5 f fd ["script"] (spLaw K) := by
  have cx := c.1
  have S := facts_of cx.1
  have g : ∀ x ∈ gls, mg x = some (.ref (ga K x)) := fun x hx => glo_ok X G (S.glo x hx)
  have fr : ∀ x ∈ frees, mg x = none := fun x hx => free_ok X G (S.fre x hx)
  obtain ⟨fd0, F0⟩ := cx.fd 0
  replace F0 : FnP K "is_integer" sInt (ga K "is_integer") fd0 := F0
  obtain ⟨fd1, F1⟩ := cx.fd 1
  replace F1 : FnP K "is_name" sName (ga K "is_name") fd1 := F1
  obtain ⟨fd3, F3⟩ := cx.fd 3
  replace F3 : FnP K "_fault_of" sFau (ga K "_fault_of") fd3 := F3
  obtain ⟨fd4, F4⟩ := cx.fd 4
  replace F4 : FnP K "_law_bag" sBag (ga K "_law_bag") fd4 := F4
  obtain ⟨fd5, F5⟩ := cx.fd 5
  replace F5 : FnP K "_law_draw" sDraw (ga K "_law_draw") fd5 := F5
  obtain ⟨fd6, F6⟩ := cx.fd 6
  replace F6 : FnP K "_law_of" sOf (ga K "_law_of") fd6 := F6
  obtain ⟨fd7, F7⟩ := cx.fd 7
  replace F7 : FnP K "_law_name" sLNm (ga K "_law_name") fd7 := F7
  obtain ⟨fd8, F8⟩ := cx.fd 8
  replace F8 : FnP K "_law_names" sLNms (ga K "_law_names") fd8 := F8
  obtain ⟨fd9, F9⟩ := cx.fd 9
  replace F9 : FnP K "_law_rows" sLRows (ga K "_law_rows") fd9 := F9
  obtain ⟨fd10, F10⟩ := cx.fd 10
  replace F10 : FnP K "_law_places" sPlc (ga K "_law_places") fd10 := F10
  obtain ⟨fd11, F11⟩ := cx.fd 11
  replace F11 : FnP K "_law_fault" sLF (ga K "_law_fault") fd11 := F11
  obtain ⟨fd12, F12⟩ := cx.fd 12
  replace F12 : FnP K "_law_is_unlike" sLU (ga K "_law_is_unlike") fd12 := F12
  obtain ⟨fd13, F13⟩ := cx.fd 13
  replace F13 : FnP K "law" sLaw (ga K "law") fd13 := F13
  obtain ⟨fd2, F2⟩ := cx.fd 2
  replace F2 : FunD K "__init__" (("Board" : Str) ++ ".__init__") (defArgs sBI) (defBody sBI) (defScope sBI) [] [] (ma K (ga K "Board") "__init__") fd2 := F2
  rw [(by decide +kernel : (("Board" : Str) ++ ".__init__" : Str) = "Board.__init__")] at F2
  obtain ⟨fd14, F14⟩ := cx.fd 14
  replace F14 : FunD K "__setitem__" (("Board" : Str) ++ "." ++ "__setitem__") (defArgs sBSet) (defBody sBSet) (defScope sBSet) [] [] (ma K (ga K "Board") "__setitem__") fd14 := F14
  rw [(by decide +kernel : (("Board" : Str) ++ "." ++ "__setitem__" : Str) = "Board.__setitem__")] at F14
  replace F14 : MtP K "__setitem__" "Board.__setitem__" sBSet (ma K (ga K "Board") "__setitem__") fd14 := F14
  obtain ⟨fd15, F15⟩ := cx.fd 15
  replace F15 : FunD K "list_names" (("Board" : Str) ++ "." ++ "list_names") (defArgs sBNames) (defBody sBNames) (defScope sBNames) [] [] (ma K (ga K "Board") "list_names") fd15 := F15
  rw [(by decide +kernel : (("Board" : Str) ++ "." ++ "list_names" : Str) = "Board.list_names")] at F15
  replace F15 : MtP K "list_names" "Board.list_names" sBNames (ma K (ga K "Board") "list_names") fd15 := F15
  obtain ⟨fd16, F16⟩ := cx.fd 16
  replace F16 : FunD K "first_fault" (("Board" : Str) ++ "." ++ "first_fault") (defArgs sBFf) (defBody sBFf) (defScope sBFf) [] [] (ma K (ga K "Board") "first_fault") fd16 := F16
  rw [(by decide +kernel : (("Board" : Str) ++ "." ++ "first_fault" : Str) = "Board.first_fault")] at F16
  replace F16 : MtP K "first_fault" "Board.first_fault" sBFf (ma K (ga K "Board") "first_fault") fd16 := F16
  obtain ⟨fd17, F17⟩ := cx.fd 17
  replace F17 : FunD K "_pairs" (("Board" : Str) ++ "." ++ "_pairs") (defArgs sBPairs) (defBody sBPairs) (defScope sBPairs) [] [] (ma K (ga K "Board") "_pairs") fd17 := F17
  rw [(by decide +kernel : (("Board" : Str) ++ "." ++ "_pairs" : Str) = "Board._pairs")] at F17
  replace F17 : MtP K "_pairs" "Board._pairs" sBPairs (ma K (ga K "Board") "_pairs") fd17 := F17
  have e := hfa.symm.trans (g "law" (by decide))
  cases e
  refine ⟨fd13, fun s u => FunD.bindsA (ps := ["script"]) F13 (fun _ _ _ _ _ _ us hl => match us, hl with | [_], _ => rfl) s [u] rfl, fun base _ _ => ?_⟩
  have n_isinstance := fr "isinstance" (by decide)
  have n_int := fr "int" (by decide)
  have n_bool := fr "bool" (by decide)
  have n_str := fr "str" (by decide)
  have n_len := fr "len" (by decide)
  have n_all := fr "all" (by decide)
  have n_tuple := fr "tuple" (by decide)
  have n_list := fr "list" (by decide)
  have n_enumerate := fr "enumerate" (by decide)
  have n_sum := fr "sum" (by decide)
  have n_abs := fr "abs" (by decide)
  have n_range := fr "range" (by decide)
  have n_max := fr "max" (by decide)
  have n_min := fr "min" (by decide)
  have n_sorted := fr "sorted" (by decide)
  have n_zip := fr "zip" (by decide)
  have n_set := fr "set" (by decide)
  have b0 : Binds K fd0 ["thing"] [] := F0.bindsN fun _ _ _ _ _ _ us hl => match us, hl with | [_], _ => rfl
  have b1 : Binds K fd1 ["thing"] [] := F1.bindsN fun _ _ _ _ _ _ us hl => match us, hl with | [_], _ => rfl
  have b3 : Binds K fd3 ["lst", "pairs"] [] := F3.bindsN fun _ _ _ _ _ _ us hl => match us, hl with | [_, _], _ => rfl
  have b4 : Binds K fd4 ["script", "at"] [] := F4.bindsN fun _ _ _ _ _ _ us hl => match us, hl with | [_, _], _ => rfl
  have b5 : Binds K fd5 ["bag", "many"] [] := F5.bindsN fun _ _ _ _ _ _ us hl => match us, hl with | [_, _], _ => rfl
  have b6 : Binds K fd6 ["bag", "some"] [] := F6.bindsN fun _ _ _ _ _ _ us hl => match us, hl with | [_, _], _ => rfl
  have b7 : Binds K fd7 ["bag"] [] := F7.bindsN fun _ _ _ _ _ _ us hl => match us, hl with | [_], _ => rfl
  have b8 : Binds K fd8 ["bag", "many"] [] := F8.bindsN fun _ _ _ _ _ _ us hl => match us, hl with | [_, _], _ => rfl
  have b9 : Binds K fd9 ["model", "lst"] [] := F9.bindsN fun _ _ _ _ _ _ us hl => match us, hl with | [_, _], _ => rfl
  have b10 : Binds K fd10 ["bag", "many"] [] := F10.bindsN fun _ _ _ _ _ _ us hl => match us, hl with | [_, _], _ => rfl
  have b11 : Binds K fd11 ["model", "lists"] [] := F11.bindsN fun _ _ _ _ _ _ us hl => match us, hl with | [_, _], _ => rfl
  have b12 : Binds K fd12 ["model"] [] := F12.bindsN fun _ _ _ _ _ _ us hl => match us, hl with | [_], _ => rfl
  have b13 : Binds K fd13 ["script"] [] := F13.bindsN fun _ _ _ _ _ _ us hl => match us, hl with | [_], _ => rfl
  have b2 : Binds K fd2 ["self"] [] := F2.bindsN fun _ _ _ _ _ _ us hl => match us, hl with | [_], _ => rfl
  have b14 : Binds K fd14 ["self", "at", "worth"] [] := F14.bindsN fun _ _ _ _ _ _ us hl => match us, hl with | [_, _, _], _ => rfl
  have b15 : Binds K fd15 ["self"] [] := F15.bindsN fun _ _ _ _ _ _ us hl => match us, hl with | [_], _ => rfl
  have b16 : Binds K fd16 ["self"] [] := F16.bindsN fun _ _ _ _ _ _ us hl => match us, hl with | [_], _ => rfl
  have b17 : Binds K fd17 ["self", "lst"] [] := F17.bindsN fun _ _ _ _ _ _ us hl => match us, hl with | [_, _], _ => rfl
  have g0 := g "is_integer" (by decide)
  have g1 := g "is_name" (by decide)
  have g3 := g "_fault_of" (by decide)
  have g4 := g "_law_bag" (by decide)
  have g5 := g "_law_draw" (by decide)
  have g6 := g "_law_of" (by decide)
  have g7 := g "_law_name" (by decide)
  have g8 := g "_law_names" (by decide)
  have g9 := g "_law_rows" (by decide)
  have g10 := g "_law_places" (by decide)
  have g11 := g "_law_fault" (by decide)
  have g12 := g "_law_is_unlike" (by decide)
  have g13 := g "law" (by decide)
  have G0 : FnOk P w K mg base CX0 1 (ga K "is_integer") fd0 ["thing"] (spInt K) := ok_int F0 n_isinstance n_int n_bool
  have G1 : FnOk P w K mg base CX0 1 (ga K "is_name") fd1 ["thing"] (spName K) := ok_name F1 n_isinstance n_str n_len n_all
  have G4 : FnOk P w K mg base CX0 1 (ga K "_law_bag") fd4 ["script", "at"] (spBag K) := ok_bag F4 n_len n_abs n_int
  have G5 : FnOk P w K mg base CX0 1 (ga K "_law_draw") fd5 ["bag", "many"] spDraw := ok_draw F5 n_int
  have G6 : FnOk P w K mg base CX0 2 (ga K "_law_of") fd6 ["bag", "some"] (spOf K) := ok_of F6 F5 g5 n_len n_int
  have G7 : FnOk P w K mg base CX0 2 (ga K "_law_name") fd7 ["bag"] spLName := ok_lnm F7 G5 b5 F5.kp g5 n_range
  have G8 : FnOk P w K mg base CX0 3 (ga K "_law_names") fd8 ["bag", "many"] spLNames := ok_lnms F8 G5 b5 F5.kp g5 G6 b6 F6.kp g6 G7 b7 F7.kp g7 n_range n_len
  have G9 : FnOk P w K mg base CX0 1 (ga K "_law_rows") fd9 ["model", "lst"] (spLRows K) := ok_lrows F9 n_sorted
  have gB := g "Board" (by decide)
  have G2 : FnOk P w K mg base CX0 1 (ma K (ga K "Board") "__init__") fd2 ["self"] (spBI K) := ok_bi F2 S.brd
  have G14 : FnOk P w K mg base CX0 2 (ma K (ga K "Board") "__setitem__") fd14 ["self", "at", "worth"] (spSet K) := ok_bset F14 S.brd G1 b1 F1.kp g1 G0 b0 F0.kp g0
  have G15 : FnOk P w K mg base CX0 1 (ma K (ga K "Board") "list_names") fd15 ["self"] (spNames K) := ok_names F15 S.brd n_sorted
  have G17 : FnOk P w K mg base CX0 1 (ma K (ga K "Board") "_pairs") fd17 ["self", "lst"] (spPairs K) := ok_pairs F17 S.brd n_sorted
  have G3 : FnOk P w K mg base CX0 1 (ga K "_fault_of") fd3 ["lst", "pairs"] (spFau K) := ok_fau F3 n_len n_zip
  have G16 : FnOk P w K mg base CX0 2 (ma K (ga K "Board") "first_fault") fd16 ["self"] (spFf K) := ok_ff F16 S.brd G3 b3 F3.kp g3 G15 b15 G17 b17
  have G10 : FnOk P w K mg base CX0 3 (ga K "_law_places") fd10 ["bag", "many"] spPlc := ok_plc F10 G6 b6 F6.kp g6 G5 b5 F5.kp g5 n_range
  have G11 : FnOk P w K mg base CX0 2 (ga K "_law_fault") fd11 ["model", "lists"] (spLF K) := ok_lf F11 G9 b9 F9.kp g9 n_sorted n_len n_enumerate
  have G12 : FnOk P w K mg base CX0 1 (ga K "_law_is_unlike") fd12 ["model"] (spLU K) := ok_lu F12 n_all
  obtain ⟨PDn, fdDn, FDn⟩ := c.pr 0
  replace PDn : PropOf K (ga K "Board") "is_dense" (ma K (ga K "Board") "is_dense") (gAd K "Board" "is_dense") := PDn
  replace FDn : FunD K "is_dense" (("Board" : Str) ++ "." ++ "is_dense") (defArgs sBDns) (defBody sBDns) (defScope sBDns) [] [] (gAd K "Board" "is_dense") fdDn := FDn
  rw [(by decide +kernel : (("Board" : Str) ++ "." ++ "is_dense" : Str) = "Board.is_dense")] at FDn
  have GDn : FnOk P w K mg base CX0 3 (gAd K "Board" "is_dense") fdDn ["self"] (spDns K) := ok_dns FDn S.brd G16 b16
  have bDn : Binds K fdDn ["self"] [] := FDn.bindsN fun _ _ _ _ _ _ us hl => match us, hl with | [_], _ => rfl
  obtain ⟨PUn, fdUn, FUn⟩ := c.pr 1
  replace PUn : PropOf K (ga K "Board") "is_unlike" (ma K (ga K "Board") "is_unlike") (gAd K "Board" "is_unlike") := PUn
  replace FUn : FunD K "is_unlike" (("Board" : Str) ++ "." ++ "is_unlike") (defArgs sBUnl) (defBody sBUnl) (defScope sBUnl) [] [] (gAd K "Board" "is_unlike") fdUn := FUn
  rw [(by decide +kernel : (("Board" : Str) ++ "." ++ "is_unlike" : Str) = "Board.is_unlike")] at FUn
  have GUn : FnOk P w K mg base CX0 1 (gAd K "Board" "is_unlike") fdUn ["self"] (spUnl K) := ok_unl FUn S.brd n_list n_len n_set n_all
  have bUn : Binds K fdUn ["self"] [] := FUn.bindsN fun _ _ _ _ _ _ us hl => match us, hl with | [_], _ => rfl
  exact ok_law F13 S.brd G4 b4 F4.kp g4 G5 b5 F5.kp g5 G8 b8 F8.kp g8 G10 b10 F10.kp g10 G11 b11 F11.kp g11 G12 b12 F12.kp g12 G9 b9 F9.kp g9 G2 b2 gB G16 b16 PDn GDn bDn PUn GUn bUn G14 b14 n_max n_min n_len n_range n_isinstance n_tuple n_zip n_enumerate
end K08
open PySem PySem.W PySem.Calls PyProof.Rows
set_option maxRecDepth 100000 in
set_option maxHeartbeats 0 in
theorem PySem.Challenge.cw_rowsinplace_k08_whole_faults_of_boards_holds : PySem.Challenge.rw_rowsinplace_k08_whole_faults_of_boards.Holds := by
  w_on; o_law
  refine HandSHeadRun.head_any (r := OpenLaw.row PySem.Challenge.rw_rowsinplace_k08_whole_faults_of_boards) (q := view (OpenLaw.row PySem.Challenge.rw_rowsinplace_k08_whole_faults_of_boards).prog [25]) (H := K08.hk) (ob := K08.ob) (M := 20000) (loose := K08.loose) (d := HandSHeadRun.topDef (OpenLaw.row PySem.Challenge.rw_rowsinplace_k08_whole_faults_of_boards).prog 25) (kwd := []) K08.ob_eq
    (by kernel_rfl) (fun s => by kernel_rfl) K08.run (by kernel_rfl) (by kernel_rfl) (by kernel_rfl) (by rfl) (by first | assumption | decide +kernel) (by decide +kernel) ⟨rfl, rfl, rfl, rfl, rfl, by decide +kernel⟩ ?hw ?hc
  case hw => w_witness2
  case hc =>
    refine KX.walk_atG (l := PySem.Challenge.rw_rowsinplace_k08_whole_faults_of_boards) (n := 63) (k := 5) (x := "script") rfl (by decide) (by kernel_rfl) ⟨rfl, by decide, by decide⟩ ?F
    intro w mg fa h Y G hmg0
    obtain ⟨K, KI, c⟩ := Y
    have hmg : mg ("law" : PySem.Str) = some (.ref fa) := by
      have e : (HandSHeadRun.topDef (OpenLaw.row PySem.Challenge.rw_rowsinplace_k08_whole_faults_of_boards).prog 25).name = ("law" : PySem.Str) := by kernel_rfl
      rw [← e]
      exact hmg0
    obtain ⟨fd, hb, hF⟩ := K08.all_ok (P := (PySem.Challenge.rw_rowsinplace_k08_whole_faults_of_boards).prog) (w := w) KI G hmg c
    exact ⟨K, fd, K08.spLaw K, KI, hb, fun H a ns hl _ hS => ⟨a, ns, rfl, hS, hl, fun _ => rfl⟩, hF⟩

