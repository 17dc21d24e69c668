import PyProof.Rows.All
import Wide.All
import OpenK.AllK
import Wide.FinOn
import HandS.ForMost
import HandS.ExcInit
import HandS.Defaults
import HandS.WordsExc
import HandS.Wide
import HandS.EndBits
import HandS.Head0
import HandS.Head1
import HandS.Head2
import HandS.HeadEnd
import HandS.HeadHook1
import HandS.HeadHook2
import KE.KExcInit
import KE.KExcIs
import HandS.HeadHook3
import HandS.More
import PyProof.ExcBaseAll.ValueError
import PyProof.ExcBaseAll.LookupError
import PyProof.ReprRoads
import HandS.ExcIs
import HandS.ExcField
import HandS.ExcCtx
import HandS.ExcInitHot
import HandS.HotCalls
import HandS.Star
import KE.GoesMore
import HandS.Walk
import PyProof.FitsInt
import HandS.IsInst
import HandS.Small
import HandS.SortKw
import KE.KOpsOwn
import KE.DataMinMax
import HandS.Text
import HandS.WideBits
import HandS.Deep
import HandS.ExcOwn
import KE.SortData
import PyProof.Claim2Refuses
import HandS.Set
import HandS.SetBool
import KE.GoesSet
import KE.GoesDict
import KE.GoesOver
import HandS.ListItems
import PyProof.RulesMatch
import HandS.DictComp
import PyProof.DictUpdate
import PyProof.Rows.TupDisplay
import HandS.Comp
import HandS.Zip
import HandS.RaiseMore
import PyProof.Rows.ReprOcc
import HandS.Style
import PySem.Challenge.RW_rowsinplace_k33_kinds_and_numbers
set_option Elab.async false
set_option maxRecDepth 100000
set_option maxHeartbeats 2000000
/-! A hook of our own: one Bool over the written part, and the defs by their places. -/
namespace KX
open PySem PySem.Spec PyProof.Rows L2 He
def lookX (n : Nat) (chk : PySem.W.Frag → Bool) (fn : List DefD) (g : Addr → Option Obj) : Bool × List FnW :=
  let K := frG g (asD g n)
  (chk K && fn.all fun d => d.ok K, fn.map fun d => fnW K d.at_)
def SaysX (chk : PySem.W.Frag → Bool) (fn : List DefD) (K : PySem.W.Frag) : Prop := chk K = true ∧ (fn.all fun d => d.ok K) = true ∧ fn.map (fun d => fnW K d.at_) = fn.map DefD.val
def hookX (n : Nat) (chk : PySem.W.Frag → Bool) (fn : List DefD) : PySem.W.Hook where
  α := Bool × List FnW
  obs := fun s => lookX n chk fn s.heap.get?
  val := fun _ => (true, fn.map DefD.val)
  says := fun _ h => ∃ K : PySem.W.Frag, K.In h ∧ SaysX chk fn K
  of := fun _ s e => by
    refine ⟨frG s.heap.get? (asD s.heap.get? n), frG_in, ?_⟩
    have e1 := congrArg Prod.fst e
    have e2 := congrArg Prod.snd e
    obtain ⟨a, b⟩ := Bool.and_eq_true_iff.mp e1
    exact ⟨a, b, e2⟩
  keeps := fun _ _ _ h k => by
    obtain ⟨K, hK, c⟩ := h
    exact ⟨K, PySem.W.Frag.In.keeps hK k, c⟩
theorem lookX_eq {n : Nat} {chk : PySem.W.Frag → Bool} {fn : List DefD} {g : Addr → Option Obj} {s : Shared} (h : ∀ a, g a = s.heap.get? a) : lookX n chk fn g = (hookX n chk fn).obs s := by
  obtain rfl : g = s.heap.get? := funext h
  rfl
theorem SaysX.fd {chk : PySem.W.Frag → Bool} {fn : List DefD} {K : PySem.W.Frag} (c : SaysX chk fn K) (i : Nat) {d : DefD} (h : fn[i]? = some d := by rfl) :
    ∃ fd, FunD K d.name d.qual d.params d.body d.scope (d.dvs K) (d.kws K) (fAd K d.at_) fd := by
  obtain ⟨_, c2, c3⟩ := c
  have q : (fn.map fun d => fnW K d.at_)[i]? = (fn.map DefD.val)[i]? := congrArg (·[i]?) c3
  rw [List.getElem?_map, List.getElem?_map, h] at q
  exact DefD.funD (Option.some.inj q) (List.all_eq_true.mp c2 d (List.mem_of_getElem? h))
end KX

set_option Elab.async false
set_option maxRecDepth 100000
set_option maxHeartbeats 2000000
/-! The hook with the keys of the module's dicts beside; tuples of texts that the module holds. -/
namespace KX
open PySem PySem.Spec PyProof.Rows L2 He
abbrev KeyT : Type := List (Option (List (Option (Str × Int))))
def lookD (n : Nat) (chk : PySem.W.Frag → Bool) (fn : List DefD) (ds : List (Str × List Str)) (g : Addr → Option Obj) : (Bool × List FnW) × KeyT :=
  let K := frG g (asD g n)
  ((chk K && fn.all fun d => d.ok K, fn.map fun d => fnW K d.at_), ds.map fun d => dicW K (ga K d.1))
def SaysD (chk : PySem.W.Frag → Bool) (fn : List DefD) (ds : List (Str × List Str)) (w : World) (K : PySem.W.Frag) : Prop := SaysX chk fn K ∧ ds.map (fun d => dicW K (ga K d.1)) = ds.map fun d => some (keysIn w.params d.2)
def hookD (n : Nat) (chk : PySem.W.Frag → Bool) (fn : List DefD) (ds : List (Str × List Str)) : PySem.W.Hook where
  α := (Bool × List FnW) × KeyT
  obs := fun s => lookD n chk fn ds s.heap.get?
  val := fun w => ((true, fn.map DefD.val), ds.map fun d => some (keysIn w.params d.2))
  says := fun w h => ∃ K : PySem.W.Frag, K.In h ∧ SaysD chk fn ds w K
  of := fun _ s e => by
    refine ⟨frG s.heap.get? (asD s.heap.get? n), frG_in, ?_⟩
    have e1 := congrArg (fun z : (Bool × List FnW) × KeyT => z.1.1) e
    have e2 := congrArg (fun z : (Bool × List FnW) × KeyT => z.1.2) e
    have e3 := congrArg (fun z : (Bool × List FnW) × KeyT => z.2) e
    obtain ⟨a, b⟩ := Bool.and_eq_true_iff.mp e1
    exact ⟨⟨a, b, e2⟩, e3⟩
  keeps := fun _ _ _ h k => by
    obtain ⟨K, hK, c⟩ := h
    exact ⟨K, PySem.W.Frag.In.keeps hK k, c⟩
theorem lookD_eq {n : Nat} {chk : PySem.W.Frag → Bool} {fn : List DefD} {ds : List (Str × List Str)} {g : Addr → Option Obj} {s : Shared} (h : ∀ a, g a = s.heap.get? a) : lookD n chk fn ds g = (hookD n chk fn ds).obs s := by
  obtain rfl : g = s.heap.get? := funext h
  rfl
theorem SaysD.dic {chk : PySem.W.Frag → Bool} {fn : List DefD} {ds : List (Str × List Str)} {w : World} {K : PySem.W.Frag} (c : SaysD chk fn ds w K) (i : Nat) {d : Str × List Str} (h : ds[i]? = some d := by rfl) : ∃ es n, KDict K w (ga K d.1) es n := by
  have e2 : (ds.map fun d => dicW K (ga K d.1))[i]? = (ds.map fun d => some (keysIn w.params d.2))[i]? := by rw [c.2]
  rw [List.getElem?_map, List.getElem?_map, h] at e2
  exact dicW_ok (Option.some.inj e2)
/-- a tuple of texts that the module holds at a -/
def strB : Value → Str → Bool
  | .str y _, z => decide (y = z)
  | _, _ => false
def strsB : List Value → List Str → Bool
  | [], [] => true
  | u :: r, z :: zs => strB u z && strsB r zs
  | _, _ => false
def tupB (K : PySem.W.Frag) (a : Addr) (zs : List Str) : Bool := match K.lookup a with
  | some ⟨.type c, _, .seq its _, _⟩ => decide (c = "tuple") && (decide (its.size ≤ 1000) && strsB its.toList zs)
  | _ => false
theorem strsB_ok : ∀ {us : List Value} {zs : List Str}, strsB us zs = true → Vals (zs.map V.str) us
  | [], [], _ => .nil
  | u :: r, z :: zs, h => by
    obtain ⟨h1, h2⟩ := Bool.and_eq_true_iff.mp h
    refine .cons ?_ (strsB_ok h2)
    cases u with
    | str y t => exact ⟨t, by rw [show y = z from of_decide_eq_true h1]⟩
    | _ => cases h1
  | [], _ :: _, h => nomatch h
  | _ :: _, [], h => nomatch h
theorem tupB_ok {K : PySem.W.Frag} {a : Addr} {zs : List Str} {H : Hp} (h : tupB K a zs = true) : SqT K H a (zs.map V.str) := by
  unfold tupB at h
  split at h
  · rename_i c d its n sl e
    obtain ⟨h1, h⟩ := Bool.and_eq_true_iff.mp h
    obtain ⟨h2, h3⟩ := Bool.and_eq_true_iff.mp h
    have e1 : c = "tuple" := of_decide_eq_true h1
    subst e1
    have h4 : its.size ≤ 1000 := of_decide_eq_true h2
    exact .inr ⟨_, its, n, e, rfl, rfl, Nat.le_trans h4 (by decide), strsB_ok h3⟩
  · cases h
/-- a world with one of its answers set; a dict with keys that the top makes asks for that answer alone -/
def setF (w : World) (b : Bool) : World := { w with params := { w.params with followText := fun r => if r = "special-get-raises" then b else w.params.followText r } }
theorem setF_eq {w : World} {b : Bool} (h : w.params.followText "special-get-raises" = b) : setF w b = w := by
  have e : (fun r => if r = "special-get-raises" then b else w.params.followText r) = w.params.followText := funext fun r => by
    by_cases c : r = "special-get-raises"
    · subst c
      rw [if_pos rfl]
      exact h.symm
    · rw [if_neg c]
  unfold setF
  rw [e]
theorem run_two {r : PySem.W.OpenRow} {q : Program} {H : PySem.W.Hook} {ob : PySem.W.SharedT → H.α} {M : Nat} {loose : List Str} (h1 : ∀ w, HandSHeadRun.RunEq r q H ob M loose (setF w true)) (h2 : ∀ w, HandSHeadRun.RunEq r q H ob M loose (setF w false)) (w : World) : HandSHeadRun.RunEq r q H ob M loose w := by
  cases h : w.params.followText "special-get-raises" with
  | true => rw [← setF_eq h]; exact h1 w
  | false => rw [← setF_eq h]; exact h2 w
end KX

set_option Elab.async false
set_option maxRecDepth 100000
set_option maxHeartbeats 2000000
/-! What the written part says of an own exception class with an __init__ of its own, as one Bool. -/
namespace KX
open PySem PySem.Spec PyProof.Rows L2 He
structure ExK (K : PySem.W.Frag) (C : Addr) (bmB : List Value) (newId : String) : Prop where
  init : PySem.W.excInitIn K C bmB newId = true
  over : PySem.W.excOver K C bmB = true
  hd : PySem.W.hasDictIn K C = true
  sa : PySem.W.findIn K (.ref C) "__setattr__" = some (some (.builtin "object.__setattr__"))
  ga : PySem.W.findIn K (.ref C) "__getattribute__" = some (some (.builtin "BaseException.__getattribute__"))
  gg : PySem.W.findIn K (.ref C) "__getattr__" = some none
  exC : PySem.W.subIn K (.ref C) (.type "BaseException") = some true
  kC : PySem.W.keepIn K (.ref C) = true
  ha : PySem.W.findIn K (.ref C) "__class__" = some (some (.builtin "object.__class__"))
  hm : PySem.W.mroIn K C (.type "object") = some true
def exkB (K : PySem.W.Frag) (C : Addr) (bmB : List Value) (newId : String) : Bool :=
  PySem.W.excInitIn K C bmB newId && (PySem.W.excOver K C bmB && (PySem.W.hasDictIn K C && (eqO (PySem.W.findIn K (.ref C) "__setattr__") (some (some (.builtin "object.__setattr__")))
  && (eqO (PySem.W.findIn K (.ref C) "__getattribute__") (some (some (.builtin "BaseException.__getattribute__"))) && (eqO (PySem.W.findIn K (.ref C) "__getattr__") (some none)
  && (decide (PySem.W.subIn K (.ref C) (.type "BaseException") = some true) && (PySem.W.keepIn K (.ref C) && (eqO (PySem.W.findIn K (.ref C) "__class__") (some (some (.builtin "object.__class__"))) && decide (PySem.W.mroIn K C (.type "object") = some true)))))))))
theorem exkB_ok {K : PySem.W.Frag} {C : Addr} {bmB : List Value} {newId : String} (h : exkB K C bmB newId = true) : ExK K C bmB newId := by
  obtain ⟨h1, h⟩ := Bool.and_eq_true_iff.mp h
  obtain ⟨h2, h⟩ := Bool.and_eq_true_iff.mp h
  obtain ⟨h3, h⟩ := Bool.and_eq_true_iff.mp h
  obtain ⟨h4, h⟩ := Bool.and_eq_true_iff.mp h
  obtain ⟨h5, h⟩ := Bool.and_eq_true_iff.mp h
  obtain ⟨h6, h⟩ := Bool.and_eq_true_iff.mp h
  obtain ⟨h7, h⟩ := Bool.and_eq_true_iff.mp h
  obtain ⟨h8, h⟩ := Bool.and_eq_true_iff.mp h
  obtain ⟨h9, hA⟩ := Bool.and_eq_true_iff.mp h
  exact ⟨h1, h2, h3, eqO_ok h4, eqO_ok h5, eqO_ok h6, of_decide_eq_true h7, h8, eqO_ok h9, of_decide_eq_true hA⟩
end KX

set_option Elab.async false
set_option maxRecDepth 100000
set_option maxHeartbeats 2000000
/-! Own exception classes over any built-in base, with an __init__ that stores: made as values, read, asked by isinstance. -/
namespace KX
open PySem PySem.Spec PyProof.Rows L2
/-- what is known of the built-in base -/
def Bs (bmB : List Value) (newId : String) : Prop := ∃ B initId, ExcBaseFacts B newId initId bmB ∧ StoreFacts B bmB "object.__setattr__" "object"
theorem bsV : Bs [.type "ValueError", .type "Exception", .type "BaseException", .type "object"] "ValueError.__new__" := ⟨_, _, PySem.F.excBase_ValueError, PySem.F.store_ValueError⟩
theorem bsL : Bs [.type "LookupError", .type "Exception", .type "BaseException", .type "object"] "LookupError.__new__" := ⟨_, _, PySem.F.excBase_LookupError, PySem.F.store_LookupError⟩
section
open Builtin Builtin.ObjectAttr
variable {prog : Program} {w : World} {A : Around} {R : Result → Shared → Prop} {hp : Heap} {g : Array GenState} {dw : Drawn} {tt : Nat} {os : OsState} {K : PySem.W.Frag} {C x t1 : Addr} {bmB : List Value} {newId : String} {f : Str} {tk : Tok} {v : Value}
/-- the first store lays the dict -/
theorem put_first (T : ExK K C bmB newId) (bs : Bs bmB newId) (X : K.In hp) (hx : hp.get? x = some ({ cls := .ref C, dict := none, data := .fields #[.ref t1, .none, .none, .none, .bool false, .none] } : Obj)) (hno : PySem.W.findIn K (.ref C) f = some none)
    (hq : ∀ h' tk' dx, (∀ b o, b ≠ x → hp.get? b = some o → h'.get? b = some o) → hp.objs.size ≤ dx → dx ≠ x → h'.get? x = some ({ cls := .ref C, dict := some dx, data := .fields #[.ref t1, .none, .none, .none, .bool false, .none] } : Obj) →
      h'.Ns1 dx (fun y => if y = f then some v else none) → R (.ok (.ret .none)) ⟨h', g, dw, tk', os⟩) :
    codeAny (model prog w) A (.call (.builtin "object.__setattr__") ⟨[.ref x, .str f tk, v], []⟩) R ⟨hp, g, dw, tt, os⟩ := by
  obtain ⟨B, iid, _, SF⟩ := bs
  have hxs : x ≠ hp.objs.size := Nat.ne_of_lt (Heap.lt_size hx)
  refine PySem.W.osa_openX (s := ⟨hp, g, dw, tt, os⟩) (od := none) (r := none) SF X ⟨hx, rfl, rfl, trivial⟩ T.over (by unfold PySem.W.takerIn; rw [hno] <;> rfl) fun b => ?_
  obtain ⟨cd, hc, hd⟩ := PySem.W.any_some T.hd
  have hcls : PySem.W.Looks (model prog w) hp (classData C) cd := PySem.W.looks_clsIn X hc
  refine wpAny_bind (wpAny_pure (wpAny_bind (PySem.W.instanceDict_exc (s := ⟨hp, g, dw, tt, os⟩) hx hcls hd ?_)))
  refine HandSPX.store_in_new ?_ ?_
  · exact ⟨_, #[], _, (Heap.get?_update_ne _ _ _ _ hxs.symm).trans (Heap.get?_push_at rfl rfl), rfl, fun e he => absurd he (by simp), fun _ => rfl⟩
  · intro h' tk' hn' hs
    have hx1 : (hp.push { cls := .type "dict", data := .dict #[] }).get? x = _ := Heap.get?_push_of_some _ hx
    refine hq h' tk' hp.objs.size (fun b o hb ho => ?_) (Nat.le_refl _) hxs.symm ?_ hn'
    · have z := hs.2 b (Nat.ne_of_lt (Heap.lt_size ho))
      exact z.trans ((Heap.get?_update_ne _ _ _ _ hb).trans (Heap.get?_push_of_some _ ho))
    · exact (hs.2 x hxs).trans (Heap.get?_update_self _ hx1 rfl)
/-- a later one -/
theorem put_more {dx : Addr} {m0 : Str → Option Value} {nl : List Str} (T : ExK K C bmB newId) (bs : Bs bmB newId) (X : K.In hp) (hx : hp.get? x = some ({ cls := .ref C, dict := some dx, data := .fields #[.ref t1, .none, .none, .none, .bool false, .none] } : Obj))
    (hns : hp.Ns1 dx m0) (hw : Within m0 nl) (hz : nl.length ≤ 1000) (hno : PySem.W.findIn K (.ref C) f = some none)
    (hq : ∀ h' tk', (∀ b o, b ≠ dx → hp.get? b = some o → h'.get? b = some o) → h'.Ns1 dx (fun y => if y = f then some v else m0 y) → R (.ok (.ret .none)) ⟨h', g, dw, tk', os⟩) :
    codeAny (model prog w) A (.call (.builtin "object.__setattr__") ⟨[.ref x, .str f tk, v], []⟩) R ⟨hp, g, dw, tt, os⟩ := by
  obtain ⟨B, iid, _, SF⟩ := bs
  obtain ⟨oD, esD, epD, hoD, hdD, _⟩ := hns.count hw
  refine PySem.W.osa_openX (s := ⟨hp, g, dw, tt, os⟩) (od := some oD) (r := none) SF X ⟨hx, rfl, rfl, hoD⟩ T.over (by unfold PySem.W.takerIn; rw [hno] <;> rfl) fun b => ?_
  obtain ⟨cd, hc, hd⟩ := PySem.W.any_some T.hd
  have hcls : PySem.W.Looks (model prog w) hp (classData C) cd := PySem.W.looks_clsIn X hc
  obtain ⟨c1, c2, c3, c4, c5, c6, c7, c8, c9, cA, cB⟩ := cd
  dsimp only at hd
  subst hd
  show wpAny _ _ (storeInOwnDict _ _ _ _ _ _) _ _ _
  unfold storeInOwnDict ownDictForStores
  repeat (first | with_reducible refine PySem.OEX.store_in_old hns hw hz ?_ | with_reducible refine wpAny_loadPart_at hx ?_ | with_reducible refine hcls.at ?_ | wp_step)
  intro h' tk' hn' hs
  exact hq h' tk' (fun b o hb ho => (hs.2 b hb).trans ho) hn'
end
section
variable {X : Cx} {pins : List (Addr × Obj)} {σ : L2.St} {H : Hp} {s : Shared} {a C dx : Addr} {f : Str} {y : V} {u : Value} {fs : List (Str × V)} {Q : Unit → Shared → Prop} {E : Value → Shared → Prop} {A : Around} {bmB : List Value} {newId : String}
/-- an exception's object gets a dict that is new -/
theorem inv_dict {h' : Heap} {tk : Nat} {t1 : Addr} {od : HO} (I : Inv X pins σ H s) (e : H a = some (exo a C none)) (k : ∀ b o, b ≠ a → s.heap.get? b = some o → h'.get? b = some o) (dn : s.heap.objs.size ≤ dx) (dne : dx ≠ a)
    (hx : h'.get? a = some ({ cls := .ref C, dict := some dx, data := .fields #[.ref t1, .none, .none, .none, .bool false, .none] } : Obj)) (new : ∀ G : Hp, ObjOk X.prog X.w G h' dx od) :
    Inv X pins σ (upd (upd H dx od) a (exo a C (some dx))) { s with heap := h', toks := tk } := by
  have hnd : H dx = none := I.hok.fresh dn
  have hH : ∀ b, b ≠ a → b ≠ dx → upd (upd H dx od) a (exo a C (some dx)) b = H b := fun b n1 n2 => (upd_ne n1).trans (upd_ne n2)
  have na : ∀ b, H b = none → b ≠ a := fun b n z => by
    subst z
    exact nomatch n.symm.trans e
  have nd : ∀ b o, s.heap.get? b = some o → b ≠ dx := fun b o q => Nat.ne_of_lt (Nat.lt_of_lt_of_le (Heap.lt_size q) dn)
  have nk : ∀ b o, H b = some o → o ≠ exo a C none → upd (upd H dx od) a (exo a C (some dx)) b = some o := fun b o q n => by
    rw [hH b (ne_of q e n) (ne_of_none q hnd)]
    exact q
  refine I.un ⟨fun b o q n _ _ => k b o (na b n) q, fun b o q n _ _ => ⟨o.slots, k b o (na b n) q⟩, fun b o q n _ => ?_, fun b o q _ => ?_, fun b xs q => nk b _ q (Ne.symm exo_tup), fun b o v q => nk b _ q (Ne.symm exo_frz), fun b ps q => ⟨#[], ?_⟩⟩ fun b o q => ?_
  · rw [hH b (na b n) (nd b o q)]
    exact n
  · by_cases hb : b = a
    · subst hb
      exact ⟨_, hx⟩
    · exact ⟨o, k b o hb q⟩
  · rw [nk b _ q (Ne.symm exo_tbl)]
    simp
  · by_cases hb : b = a
    · subst hb
      obtain rfl := Option.some.inj (upd_same.symm.trans q)
      exact exo_ok hx
    · rw [upd_ne hb] at q
      by_cases hd : b = dx
      · subst hd
        obtain rfl := Option.some.inj (upd_same.symm.trans q)
        exact new _
      · rw [upd_ne hd] at q
        refine (I.hok b o q).stay (fun c v hc z => k c v ?_ z) (fun c hc => nk c _ hc (Ne.symm exo_own)) fun c xs hc => nk c _ hc (Ne.symm exo_tup)
        rcases hc with rfl | hc
        · exact hb
        · exact ne_of hc e (Ne.symm exo_own)
/-- self.f = y, the first one -/
theorem st_first (T : ExK X.K C bmB newId) (bs : Bs bmB newId) (I : Inv X pins σ H s) (e : H a = some (exo a C none)) (hno : PySem.W.findIn X.K (.ref C) f = some none) (ry : RelV y u)
    (h : ∀ d s', H d = none → d ≠ a → Inv X pins σ (upd (upd H d (exd d [(f, y)])) a (exo a C (some d))) s' → Q () s') : wpAny (model X.prog X.w) A (setAttr (.ref a) f u) Q E s := by
  obtain ⟨t1, ho⟩ := exo_at I.hok e
  obtain ⟨hp, g, d, t, os⟩ := s
  refine PySem.W.set_plain (od := none) I.kIn ⟨ho, rfl, rfl, trivial⟩ T.sa ?_
  refine put_first T bs I.kIn ho hno fun h' tk' dx k dn dne hx hn => ?_
  exact h dx _ (I.hok.fresh dn) dne (inv_dict I e k dn dne hx fun G => exd_ok hn (relO_put (fs := []) ry fun _ => True.intro))
/-- self.f = y, a further one -/
theorem st_more (T : ExK X.K C bmB newId) (bs : Bs bmB newId) (I : Inv X pins σ H s) (e : H a = some (exo a C (some dx))) (ed : H dx = some (exd dx fs)) (hl : fs.length ≤ 900) (hno : PySem.W.findIn X.K (.ref C) f = some none) (ry : RelV y u)
    (h : ∀ s', Inv X pins σ (upd H dx (exd dx ((f, y) :: fs))) s' → Q () s') : wpAny (model X.prog X.w) A (setAttr (.ref a) f u) Q E s := by
  obtain ⟨t1, ho⟩ := exo_at I.hok e
  obtain ⟨mA, hns, rel⟩ := exd_at I.hok ed
  have hw := within_of rel
  obtain ⟨hp, g, d, t, os⟩ := s
  obtain ⟨oD, _, _, hoD, _⟩ := hns.count hw
  refine PySem.W.set_plain (od := some oD) I.kIn ⟨ho, rfl, rfl, hoD⟩ T.sa ?_
  refine put_more T bs I.kIn ho hns hw (by rw [List.length_map]; omega) hno fun h' tk' k hn => ?_
  have hd : ∃ o, h'.get? dx = some o := let ⟨o, _, _, z, _⟩ := hn; ⟨o, z⟩
  exact h _ (I.write (t' := tk') (e := dx) (by rw [ed]; exact True.intro) (.inl rfl) k hd (exd_ok hn (relO_put ry rel)))
end
/-- self.f = e -/
def tSt (K : PySem.W.Frag) (f : Str) (to te : TE) : TS := fun D σ H => te σ H fun y H1 => to σ H1 fun x H2 => ∃ (a C : Addr) (bmB : List Value) (newId : String), x = .ref a ∧ ExK K C bmB newId ∧ Bs bmB newId ∧ PySem.W.findIn K (.ref C) f = some none ∧
  ((H2 a = some (exo a C none) ∧ ∀ d, H2 d = none → d ≠ a → D.nx σ (upd (upd H2 d (exd d [(f, y)])) a (exo a C (some d)))) ∨
    ∃ (d : Addr) (fs : List (Str × V)), H2 a = some (exo a C (some d)) ∧ H2 d = some (exd d fs) ∧ fs.length ≤ 900 ∧ D.nx σ (upd H2 d (exd d ((f, y) :: fs))))
/-- C(e, ..) as a value -/
def tMkV (C : Addr) (sp : Sp) (ta : TA) : TE := fun σ H Q => ta σ H fun vs H1 => vs.length ≤ 1000 ∧ ∀ a, H1 a = none → sp (.ref a :: vs) (upd H1 a (exo a C none)) (fun v H2 => v = .non ∧ Q (.ref a) H2) (fun _ _ _ => False)
/-- e.f of an own exception -/
def tXv (K : PySem.W.Frag) (f : Str) (te : TE) : TE := fun σ H Q => te σ H fun x H1 => ∃ (a C d : Addr) (bmB : List Value) (newId : String) (fs : List (Str × V)) (v : V), x = .ref a ∧ H1 a = some (exo a C (some d)) ∧ H1 d = some (exd d fs) ∧ ExK K C bmB newId ∧ PySem.W.findIn K (.ref C) f = some none ∧ fs.lookup f = some v ∧ Q v H1
section
variable {X : Cx} {o e : Expr} {es : List Expr} {to te : TE} {ta : TA} {f : Str} {p p' p1 p2 pos : Pos}
theorem ps_st (ho : PE X o to) (he : PE X e te) (hs : swapsWith e (some (.Attribute o f p')) pos.line X.env = pure false := by rfl) : PS X (.Assign [.Attribute o f p'] e pos) (tSt X.K f to te) := by
  refine ⟨fun pins s σ H D I h => plainObj_wpAny_Assign_Attribute (thn (he.run pins s σ H _ I h) fun v s1 ⟨y, H1, I1, r1, q1⟩ => thn (ho.run pins s1 σ H1 _ I1 q1) fun u s2 hh => ?_) hs⟩
  obtain ⟨x, H2, I2, r2, a, C, bmB, nid, rfl, T, bs, hno, q⟩ := hh
  obtain rfl : u = Value.ref a := r2
  rcases q with ⟨ea, q⟩ | ⟨d, fs, ea, ed, hl, q⟩
  · exact st_first T bs I2 ea hno r1 fun d s' n ne J => ⟨σ, _, J, q d n ne⟩
  · exact st_more T bs I2 ea ed hl hno r1 fun s' J => ⟨σ, _, J, q⟩
theorem pe_mkv {CX : CXT} {x : Str} {C fI : Addr} {k : Nat} {fd : FuncData} {ps : List Str} {sp : Sp} {bmB : List Value} {newId : String} (T : ExK X.K C bmB newId) (bs : Bs bmB newId) (iC : PySem.W.findIn X.K (.ref C) "__init__" = some (some (.ref fI))) (tI : PySem.W.isFn X.K (.ref fI) = true)
    (G : FnOk X.prog X.w X.K X.mg X.base CX k fI fd ps sp) (hr : Room (k + 1) X.A) (hb : Binds X.K fd ps []) (hx : Passes CX X (fun _ _ _ => False)) (hg : Gl X x) (hm : X.mg x = some (.ref C)) (ha : PA X (e :: es) ta)
    (hdb : (x == ("__debug__" : Str)) = false := by decide) (he : starEach (e :: es) X.env = (false, eval e X.env) :: starEach es X.env := by rfl) (hpl : (backTo pos (starEach es X.env)).any (·.1) = false := by rfl) :
    PE X (.Call (.Name x p) (e :: es) [] pos) (tMkV C sp ta) := by
  refine ⟨fun pins s σ H Q I h => ?_⟩
  refine wpAny_Call_Name_kw (ld_glob I hg hm ?_ hdb)
  refine PySem.W.callWith_K (h₀ := X.base) I.ok.mod.kin T.kC (thn (ha.run pos pins s σ H _ I h) fun us s1 hh => ?_) he hpl
  obtain ⟨vs, H1, I1, r1, hz, q1⟩ := hh
  refine ⟨I1.kIn, ?_⟩
  obtain ⟨B, iid, FB, SF⟩ := bs
  obtain ⟨nm, N', qn, bs', bm, hdct, sn, sub, ab, col, dd, k0, k1, k2, k3, k5, hC, hT⟩ := PySem.W.excInit_of I1.kIn T.init
  obtain ⟨oI, hoI, hcI⟩ : ∃ oI, s1.heap.get? fI = some oI ∧ oI.cls = .type "function" := by
    obtain ⟨oo, h1, h2⟩ := Option.map_eq_some_iff.mp (show (X.K.lookup fI).map (·.cls) = some (.type "function") from beq_iff_eq.mp tI)
    exact ⟨oo, I1.kIn _ _ h1, h2⟩
  obtain ⟨hp, g, dr, tk, os⟩ := s1
  have kk : ∀ b u, hp.get? b = some u → ((hp.push (PySem.W.kdv_tup us)).push (PySem.HandSPX.excO C hp.objs.size)).get? b = some u := fun b u z => Heap.get?_push_of_some _ (Heap.get?_push_of_some _ z)
  have hget : ((hp.push (PySem.W.kdv_tup us)).push (PySem.HandSPX.excO C hp.objs.size)).get? (hp.objs.size + 1) = some (PySem.HandSPX.excO C hp.objs.size) := by heap_get
  have I2 : Inv X pins σ (upd H1 (hp.objs.size + 1) (exo (hp.objs.size + 1) C none)) ⟨(hp.push (PySem.W.kdv_tup us)).push (PySem.HandSPX.excO C hp.objs.size), g, dr, tk, os⟩ := I1.laid (t' := tk) kk (Nat.le_succ _) (exo_ok hget)
  have hq := q1 (hp.objs.size + 1) (I1.hok.fresh (Nat.le_succ _))
  have r2 : Vals (V.ref (hp.objs.size + 1) :: vs) (Value.ref (hp.objs.size + 1) :: us) := .cons rfl r1
  have hl : (Value.ref (hp.objs.size + 1) :: us ++ []).length = ps.length := by
    rw [List.append_nil, ← r2.length]
    exact G.len _ _ _ _ hq
  have hus : us.length ≤ sizeLine := by
    rw [← Paired.length r1, sizeLine_eq]
    omega
  have hbi := hb _ (Value.ref (hp.objs.size + 1) :: us) I2.kIn hl
  rw [List.append_nil] at hbi
  refine wpAny_call (PySem.HandSPX.call_own FB hT hC (PySem.W.looks_findIn I1.kIn iC) (fun self => PySem.W.exc_bind hoI hcI self) hus (codeAny_mono (G.run _ X.stack _ _ _ _ _ _ (fun _ _ _ => False) (hr.make C us []) (I2.env0.make C us []) hbi r2 hq) fun r s' hq' => ?_))
  cases r with
  | error er => exact hx pins σ _ _ er s' I2 hq'
  | ok fl =>
    cases fl with
    | ret u =>
      obtain ⟨v, H2, os2, bare2, un2, hok2, rv, rfl, q2⟩ := hq'
      exact ⟨rv, .ref (hp.objs.size + 1), H2, I2.call' (ch := []) os2 un2 hok2 bare2 (fun b z => absurd z (by simp)), rfl, q2⟩
    | next => exact False.elim hq'
    | brk => exact False.elim hq'
    | cont => exact False.elim hq'
theorem pe_xv (he : PE X e te) (hb : attributeBase e f X.env (eval e X.env) = eval e X.env := by rfl) : PE X (.Attribute e f pos) (tXv X.K f te) := by
  refine ⟨fun pins s σ H Q I h => attr_of hb (thn (he.run pins s σ H _ I h) fun u s1 hh => ?_)⟩
  obtain ⟨x, H1, I1, rx, a, C, d, bmB, nid, fs, v, rfl, ea, ed, T, hno, l, q⟩ := hh
  obtain rfl : u = Value.ref a := rx
  obtain ⟨t1, ho⟩ := exo_at I1.hok ea
  obtain ⟨mA, hns, rel⟩ := exd_at I1.hok ed
  obtain ⟨od, h1, h2⟩ := lookIn_ns hns
  obtain ⟨u, hu, ru⟩ := RelO.some_of (v := v) (o := mA f) (by rw [← l]; exact rel f)
  exact HandSPX.exc_get I1.kIn ⟨ho, rfl, rfl, h1⟩ T.ga T.gg T.exC (PySem.W.findObj_own T.hd hno rfl (by rw [h2, hu])) (handed_of ru) ⟨v, H1, I1.tok _, ru, q⟩
end
end KX

set_option Elab.async false
set_option maxRecDepth 100000
set_option maxHeartbeats 2000000
/-! repr of nested data where no repr is running yet; isinstance of an own exception; defs that want to know that no repr is running. -/
namespace KX
open PySem PySem.Spec PyProof.Rows L2
/-- repr(data) -/
def rRepr (K : PySem.W.Frag) : List V → Hp → VK → Prop := fun xs H Q => ∃ (a : Addr) (d : PyData), xs = [.ref a] ∧ Dp K H (.ref a) d ∧ d.showable = true ∧ d.hasDict = false ∧ d.depth ≤ 8 ∧ d.shown.length ≤ sizeLine ∧ Q (.str d.shown) H
theorem call_repr {X : Cx} (hg : X.A.guards = some []) (hu : X.A.units + 10 < cLine) : CallR X (.builtin "repr") (rRepr X.K) := by
  intro pins s σ H xs us Q I r h
  obtain ⟨a, d, rfl, hd, h1, h2, h3, h4, q⟩ := h
  obtain ⟨u, rfl, ru⟩ := vals1 r
  obtain rfl : u = Value.ref a := ru
  obtain ⟨as, rd⟩ := Dp.reads I d _ _ hd rfl
  exact repr_of_reads' rd h1 (PyData.noDict_hsm h2) hg (by omega) (fun _ _ e => e) (fun h' u tk hk => ⟨.str d.shown, H, I.kept (t' := tk) hk, ⟨_, rfl⟩, q⟩) h4
/-- isinstance(e, c) of an own exception e -/
def rIsX (K : PySem.W.Frag) : List V → Hp → VK → Prop := fun xs H Q => ∃ (a C d : Addr) (bmB : List Value) (nid : String) (fs : List (Str × V)) (c : V) (cv : Value) (b : Bool), xs = [.ref a, c] ∧ H a = some (exo a C (some d)) ∧ H d = some (exd d fs) ∧ ExK K C bmB nid ∧
  PySem.W.specialIn K (.builtin "object.__class__") "__get__" = some (some (.builtin "getset_descriptor.__get__")) ∧ PySem.W.takesIn K (.builtin "object.__class__") = some true ∧ (∀ u, RelV c u → u = cv) ∧ PySem.W.kitOne K (.ref C) cv = some b ∧ Q (.bl b) H
theorem call_isX {X : Cx} : CallR X (.builtin "isinstance") (rIsX X.K) := by
  intro pins s σ H xs us Q I r h
  obtain ⟨a, C, d, bmB, nid, fs, c, cv, b, rfl, ea, ed, T, sp, tk, hcv, e, q⟩ := h
  cases r with
  | cons rx rr => cases rr with
    | cons rt rr =>
      cases rr
      cases rx
      obtain rfl := hcv _ rt
      obtain ⟨t1, ho⟩ := exo_at I.hok ea
      obtain ⟨mA, hns, rel⟩ := exd_at I.hok ed
      obtain ⟨od, h1, _⟩ := lookIn_ns hns
      obtain ⟨cd, hc, _⟩ := PySem.W.any_some T.hd
      exact PySem.W.kia_one (PySem.W.kitx_exc (od := some od) (by rw [hc] <;> rfl) T.ga T.gg T.exC T.ha sp tk T.hm) I.kIn ⟨ho, rfl, rfl, h1⟩ e (fun z => nomatch z) fun tk' => ⟨.bl b, H, I.kept (t' := tk') fun _ _ z => z, rfl, q⟩
end KX

set_option Elab.async false
set_option maxRecDepth 100000
set_option maxHeartbeats 2000000
/-! Own exceptions raised with what they keep, caught with the context None; isinstance of a caught one that has a dict; defs called in the suite; C() of a class with *rest. -/
namespace KX
open PySem PySem.Spec PyProof.Rows L2 StX
theorem mk_endN {X : Cx} {pins : List (Addr × Obj)} {σ : L2.St} {H1 H2 : Hp} {Q : XK} {hp hp2 h2 : Heap} {g1 g2 : Array GenState} {d1 d2 : Drawn} {t1 t2 : Nat} {os1 os2 : OsState} {a C d : Addr} {fs : List (Str × V)} (T : Raises X (.ref C)) (I1 : Inv X pins σ H1 ⟨hp, g1, d1, t1, os1⟩)
    (ha : hp.objs.size ≤ a) (k : ∀ b o, hp.get? b = some o → hp2.get? b = some o) (un : Un (frs X.stack) [] (upd H1 a (exo a C none)) H2 hp2 h2) (hok : HOk X.prog X.w H2 h2) (ho : os2 = os1) (hb : AllBare g2)
    (ea : H2 a = some (exo a C (some d))) (ed : H2 d = some (exd d fs)) (hd1 : H1 d = none) (q : Q (.ref C) (some d) (upd (del H2 a) d (.xd fs))) : L2N.MkP X pins σ Q (.ref a) ⟨h2, g2, d2, t2, os2⟩ := by
  obtain ⟨t0, G, J, kG, ge, hoe, na⟩ := mk_end0 (d2 := d2) (t2 := t2) I1 ha k un hok ho hb ea ed hd1
  exact ⟨a, _, _, ⟨G, g2, d2, t2, os2⟩, _, .ref C, some d, rfl, J, kG, ge, hoe, ⟨rfl, rfl, fun vs e => by cases e; rfl⟩, rfl, rfl, na, rfl, hb, T, q⟩
section
variable {X : Cx} {CX : CXT} {x : Str} {C fI : Addr} {k : Nat} {fd : FuncData} {ps : List Str} {sp : Sp} {e : Expr} {es : List Expr} {ta : TA} {p pos : Pos}
theorem pmk_x {bmB : List Value} {newId : String} (T : ExK X.K C bmB newId) (tyC : PySem.W.typeIn X.K (.ref C) = some (.type "type")) (bs : Bs bmB newId) (iC : PySem.W.findIn X.K (.ref C) "__init__" = some (some (.ref fI))) (tI : PySem.W.isFn X.K (.ref fI) = true)
    (G : FnOk X.prog X.w X.K X.mg X.base CX k fI fd ps sp) (hr : Room (k + 1) X.A) (hb : Binds X.K fd ps []) (hx : Passes CX X (fun _ _ _ => False)) (hg : Gl X x) (hm : X.mg x = some (.ref C)) (ha : PA X (e :: es) ta)
    (hdb : (x == ("__debug__" : Str)) = false := by decide) (he : starEach (e :: es) X.env = (false, eval e X.env) :: starEach es X.env := by rfl) (hpl : (backTo pos (starEach es X.env)).any (·.1) = false := by rfl) :
    L2N.PMk X (.Call (.Name x p) (e :: es) [] pos) (tMkO C sp [] ta) := by
  intro pins s σ H Q I h
  refine wpAny_Call_Name_kw (ld_glob I hg hm ?_ hdb)
  refine PySem.W.callWith_K (h₀ := X.base) I.ok.mod.kin T.kC (thn (ha.run pos pins s σ H _ I h) fun us s1 hh => ?_) he hpl
  obtain ⟨vs, H1, I1, r1, hz, q1⟩ := hh
  refine ⟨I1.kIn, ?_⟩
  obtain ⟨B, iid, FB, SF⟩ := bs
  obtain ⟨nm, N', qn, bs', bm, hdct, sn, sub, ab, col, dd, k0, k1, k2, k3, k5, hC, hT⟩ := PySem.W.excInit_of I1.kIn T.init
  obtain ⟨oI, hoI, hcI⟩ : ∃ oI, s1.heap.get? fI = some oI ∧ oI.cls = .type "function" := by
    obtain ⟨oo, h1, h2⟩ := Option.map_eq_some_iff.mp (show (X.K.lookup fI).map (·.cls) = some (.type "function") from beq_iff_eq.mp tI)
    exact ⟨oo, I1.kIn _ _ h1, h2⟩
  obtain ⟨hp, g, dr, tk, os⟩ := s1
  have kk : ∀ b u, hp.get? b = some u → ((hp.push (PySem.W.kdv_tup us)).push (PySem.HandSPX.excO C hp.objs.size)).get? b = some u := fun b u z => Heap.get?_push_of_some _ (Heap.get?_push_of_some _ z)
  have hget : ((hp.push (PySem.W.kdv_tup us)).push (PySem.HandSPX.excO C hp.objs.size)).get? (hp.objs.size + 1) = some (PySem.HandSPX.excO C hp.objs.size) := by heap_get
  have I2 : Inv X pins σ (upd H1 (hp.objs.size + 1) (exo (hp.objs.size + 1) C none)) ⟨(hp.push (PySem.W.kdv_tup us)).push (PySem.HandSPX.excO C hp.objs.size), g, dr, tk, os⟩ := I1.laid (t' := tk) kk (Nat.le_succ _) (exo_ok hget)
  have hq := q1 (hp.objs.size + 1) (I1.hok.fresh (Nat.le_succ _))
  rw [List.append_nil] at hq
  have r2 : Vals (V.ref (hp.objs.size + 1) :: vs) (Value.ref (hp.objs.size + 1) :: us) := .cons rfl r1
  have hl : (Value.ref (hp.objs.size + 1) :: us ++ []).length = ps.length := by
    rw [List.append_nil, ← r2.length]
    exact G.len _ _ _ _ hq
  have hus : us.length ≤ sizeLine := by
    rw [← Paired.length r1, sizeLine_eq]
    omega
  have hbi := hb _ (Value.ref (hp.objs.size + 1) :: us) I2.kIn hl
  rw [List.append_nil] at hbi
  refine wpAny_call (PySem.HandSPX.call_own FB hT hC (PySem.W.looks_findIn I1.kIn iC) (fun self => PySem.W.exc_bind hoI hcI self) hus (codeAny_mono (G.run _ X.stack _ _ _ _ _ _ (fun _ _ _ => False) (hr.make C us []) (I2.env0.make C us []) hbi r2 hq) fun r s' hq' => ?_))
  cases r with
  | error er => exact hx pins σ _ _ er s' I2 hq'
  | ok fl =>
    cases fl with
    | ret u =>
      obtain ⟨v, H2, os2, bare2, un2, hok2, rv, ev, d, fs, ea, ed, hd1, q2⟩ := hq'
      subst ev
      obtain ⟨h2, g2, d2, t2, os'⟩ := s'
      exact ⟨rv, mk_endN (raises_own T.exC tyC) I1 (Nat.le_succ _) kk un2 hok2 os2 bare2 ea ed hd1 q2⟩
    | next => exact False.elim hq'
    | brk => exact False.elim hq'
    | cont => exact False.elim hq'
end
/-- isinstance(e, c), e the exception that the suite holds -/
theorem call_isEd {X : Cx} {a D d : Addr} {oe : Obj} {pn : List (Addr × Obj)} {bmB : List Value} {nid : String} (T : ExK X.K D bmB nid) (sp : PySem.W.specialIn X.K (.builtin "object.__class__") "__get__" = some (some (.builtin "getset_descriptor.__get__"))) (tk : PySem.W.takesIn X.K (.builtin "object.__class__") = some true)
    (hz : Zc (.ref D) (some d) oe) (hf : ∃ vs, oe.data = .fields vs) : CallR (X.suite a ((a, oe) :: pn)) (.builtin "isinstance") (fun xs H Q => (∃ fs, H d = some (.xd fs)) ∧ rIsE X.K D a xs H Q) := by
  intro pins s σ H xs us Q I r h
  obtain ⟨⟨fs, hd⟩, c, cv, b, rfl, hcv, e, q⟩ := h
  cases r with
  | cons rx rr =>
    cases rr with
    | cons rt rr =>
      cases rr
      cases rx
      have ec := hcv _ rt
      subst ec
      obtain ⟨hget, _⟩ := I.pin (a, oe) (List.mem_append.mpr (.inl List.mem_cons_self))
      obtain ⟨vs, hv⟩ := hf
      have hx : ObjOk X.prog X.w H s.heap d (.xd fs) := I.hok d _ hd
      obtain ⟨mA, hns, rel⟩ := hx
      obtain ⟨od, ho, _⟩ := lookIn_ns hns
      obtain ⟨cd, hc, _⟩ := PySem.W.any_some T.hd
      have J : PySem.W.InstAt s.heap a oe D (some od) := ⟨hget, hz.1, by unfold PySem.W.notCls; rw [hv] <;> rfl, by rw [hz.2]; exact ho⟩
      exact PySem.W.kia_one (PySem.W.kitx_exc (od := some od) (by rw [hc] <;> rfl) T.ga T.gg T.exC T.ha sp tk T.hm) I.kIn J e (fun z => nomatch z) fun tk' => ⟨.bl b, H, I.kept (t' := tk') fun _ _ z => z, rfl, q⟩
theorem cxUpN {P : Program} {w : World} : CXUp (L2N.CX P w) := by
  rintro outer s H s2 H2 E e s' un kp ho ⟨a, B, H', cls, d, ea, fl, hok, ub, na, os, ag, he⟩
  refine ⟨a, B, H', cls, d, ea, fl, hok, ⟨fun b o q n hb => ub.keep b o (kp b o q) (un.free b o q n (by simp)) hb, fun b o q hb => ub.slot b o (kp b o q) hb, fun b o q n => ub.free b o (kp b o q) (un.free b o q n (by simp)),
    fun b o q hb => ub.there b o (kp b o q) hb, fun b xs q => ub.tups b xs (un.tups b xs q), fun b o xs q => ub.frzs b o xs (un.frzs b o xs q), fun b ps q => ?_⟩, na, os.trans ho, ag, he⟩
  obtain ⟨m1, e1⟩ := un.tbls b ps q
  obtain ⟨m2, e2⟩ := ub.tbls b _ e1
  exact ⟨m1 ++ m2, by rw [e2, Array.append_assoc]⟩
theorem fnH_ok {P : Program} {w : World} {K : PySem.W.Frag} {mg : Str → Option Value} {base : Heap} {f : Addr} {x qual : Str} {params : Arguments} {body : List Stmt} {scope : Scope} {dvs : List V} {kws : List (Str × V)} {fd : FuncData} {CX : CXT} {N ps : List Str} {k : Nat} {sp : Sp}
    (F : FunD K x qual params body scope dvs kws f fd) (S : FnScope N ps scope) (len : ∀ vs H Q E, sp vs H Q E → vs.length = ps.length)
    (hbody : ∀ (cdv : Value) (A : Around) (outer : List Env) (s : Shared) (H : Hp) (vs : List V) (Q : VK) (E : XK) (p : Addr × Obj), L2H.Hot1 A p → L2H.RoomH k (A.deeper (envOfC qual scope s.heap.objs.size f cdv)) → sp vs H Q E →
      ∃ t, PSs (L2H.cxH CX P w K mg base N qual scope f cdv A outer s H E p) body t ∧ t { nx := fun _ H' => Q .non H', rt := Q } (start N vs) H) : L2H.FnH P w K mg base CX (k + 1) f fd ps sp := by
  obtain ⟨oc, od, dV, kV, doc, pm, an, cdv, ct, osl, rfl, lk, hcd, _, _⟩ := F.ex
  exact L2H.fn_ofH lk hcd S len fun A outer s H vs Q E p hot hr hsp => hbody cdv A outer s H vs Q E p hot hr hsp
theorem pe_makeR0 {X : Cx} {CX : CXT} {k : Nat} {f C : Addr} {sp : Sp} {E : XK} {x : Str} {p pos : Pos} (M : Mk X.K C f) (F : FnR X.prog X.w X.K X.mg X.base CX k f sp) (hr : Room (k + 1) X.A) (hg : Gl X x) (hm : X.mg x = some (.ref C)) (hx : Passes CX X E)
    (hdb : (x == ("__debug__" : Str)) = false := by decide) : PE X (.Call (.Name x p) [] [] pos) (tMakeR C sp E tNil) := by
  refine ⟨fun pins s σ H Q I h => ?_⟩
  refine wpAny_Call_Name_kw (ld_glob I hg hm ?_ hdb)
  exact PySem.W.callWith_K0 I.kIn M.kp (run_makeR (us := []) M F hr hx I .nil h)
end KX

set_option Elab.async false
set_option maxRecDepth 100000
set_option maxHeartbeats 2000000
/-! for i, x in enumerate(t), t a tuple. -/
namespace KX
open PySem PySem.Spec PyProof.Rows L2
open Sem (wp)
open AutoSeq1 (wpAny_loadPart')
/-- enumerate's maker, told of whatever begins to be walked -/
theorem enum_new1 {v : Value} {o : Obj} {G : Heap → Prop} (B : Begins v o G) :
    Meets (Builtin.«enumerate.__new__» ⟨[.type "enumerate", v], []⟩) (fun _ R s => G s.heap ∧ R (.ok (.ret (.ref (s.heap.push o).objs.size)))
        { s with heap := (s.heap.push o).push { cls := .type "enumerate", data := .fields #[.none, .bool false, .ref s.heap.objs.size, rawInt 0, .none, .none] } }) :=
  .of_wp fun prog w A R s hh => by
    obtain ⟨hp, g, d, tk, os⟩ := s
    have hsub := sub_enumerate
    have it : ∀ {A' : Around} {E Q : Value → Shared → Prop}, Q (.ref hp.objs.size) ⟨hp.push o, g, d, tk, os⟩ → wpAny (model prog w) A' (pyIter v) Q E ⟨hp, g, d, tk, os⟩ := fun q => B.iter _ _ _ _ ⟨hp, g, d, tk, os⟩ _ hh.1 q
    wp_walk using it
    refine wpAny_stack_any fun _ => wpAny_pure ?_
    split
    case h_1 c _ _ _ _ _ => cases (c == Value.type "enumerate") <;> (wp_walk using it; exact ⟨_, rfl, hh.2⟩)
    all_goals (wp_walk using it; exact ⟨_, rfl, hh.2⟩)
section
variable {prog : Program} {w : World} {A : Around} {E : Value → Shared → Prop} {s : Shared}
theorem enum_tup {t : Addr} {its : Array Value} {Q : Value → Shared → Prop} (ht : s.heap.IsTuple t its)
    (q : ∀ h', IsEnum h' (s.heap.objs.size + 1) s.heap.objs.size 0 .none → h'.IsTupleIter s.heap.objs.size t 0 → (∀ b u, s.heap.get? b = some u → h'.get? b = some u) → Q (.ref (s.heap.objs.size + 1)) { s with heap := h' }) :
    wpAny (model prog w) A (call (.type "enumerate") [.ref t]) Q E s := by
  refine callType_new F.called_enumerate (by decide) (F.typeCall_enumerate_1 _) (F.newCall_enumerate_1 _) (fun obj => F.args_object_init_2 obj _) F.entry_enumerate_new (enum_new1 (begins_tuple t its)) ⟨ht, ?_⟩
  generalize ho : ({ cls := .type "tuple_iterator", data := .fields #[.ref t, .int 0 0] } : Obj) = o
  have hf : o.isFreed = false := by rw [← ho]; rfl
  have hz : (s.heap.push o).objs.size = s.heap.objs.size + 1 := Heap.size_push ..
  show _ ∧ _
  rw [hz]
  have e1 : ((s.heap.push o).push { cls := .type "enumerate", data := .fields #[.none, .bool false, .ref s.heap.objs.size, rawInt 0, .none, .none] }).get? (s.heap.objs.size + 1) = some { cls := .type "enumerate", data := .fields #[.none, .bool false, .ref s.heap.objs.size, rawInt 0, .none, .none] } := by
    rw [← hz]
    exact Heap.get?_push_size _ rfl
  have e2 := Heap.get?_push_of_some ({ cls := .type "enumerate", data := .fields #[.none, .bool false, .ref s.heap.objs.size, rawInt 0, .none, .none] }) (Heap.get?_push_size s.heap hf)
  exact ⟨⟨_, e1, rfl⟩, q _ e1 ⟨o, e2, by rw [← ho], by rw [← ho]; rfl⟩ fun b u z => Heap.get?_push_of_some _ (Heap.get?_push_of_some _ z)⟩
end
/-- the tuple at a as it stands at each turn, each item in a new pair -/
def ItE (K : PySem.W.Frag) (a : Addr) : It where
  go := fun i H => ∃ (xs : List V) (x : V), SqT K H a xs ∧ xs[i]? = some x
  yld := fun i H v H' => ∃ T x, v = .ref T ∧ H T = none ∧ H' = upd H T (.tup [.int (i : Nat), x]) ∧ ∀ xs, SqT K H a xs → xs[i]? = some x
  stop := fun i H => ∃ xs : List V, SqT K H a xs ∧ xs.length = i
theorem tup_ne {h : Heap} {a it : Addr} {i : Nat} {its : Array Value} (hi : h.IsTupleIter it a i) (ht : h.IsTuple a its) : a ≠ it := by
  rintro rfl
  obtain ⟨o, ho, hc, _⟩ := hi
  obtain ⟨u, hu, uc, _⟩ := ht
  rw [ho] at hu
  cases hu
  rw [hc] at uc
  exact absurd (Value.type.inj uc) (by decide)
theorem turn_enumT {P : Program} {w : World} {K : PySem.W.Frag} {elts : List Expr} {kk : Nat} {tpos : Pos} (a e it : Addr) :
    Turn P w K (.Tuple elts kk tpos) (ItE K a) [e, it] e (fun i h => (∃ old, IsEnum h e it ((i : Nat) : Int) old) ∧ h.IsTupleIter it a i ∧ e ≠ it) where
  mem := by simp
  obj := fun i h st b hb => by
    obtain ⟨⟨old, he⟩, ⟨o, ho, hc, hd⟩, _⟩ := st
    rcases List.mem_cons.mp hb with rfl | hb
    · exact ⟨_, he, fun v q => nomatch q⟩
    · rw [List.mem_singleton.mp hb]
      exact ⟨o, ho, fun v q => by rw [hd] at q; cases q⟩
  keep := fun i h h' st k => ⟨st.1.imp fun old he => k e (by simp) _ he, st.2.1.at fun o q => k it (by simp) o q, st.2.2⟩
  item := by
    intro X hP hw hK hc i pins s σ H E I hf st hg
    subst hP hw hK
    obtain ⟨⟨old, he⟩, hit, hne⟩ := st
    obtain ⟨xs, x, hq, hx⟩ := hg
    obtain ⟨its, rv, p, hz⟩ := I.tuple hq
    obtain ⟨u, hu, ru⟩ := rv.get hx
    have p' : s.heap.IsTuple a its.toArray := p
    have hel : e < s.heap.objs.size := Heap.lt_size he
    have hil : it < s.heap.objs.size := by obtain ⟨_, q, _⟩ := hit; exact Heap.lt_size q
    have hlt : i < its.toArray.size := by
      have := (List.getElem?_eq_some_iff.mp hu).1
      simpa using this
    have hea : e ≠ a := by
      rintro rfl
      obtain ⟨o2, ho2, uc, _⟩ := p'
      rw [he] at ho2
      cases ho2
      exact absurd (Value.type.inj uc) (by decide)
    refine wpAny_pyNext_enum_itemD (Draws.tuple (A := X.A.in1) (I.ok.hd hc) it a (tup_ne hit p') its.toArray) he ⟨hit, p'⟩ hlt hne (by simp [hne, hea]) fun x2 h' tk hx2 ho st2 hT hsz hk => ?_
    obtain rfl : x2 = u := by
      have e1 : its.toArray[i]? = some u := by simpa using hu
      exact Option.some.inj (hx2.symm.trans e1)
    refine ⟨_, rfl, wpAny_letOwnedTupleGo_enum (s := { s with heap := h', toks := tk + 1 }) ho fun h'' he' sb => ?_⟩
    have hT2 : h''.get? s.heap.objs.size = some { cls := .type "tuple", data := .seq #[.int i tk, x2] } := (sb.2 _ (Nat.ne_of_gt hel)).trans hT
    have new : ObjOk X.prog X.w (upd H s.heap.objs.size (.tup [.int (i : Nat), x])) h'' s.heap.objs.size (.tup [.int (i : Nat), x]) :=
      ⟨by show 2 ≤ sizeLine; decide, [.int i tk, x2], .cons ⟨_, rfl⟩ (.cons ru .nil), ⟨_, hT2, rfl, _, rfl⟩⟩
    have I1 : Inv X pins σ (upd H s.heap.objs.size (.tup [.int (i : Nat), x])) { s with heap := h'', toks := tk + 1 } :=
      I.turnedNew (ch := [e, it]) (fun b ob hb q => (sb.2 b (fun z => hb (by simp [z]))).trans (hk b ob (fun z => hb (by simp [z])) (fun z => hb (by simp [z])) q)) hf (Nat.le_refl _) new
    refine ⟨.ref s.heap.objs.size, _, I1, rfl, ⟨_, x, rfl, I.hok.fresh (Nat.le_refl _), rfl, fun ys hy => by rw [I.tuple_inj hy hq]; exact hx⟩, ⟨⟨x2, ?_⟩, st2.1.at fun o q => (sb.2 it (Ne.symm hne)).trans q, hne⟩, fun b hb => ?_⟩
    · rw [show ((i + 1 : Nat) : Int) = (i : Int) + 1 by omega]
      exact he'
    · have hb' : b < s.heap.objs.size := by
        rcases List.mem_cons.mp hb with rfl | hb
        · exact hel
        · rw [List.mem_singleton.mp hb]
          exact hil
      rw [upd_ne (Nat.ne_of_lt hb')]
      exact (hf b hb).1
  done := by
    intro X hP hw hK hc i pins s σ H E I hf st hg
    subst hP hw hK
    obtain ⟨⟨old, he⟩, hit, hne⟩ := st
    obtain ⟨xs, hq, hx⟩ := hg
    obtain ⟨its, rv, p, hz⟩ := I.tuple hq
    have p' : s.heap.IsTuple a its.toArray := p
    obtain ⟨f0, f1, f2, f3, f4, f5⟩ := hf it (by simp)
    have hl := rv.length
    obtain rfl : i = its.toArray.size := by simp; omega
    exact wpAny_pyNext_enum_endD (Draws.tuple (A := X.A.in1) (I.ok.hd hc) it a (tup_ne hit p') its.toArray) he ⟨hit, p'⟩ fun h' eb => ⟨rfl, I.turned (t' := s.toks) (fun b o hb q => eb b o hb q) f0 f1 f3 f4 f5⟩
  self := fun A i s Q E st h => let ⟨⟨_, he⟩, _⟩ := st; wpAny_pyIter_enum he h
def iEnumT (K : PySem.W.Frag) (ta : TA) : TI := fun σ H R => ta σ H fun vs H1 => ∃ a xs, vs = [.ref a] ∧ SqT K H1 a xs ∧ R (ItE K a) H1
theorem pi_enumT {X : Cx} {e : Expr} {ta : TA} {p pos tpos : Pos} {elts : List Expr} {kk : Nat} (hg : Gl X "enumerate") (hm : X.mg "enumerate" = none) (ha : PA X [e] ta) (hs : starEach [e] X.env = [(false, eval e X.env)] := by rfl) :
    PI X (.Tuple elts kk tpos) (.Call (.Name "enumerate" p) [e] [] pos) (iEnumT X.K ta) := by
  refine ⟨fun pins s σ H R I h => Call_ (ld_blt I hg hm boot_enumerate (PyProof.Rows.callWith_type1 (thn (ha.run pos pins s σ H _ I h) fun us s1 hh => ?_) hs rfl))⟩
  obtain ⟨vs, H1, I1, r1, a, xs, rfl, hq, q⟩ := hh
  obtain rfl := Vals.ref1 r1
  obtain ⟨its, rv, p', hz⟩ := I1.tuple hq
  refine enum_tup p' fun h' he hit hk => wpAny_pyIter_enum he ?_
  have I2 : Inv X pins σ H1 { s1 with heap := h' } := I1.kept (t' := s1.toks) hk
  refine ⟨s1.heap.objs.size + 1, [s1.heap.objs.size + 1, s1.heap.objs.size], _, _, H1, rfl, I2, turn_enumT a (s1.heap.objs.size + 1) s1.heap.objs.size, ⟨⟨.none, he⟩, hit, Nat.succ_ne_self _⟩, fun b hb => ?_, q⟩
  have hle : s1.heap.objs.size ≤ b := by
    rcases List.mem_cons.mp hb with rfl | hb
    · exact Nat.le_succ _
    · rw [List.mem_singleton.mp hb]
      exact Nat.le_refl _
  exact I1.fpOk hle (I1.hok.fresh hle)
theorem walk_enumT {K : PySem.W.Frag} {a : Addr} {xs : List V} : Walk (ItE K a) xs.length (fun H => SqT K H a xs) (YPair (fun i => some (.int (i : Nat))) (fun i => xs[i]?)) :=
  ⟨fun i _ hi q => ⟨xs, xs[i], q, by simp [hi]⟩, fun _ q => ⟨xs, q, rfl⟩, fun i H v H' _ q y => y.elim fun T y => y.elim fun x y => ⟨T, .int (i : Nat), x, y.1, y.2.1, y.2.2.1, rfl, y.2.2.2 xs q⟩⟩
end KX

set_option Elab.async false
set_option maxRecDepth 100000
set_option maxHeartbeats 2000000
namespace KX
open PySem PySem.Spec PyProof.Rows L2
/-- a def's promise where no repr is running -/
structure FnG (P : Program) (w : World) (K : PySem.W.Frag) (mg : Str → Option Value) (base : Heap) (CX : CXT) (k : Nat) (f : Addr) (fd : FuncData) (ps : List Str) (sp : Sp) : Prop where
  len : ∀ vs H Q E, sp vs H Q E → vs.length = ps.length
  run : ∀ (A : Around) (outer : List Env) (s : Shared) (H : Hp) (args : Args) (us : List Value) (vs : List V) (Q : VK) (E : XK), A.guards = some [] → Room k A →
    Env0 P w K mg base A outer s H → BindsTo s fd args (ps.zip us) → Vals vs us → sp vs H Q E → codeAny (model P w) A (.call (.ref f) args) (CR CX outer P w H s Q E) s
section
variable {P : Program} {w : World} {K : PySem.W.Frag} {mg : Str → Option Value} {base : Heap} {CX : CXT} {k : Nat} {f : Addr} {fd : FuncData} {ps : List Str} {sp : Sp}
theorem FnG.of (F : FnOk P w K mg base CX k f fd ps sp) : FnG P w K mg base CX k f fd ps sp :=
  ⟨F.len, fun A outer s H args us vs Q E _ => F.run A outer s H args us vs Q E⟩
/-- the rule for a def whose body may use that no repr is running -/
theorem fnG_ok {x qual : Str} {params : Arguments} {body : List Stmt} {scope : Scope} {dvs : List V} {kws : List (Str × V)} {N : List Str} (F : FunD K x qual params body scope dvs kws f fd) (S : FnScope N ps scope)
    (len : ∀ vs H Q E, sp vs H Q E → vs.length = ps.length)
    (hbody : ∀ (cdv : Value) (A : Around) (outer : List Env) (s : Shared) (H : Hp) (vs : List V) (Q : VK) (E : XK),
      A.guards = some [] → Room k (A.deeper (envOfC qual scope s.heap.objs.size f cdv)) → sp vs H Q E →
      ∃ t, PSs (cxOf CX P w K mg base N qual scope f cdv A outer s H E) body t ∧ t { nx := fun _ G => Q .non G, rt := Q } (start N vs) H) :
    FnG P w K mg base CX (k + 1) f fd ps sp := by
  obtain ⟨oc, od, dV, kV, doc, pm, an, cdv, ct, osl, rfl, lk, hcd, _, _⟩ := F.ex
  constructor
  · exact len
  intro A outer s H args us vs Q E hg hr e0 hb r hsp
  have hn := len _ _ _ _ hsp
  have keep : ∀ b o, base.get? b = some o → s.heap.get? b = some o := fun b o z => (e0.bs b o z).1
  have hK : K.In s.heap := e0.mod.kin.keeps keep
  have hL : s.heap.NoLimit := e0.mod.nolimit.keeps keep
  refine codeAny_call_function hr.depth (hK _ _ lk) rfl S.co S.gen rfl (PySem.W.codeRec_of hK hcd) (hb _ _ _ _ ?_)
  refine wpAny_newFunctionEnv_cells S.kind (fun y hy => ?_) fun env he s1 x => ?_
  · rcases S.par y.1 (List.of_mem_zip (show (y.1, y.2) ∈ ps.zip us from hy)).1 with z | z
    · exact Or.inl z
    · exact Or.inr ⟨z, PySem.W.cellsFrom_some _ _ _ (Or.inl z)⟩
  · subst he
    refine ⟨hL.keeps x.toInCall.keep, codeAny_func ?_⟩
    obtain ⟨t, ht, hq⟩ := hbody cdv A outer s H vs Q E hg (hr.deeper _) hsp
    have I0 := inv_start (CX := CX) (E := E) S hr.hd e0 hn r x
    refine wpAny_mono (ht.run [] s1 (start N vs) H _ I0 hq) (fun fl s' z => ?_) fun _ _ z => z
    match fl, z with
    | .ret u, ⟨v, σ', G, J, rv, qv⟩ => exact ⟨v, G, J.os, J.bare, J.base, J.hok, rv, qv⟩
    | .next, ⟨σ', G, J, qv⟩ => exact ⟨.non, G, J.os, J.bare, J.base, J.hok, rfl, qv⟩
    | .brk, ⟨_, _, _, qv⟩ => exact False.elim qv
    | .cont, ⟨_, _, _, qv⟩ => exact False.elim qv
end
section
variable {X : Cx} {CX : CXT} {k : Nat} {f : Addr} {fd : FuncData} {ps : List Str} {sp : Sp} {dvs : List V} {ds : List Value} {E : XK} {x : Str} {p pos : Pos} {e : Expr} {es : List Expr} {t : TA}
/-- f(e, ..) where no repr is running -/
theorem pe_callG (F : FnG X.prog X.w X.K X.mg X.base CX k f fd ps sp) (gg : X.A.guards = some []) (hr : Room k X.A) (hg : Gl X x) (hm : X.mg x = some (.ref f)) (hk : PySem.W.keepIn X.K (.ref f) = true) (hb : Binds X.K fd ps ds) (hd : Vals dvs ds)
    (hx : Passes CX X E) (ha : PA X (e :: es) t) (hdb : (x == ("__debug__" : Str)) = false := by decide) (he : starEach (e :: es) X.env = (false, eval e X.env) :: starEach es X.env := by rfl)
    (hpl : (backTo pos (starEach es X.env)).any (·.1) = false := by rfl) : PE X (.Call (.Name x p) (e :: es) [] pos) (tCall sp dvs E t) := by
  constructor
  intro pins s σ H Q I h
  refine wpAny_Call_Name_kw (ld_glob I hg hm ?_ hdb)
  refine PySem.W.callWith_K (h₀ := X.base) I.ok.mod.kin hk (thn (ha.run pos pins s σ H _ I h) fun us s1 hh => ?_) he hpl
  obtain ⟨vs, H1, I1, r, q⟩ := hh
  refine ⟨I1.kIn, ?_⟩
  have r2 : Vals (vs ++ dvs) (us ++ ds) := r.append hd
  have hl : (us ++ ds).length = ps.length := r2.length.symm.trans (F.len _ _ _ _ q)
  refine wpAny_call (codeAny_mono (F.run X.A X.stack s1 H1 ⟨us, []⟩ _ _ Q E gg hr I1.env0 (hb s1 us I1.kIn hl) r2 q) fun res s' z => ?_)
  match res, z with
  | .error er, z => exact hx pins σ H1 s1 er s' I1 z
  | .ok (.ret u), z => exact I1.after z
  | .ok .next, z => exact False.elim z
  | .ok .brk, z => exact False.elim z
  | .ok .cont, z => exact False.elim z
end
/-! ### the law's own call -/
theorem law_atG {P : Program} {w : World} {K : PySem.W.Frag} {mg mb : Str → Option Value} {k : Nat} {fa a : Addr} {fd : FuncData} {x : Str} {sp : Sp} {s1 : Shared} {vs : List Value} {ns : List Int}
    (KI : K.In s1.heap) (hns : s1.heap.Ns mainGlobals mg) (hb : s1.heap.Ns builtinsNs mb) (hbb : ∀ x : Str, x ≠ "__name__" → mb x = bootBuiltins x) (hlim : s1.heap.NoLimit) (hg : s1.gens = #[])
    (ha : s1.heap.get? a = some { cls := .type "list", data := .seq vs.toArray }) (hi : IntsAre vs ns) (hl : ns.length ≤ sizeLine) (hr : Room k callerA)
    (F : ∀ base : Heap, K.In base → base.Ns mainGlobals mg → FnG P w K mg base CX0 k fa fd [x] sp) (hbind : ∀ (s : Shared) (u : Value), BindsTo s fd ⟨[u], []⟩ [(x, u)])
    (hsp : ∀ H : Hp, SqL K H a (ns.map V.int) → sp [.ref a] H (fun v _ => v = .bl true) E0) :
    codeAny (model P w) callerA (.call (.ref fa) ⟨[.ref a], []⟩) (fun r s' => r = .ok (.ret (.bool true)) ∧ PySem.OldK s1.heap s'.heap ∧ s'.os = s1.os ∧ AllBare s'.gens) s1 := by
  have rv := vals_ints hi
  have frozen : ∀ H : Hp, (∀ b u, H b = some u → b = a ∧ u = .frz { cls := .type "list", data := .seq vs.toArray } (.lst (ns.map V.int)) ∧ K.lookup a = none) → SqL K H a (ns.map V.int) →
      codeAny (model P w) callerA (.call (.ref fa) ⟨[.ref a], []⟩) (fun r s' => r = .ok (.ret (.bool true)) ∧ PySem.OldK s1.heap s'.heap ∧ s'.os = s1.os ∧ AllBare s'.gens) s1 := by
    intro H hH hS
    have free : ∀ b o, s1.heap.get? b = some o → (b = a → K.lookup a ≠ none ∨ (∀ its n, o.data ≠ .seq its n)) → H b = none := by
      intro b o e n
      cases q : H b with
      | none => rfl
      | some u =>
        obtain ⟨rfl, _, z3⟩ := hH b u q
        rw [ha] at e
        obtain rfl := Option.some.inj e
        rcases n rfl with n | n
        · exact absurd z3 n
        · exact absurd rfl (n vs.toArray _)
    have inK : K.In (hidT s1.heap H) := fun b o e => hidT_get (KI b o e) (free b o (KI b o e) fun z => .inl (by rw [← z, e]; simp))
    have nsOk : ∀ {b : Addr} {m : Str → Option Value}, s1.heap.Ns b m → (hidT s1.heap H).Ns b m := by
      rintro b m ⟨o, es, ep, e, d, r⟩
      exact ⟨o, es, ep, hidT_get e (free b o e fun _ => .inr fun its n z => by rw [d] at z; cases z), d, r⟩
    have hok : HOk P w H s1.heap := by
      intro b u q
      obtain ⟨rfl, rfl, _⟩ := hH b u q
      exact ⟨ha, by rw [List.length_map]; exact hl, vs, _, rv, ha⟩
    have md : Mod K mg (hidT s1.heap H) := ⟨inK, nsOk hns, ⟨mb, nsOk hb, hbb⟩, by
      obtain ⟨mc, h1, h2⟩ := hlim
      exact ⟨mc, nsOk h1, h2⟩⟩
    have e0 : Env0 P w K mg (hidT s1.heap H) callerA [] s1 H :=
      ⟨rfl, md, fun b o e => of_hidT e, Nat.le_of_eq (hidT_size _ _), trivial, fun b z => absurd (show b ∈ ([] : List Addr) from z) (by simp), hok, .of_eq hg⟩
    have go := (F _ inK (nsOk hns)).run callerA [] s1 H ⟨[.ref a], []⟩ [.ref a] [.ref a] _ _ rfl hr e0 (hbind s1 (.ref a)) (.cons rfl .nil) (hsp H hS)
    refine codeAny_mono go fun r s' z => ?_
    match r, z with
    | .error _, z => exact False.elim z
    | .ok .next, z => exact False.elim z
    | .ok .brk, z => exact False.elim z
    | .ok .cont, z => exact False.elim z
    | .ok (.ret u), ⟨v, G, os, bare, un, hok', rr, qv⟩ =>
      obtain rfl : v = .bl true := qv
      obtain rfl : u = Value.bool true := rr
      refine ⟨rfl, PySem.OldK.of_keep fun b o e => ?_, os, bare⟩
      cases q : H b with
      | none => exact un.keep b o e q (fun z => absurd (show b ∈ ([] : List Addr) from z) (by simp)) (by simp)
      | some t =>
        obtain ⟨rfl, rfl, _⟩ := hH b t q
        obtain ⟨e2, _⟩ := hok' _ _ (un.frzs _ _ _ q)
        exact e2.trans (ha.symm.trans e)
  cases hk : K.lookup a with
  | none =>
    refine frozen (fun b => if b = a then some (.frz { cls := .type "list", data := .seq vs.toArray } (.lst (ns.map V.int))) else none) (fun b u z => ?_) (.inl (.inr ⟨_, if_pos rfl⟩))
    by_cases hba : b = a
    · exact ⟨hba, (Option.some.inj ((if_pos hba).symm.trans z)).symm, hk⟩
    · exact nomatch (if_neg hba).symm.trans z
  | some o =>
    have e := KI a o hk
    rw [ha] at e
    obtain rfl := Option.some.inj e
    exact frozen (fun _ => none) (fun b u z => nomatch (show (none : Option HO) = some u from z))
      (.inr ⟨_, vs.toArray, _, hk, rfl, rfl, rfl, by rw [List.size_toArray, hi.length]; exact hl, by simpa using rv⟩)
/-- the goal that a head leaves, by the law's promise -/
theorem walk_atG {l : PySem.W.OpenLaw} {n k : Nat} {q : Program} {loose : List Str} {XP : (Str → Option Value) → Heap → Prop} {YP : World → Heap → Prop} {d : DefRec} {x : Str}
    (hn : l.most = some n) (hn2 : n ≤ sizeLine) (hdf : d.params.defaults = []) (hr : Room k callerA)
    (F : ∀ (w : World) (mg : Str → Option Value) (fa : Addr) (h : Heap), YP w h → h.Ns mainGlobals mg → mg d.name = some (.ref fa) →
      ∃ (K : PySem.W.Frag) (fd : FuncData) (sp : Sp), K.In h ∧ (∀ (s : Shared) (u : Value), BindsTo s fd ⟨[u], []⟩ [(x, u)]) ∧
        (∀ (H : Hp) (a : Addr) (ns : List Int), ns.length ≤ n → (∀ z ∈ ns, Builtin.Int.intBits z ≤ 1048576) → SqL K H a (ns.map V.int) → sp [.ref a] H (fun v _ => v = .bl true) E0) ∧
        ∀ base : Heap, K.In base → base.Ns mainGlobals mg → FnG l.prog w K mg base CX0 k fa fd [x] sp) :
    PySem.W.WalkO q loose XP YP l.row.toRowW d [] (fun f vs => PySem.call f vs) := by
  refine Att.attach_callB hn hdf fun w s₀ s₁ mg mb fa o pm cd doc a vs ns G Y ho hd hcd hmg hobj hints hlen hbits hg => ?_
  obtain ⟨K, fd, sp, KI, hb, hsp, hF⟩ := F w mg fa _ Y G.T.g hmg
  exact law_atG KI G.T.g G.T.b G.T.builtins G.T.nolimit hg hobj hints (Nat.le_trans hlen hn2) hr hF hb fun H hS => hsp H a ns hlen hbits hS
end KX

set_option Elab.async false
set_option maxRecDepth 100000
set_option maxHeartbeats 2000000
/-! The bag that a law draws from: what stands in it, what is promised of a draw. -/
namespace KX
open PySem PySem.Spec PyProof.Rows L2
/-- the bag at b: digits, a seed, a count of at most n -/
def Bag (H : Hp) (b : Addr) (n : Int) : Prop := ∃ d m c : Int, H b = some (.lst [.int d, .int m, .int c]) ∧ 0 ≤ d ∧ 0 ≤ m ∧ m < 2 ^ 61 ∧ 0 ≤ c ∧ c ≤ n
/-- all but b is as it was -/
def But (b : Addr) (H H' : Hp) : Prop := ∀ x, x ≠ b → H' x = H x
/-- what was tracked is as it was, but b -/
def Kept (b : Addr) (H H' : Hp) : Prop := ∀ x o, x ≠ b → H x = some o → H' x = some o
theorem But.kept {b : Addr} {H H' : Hp} (h : But b H H') : Kept b H H' := fun x o n e => (h x n).trans e
theorem Kept.refl (b : Addr) (H : Hp) : Kept b H H := fun _ _ _ e => e
theorem Kept.trans {b : Addr} {H H1 H2 : Hp} (h : Kept b H H1) (k : Kept b H1 H2) : Kept b H H2 := fun x o n e => k x o n (h x o n e)
theorem Kept.new {b p : Addr} {H : Hp} {o : HO} (h : H p = none) : Kept b H (upd H p o) := fun x u _ e => by
  rw [upd_ne (ne_of_none e h)]
  exact e
theorem Kept.seq {K : PySem.W.Frag} {b a : Addr} {H H' : Hp} {xs : List V} (k : Kept b H H') (n : a ≠ b) (h : SqL K H a xs) : SqL K H' a xs := by
  rcases h with (h | ⟨o, h⟩) | h
  · exact .inl (.inl (k _ _ n h))
  · exact .inl (.inr ⟨o, k _ _ n h⟩)
  · exact .inr h
theorem Bag.some {H : Hp} {b : Addr} {n : Int} (h : Bag H b n) : ∃ o, H b = some o := let ⟨_, _, _, e, _⟩ := h; ⟨_, e⟩
theorem Bag.ne {H : Hp} {b p : Addr} {n : Int} (h : Bag H b n) (hp : H p = none) : p ≠ b := by
  obtain ⟨o, e⟩ := h.some
  exact (ne_of_none e hp).symm
theorem Bag.put {H : Hp} {b p : Addr} {n : Int} {o : HO} (h : Bag H b n) (hp : p ≠ b) : Bag (upd H p o) b n := by
  obtain ⟨d, m, c, e, r⟩ := h
  exact ⟨d, m, c, (upd_ne hp.symm).trans e, r⟩
theorem Bag.mono {H : Hp} {b : Addr} {n n' : Int} (h : Bag H b n) (hn : n ≤ n') : Bag H b n' := by
  obtain ⟨d, m, c, e, r1, r2, r3, r4, r5⟩ := h
  exact ⟨d, m, c, e, r1, r2, r3, r4, by omega⟩
/-- _law_bag -/
def spBag (K : PySem.W.Frag) : Sp := fun vs H Q _ => ∃ (a : Addr) (ns : List Int) (i : Nat), vs = [.ref a, .int i] ∧ SqL K H a (ns.map V.int) ∧ ns.length ≤ 63 ∧ i ≤ 63 ∧ ∀ b H', H b = none → Kept b H H' → (∀ x, x ≠ b → H' x = H x) → Bag H' b 0 → Q (.ref b) H'
/-- _law_draw -/
def spDraw : Sp := fun vs H Q _ => ∃ (b : Addr) (n many : Int), vs = [.ref b, .int many] ∧ Bag H b n ∧ n < 1000000 ∧ 0 < many ∧ many.natAbs < 2 ^ 200 ∧ ∀ (r : Int) (H' : Hp), 0 ≤ r → r < many → But b H H' → Bag H' b (n + 1) → Q (.int r) H'
/-- _law_of -/
def spOf (K : PySem.W.Frag) : Sp := fun vs H Q _ => ∃ (b l : Addr) (n : Int) (xs : List V), vs = [.ref b, .ref l] ∧ Bag H b n ∧ n < 1000000 ∧ l ≠ b ∧ SqL K H l xs ∧ 0 < xs.length ∧ xs.length ≤ 1000 ∧
  ∀ (i : Nat) (v : V) (H' : Hp), xs[i]? = some v → But b H H' → Bag H' b (n + 1) → Q v H'
/-- the numbers of a draw -/
theorem draw_pow {m c : Int} (hm0 : 0 ≤ m) (hm : m < 2 ^ 61) (hc0 : 0 ≤ c) (hc : c ≤ 1000000) : CPow (m + 611953 * (c + 1)) 2 := by
  refine ⟨by decide, by decide, ?_⟩
  omega
theorem draw_pow3 {x c : Int} (hx0 : 0 ≤ x) (hx : x < 1152921504606846869) (hc0 : 0 ≤ c) (hc : c ≤ 1000000) : CPow (x + 15485863 * (c + 1)) 3 := by
  refine ⟨by decide, by decide, ?_⟩
  omega
theorem fmod_in {x y : Int} (h : 0 < y) : 0 ≤ x.fmod y ∧ x.fmod y < y := by
  rw [Int.fmod_eq_emod_of_nonneg x (Int.le_of_lt h)]
  exact ⟨Int.emod_nonneg x (by omega), Int.emod_lt_of_pos x h⟩
end KX

set_option Elab.async false
set_option maxRecDepth 100000
set_option maxHeartbeats 2000000
/-! Nested data on the abstract heap: it stays while what is tracked stays; bounds of its text. -/
namespace KX
open PySem PySem.Spec PyProof.Rows L2
theorem sqT_same {K : PySem.W.Frag} {H H' : Hp} {a : Addr} {xs : List V} (s : Same H H') (h : SqT K H a xs) : SqT K H' a xs := by
  rcases h with (h | ⟨o, h⟩) | h
  · exact .inl (.inl (s _ _ h))
  · exact .inl (.inr ⟨o, s _ _ h⟩)
  · exact .inr h
mutual
theorem dp_same {K : PySem.W.Frag} {H H' : Hp} (s : Same H H') : ∀ (d : PyData) (v : V), Dp K H v d → Dp K H' v d
  | .none, _, .non => .non
  | .bool _, _, .bl b => .bl b
  | .int _, _, .int i => .int i
  | .str _, _, .str x => .str x
  | .list ds, _, .lst hS ha => .lst (s.seq hS) (dps_same s ds _ ha)
  | .tuple ds, _, .tup hS ha => .tup (sqT_same s hS) (dps_same s ds _ ha)
  | .dict _, _, h => nomatch h
theorem dps_same {K : PySem.W.Frag} {H H' : Hp} (s : Same H H') : ∀ (ds : List PyData) (vs : List V), DpAll K H vs ds → DpAll K H' vs ds
  | [], _, .nil => .nil
  | d :: ds, _, .cons h hs => .cons (dp_same s d _ h) (dps_same s ds _ hs)
end
/-- what may be shown in little room -/
structure Small (d : PyData) (k n : Nat) : Prop where
  sh : d.showable = true
  nd : d.hasDict = false
  dp : d.depth ≤ k
  ln : d.shown.length ≤ n
/-- v is small data on H -/
def Good (K : PySem.W.Frag) (H : Hp) (v : V) : Prop := ∃ d, Dp K H v d ∧ Small d 2 100
theorem Good.same {K : PySem.W.Frag} {H H' : Hp} {v : V} (s : Same H H') (h : Good K H v) : Good K H' v := let ⟨d, h1, h2⟩ := h; ⟨d, dp_same s d v h1, h2⟩
theorem good_int {K : PySem.W.Frag} {H : Hp} {i : Int} (h : i.natAbs < 10 ^ 30) : Good K H (.int i) := by
  refine ⟨.int i, .int i, ⟨decide_eq_true ?_, rfl, Nat.zero_le _, ?_⟩⟩
  · have h2 : i.natAbs < 2 ^ 100 := Nat.lt_trans h (by decide)
    exact Nat.lt_trans (PySem.Flt.log2_lt_of (by decide) h2) (by decide)
  · have q := int_text_length_le10 (k := 30) (by decide) h
    show (Str.ofString (toString i)).length ≤ 100
    rw [PySem.ofString_length]
    omega
theorem textFrom_le {m : Nat} : ∀ (ts : List Str) (k : Nat) (acc : Str), (∀ t ∈ ts, t.length ≤ m) → (textFrom k acc ts).length ≤ acc.length + ts.length * (m + 2)
  | [], k, acc, _ => Nat.le_add_right _ _
  | t :: r, k, acc, h => by
    have q := textFrom_le r (k + 1) (acc ++ (if k > 0 then ", " else "" : String) ++ t) (fun u hu => h u (List.mem_cons_of_mem _ hu))
    have ht := h t List.mem_cons_self
    have e : (acc ++ (if k > 0 then ", " else "" : String) ++ t).length ≤ acc.length + 2 + t.length := by
      rw [Str.length_append, Str.length_append]
      have z : ((if k > 0 then ", " else "" : String) : Str).length ≤ 2 := by
        split <;> decide
      omega
    have f : (t :: r).length * (m + 2) = r.length * (m + 2) + (m + 2) := by rw [List.length_cons, Nat.succ_mul]
    show (textFrom (k + 1) _ r).length ≤ _
    omega
theorem listText_le {m : Nat} {ts : List Str} (h : ∀ t ∈ ts, t.length ≤ m) : (listText ts).length ≤ ts.length * (m + 2) + 2 := by
  have q := textFrom_le ts 0 ("[" : String) h
  unfold listText
  rw [Str.length_append]
  have e1 : (("[" : String) : Str).length = 1 := by decide
  have e2 : (("]" : String) : Str).length = 1 := by decide
  omega
theorem shownAll_mem : ∀ {ds : List PyData} {t : Str}, t ∈ PyData.shownAll ds → ∃ d ∈ ds, t = d.shown
  | [], _, h => nomatch h
  | d :: r, t, h => by
    rcases List.mem_cons.mp (show t ∈ d.shown :: PyData.shownAll r from h) with h | h
    · exact ⟨d, List.mem_cons_self, h⟩
    · obtain ⟨e, he, q⟩ := shownAll_mem h
      exact ⟨e, List.mem_cons_of_mem _ he, q⟩
theorem shownAll_len : ∀ ds : List PyData, (PyData.shownAll ds).length = ds.length
  | [] => rfl
  | d :: r => congrArg (· + 1) (shownAll_len r)
theorem small_all {k n : Nat} : ∀ {ds : List PyData}, (∀ d ∈ ds, Small d k n) → PyData.showableAll ds = true ∧ PyData.hasDictAll ds = false ∧ PyData.depthAll ds ≤ k
  | [], _ => ⟨rfl, rfl, Nat.zero_le _⟩
  | d :: r, h => by
    obtain ⟨h1, h2, h3⟩ := small_all (ds := r) fun e he => h e (List.mem_cons_of_mem _ he)
    have z := h d List.mem_cons_self
    refine ⟨?_, ?_, ?_⟩
    · show (d.showable && PyData.showableAll r) = true
      rw [z.sh, h1]
      rfl
    · show (d.hasDict || PyData.hasDictAll r) = false
      rw [z.nd, h2]
      rfl
    · exact Nat.max_le.mpr ⟨z.dp, h3⟩
/-- a list of small data is small, one deeper -/
theorem small_list {k n m : Nat} {ds : List PyData} (h : ∀ d ∈ ds, Small d k n) (hm : ds.length * (n + 2) + 2 ≤ m) : Small (.list ds) (k + 1) m := by
  obtain ⟨h1, h2, h3⟩ := small_all h
  refine ⟨h1, h2, Nat.succ_le_succ h3, Nat.le_trans (listText_le (m := n) fun t ht => ?_) (by rw [shownAll_len]; exact hm)⟩
  obtain ⟨d, hd, rfl⟩ := shownAll_mem ht
  exact (h d hd).ln
end KX

set_option Elab.async false
set_option maxRecDepth 100000
set_option maxHeartbeats 2000000
/-! Nested data: its type, what isinstance says of it; items of it; small walks. -/
namespace KX
open PySem PySem.Spec PyProof.Rows L2
def tyD : PyData → String
  | .none => "NoneType"
  | .bool _ => "bool"
  | .int _ => "int"
  | .str _ => "str"
  | .list _ => "list"
  | .tuple _ => "tuple"
  | .dict _ => "dict"
def isIntD : PyData → Bool
  | .int _ => true
  | _ => false
def isBoolD : PyData → Bool
  | .bool _ => true
  | _ => false
def isStrD : PyData → Bool
  | .str _ => true
  | _ => false
def isTupD : PyData → Bool
  | .tuple _ => true
  | _ => false
def isLstD : PyData → Bool
  | .list _ => true
  | _ => false
theorem dp_ty {K : PySem.W.Frag} {H : Hp} {v : V} {d : PyData} (h : Dp K H v d) : TyX K H v (.type (tyD d)) := by
  cases h with
  | non => exact .base .non
  | bl b => exact .base (.bl b)
  | int i => exact .base (.int i)
  | str z => exact .base (.str z)
  | tup h _ =>
    rcases h with h | ⟨o, its, n, h1, h2, _⟩
    · rcases h with h | ⟨o, h⟩
      · exact .base (.tup h)
      · exact .fTuple h
    · exact .kTuple h1 h2
  | lst h _ =>
    rcases h with h | ⟨o, its, n, h1, h2, _⟩
    · rcases h with h | ⟨o, h⟩
      · exact .base (.lst h)
      · exact .base (.frz h)
    · exact .kList h1 h2
theorem kit_int {K : PySem.W.Frag} (d : PyData) : PySem.W.kitOne K (.type (tyD d)) (.type "int") = some (isIntD d || isBoolD d) := by cases d <;> kernel_rfl
theorem kit_bool {K : PySem.W.Frag} (d : PyData) : PySem.W.kitOne K (.type (tyD d)) (.type "bool") = some (isBoolD d) := by cases d <;> kernel_rfl
theorem kit_str {K : PySem.W.Frag} (d : PyData) : PySem.W.kitOne K (.type (tyD d)) (.type "str") = some (isStrD d) := by cases d <;> kernel_rfl
theorem kit_tup {K : PySem.W.Frag} (d : PyData) : PySem.W.kitOne K (.type (tyD d)) (.type "tuple") = some (isTupD d) := by cases d <;> kernel_rfl
theorem kit_lst {K : PySem.W.Frag} (d : PyData) : PySem.W.kitOne K (.type (tyD d)) (.type "list") = some (isLstD d) := by cases d <;> kernel_rfl
theorem kit_seq {K : PySem.W.Frag} (d : PyData) : PySem.W.kitAny K (.type (tyD d)) [.type "list", .type "tuple"] = some (isLstD d || isTupD d) := by
  unfold PySem.W.kitAny PySem.W.kitAny PySem.W.kitAny
  rw [kit_lst, kit_tup]
  cases d <;> rfl
theorem ite2' {b : Bool} {A B : Prop} (h1 : b = true → A) (h2 : b = false → B) : if b = true then A else B := by
  cases b
  · exact h2 rfl
  · exact h1 rfl
theorem same_put {H : Hp} {p : Addr} {o : HO} (hp : H p = none) : Same H (upd H p o) := fun x u e => (upd_ne (ne_of_none e hp)).trans e
theorem sqL_same {K : PySem.W.Frag} {H H' : Hp} {a : Addr} {xs : List V} (s : Same H H') (h : SqL K H a xs) : SqL K H' a xs := by
  rcases h with (h | ⟨o, h⟩) | h
  · exact .inl (.inl (s _ _ h))
  · exact .inl (.inr ⟨o, s _ _ h⟩)
  · exact .inr h
theorem dpall_len {K : PySem.W.Frag} {H : Hp} : ∀ {xs : List V} {ds : List PyData}, DpAll K H xs ds → xs.length = ds.length
  | _, _, .nil => rfl
  | _, _, .cons _ h => congrArg (· + 1) (dpall_len h)
theorem dpall_at {K : PySem.W.Frag} {H : Hp} : ∀ {xs : List V} {ds : List PyData} {i : Nat} {x : V}, DpAll K H xs ds → xs[i]? = some x → ∃ d, ds[i]? = some d ∧ Dp K H x d
  | _, _, 0, _, .cons h _, e => ⟨_, rfl, by cases e; exact h⟩
  | _, _, i + 1, _, .cons _ t, e => dpall_at (i := i) t e
theorem dpall_snoc {K : PySem.W.Frag} {H : Hp} {x : V} {d : PyData} (h : Dp K H x d) : ∀ {xs : List V} {ds : List PyData}, DpAll K H xs ds → DpAll K H (xs ++ [x]) (ds ++ [d])
  | _, _, .nil => .cons h .nil
  | _, _, .cons h1 t => .cons h1 (dpall_snoc h t)
theorem dpall_app {K : PySem.W.Frag} {H : Hp} {ys : List V} {es : List PyData} (k : DpAll K H ys es) : ∀ {xs : List V} {ds : List PyData}, DpAll K H xs ds → DpAll K H (xs ++ ys) (ds ++ es)
  | _, _, .nil => k
  | _, _, .cons h1 t => .cons h1 (dpall_app k t)
theorem dpall_take {K : PySem.W.Frag} {H : Hp} : ∀ {xs : List V} {ds : List PyData} (i : Nat), DpAll K H xs ds → DpAll K H (xs.take i) (ds.take i)
  | _, _, 0, _ => .nil
  | _, _, _ + 1, .nil => .nil
  | _, _, i + 1, .cons h t => .cons h (dpall_take i t)
theorem dpall_drop {K : PySem.W.Frag} {H : Hp} : ∀ {xs : List V} {ds : List PyData} (i : Nat), DpAll K H xs ds → DpAll K H (xs.drop i) (ds.drop i)
  | _, _, 0, h => h
  | _, _, _ + 1, .nil => .nil
  | _, _, i + 1, .cons _ t => dpall_drop i t
theorem dpall_set {K : PySem.W.Frag} {H : Hp} {x : V} {d : PyData} (h : Dp K H x d) : ∀ {xs : List V} {ds : List PyData} (i : Nat), DpAll K H xs ds → DpAll K H (xs.set i x) (ds.set i d)
  | _, _, _, .nil => .nil
  | _, _, 0, .cons _ t => .cons h t
  | _, _, i + 1, .cons h1 t => .cons h1 (dpall_set h i t)
theorem dpall_erase {K : PySem.W.Frag} {H : Hp} : ∀ {xs : List V} {ds : List PyData} (i : Nat), DpAll K H xs ds → DpAll K H (xs.eraseIdx i) (ds.eraseIdx i)
  | _, _, _, .nil => .nil
  | _, _, 0, .cons _ t => t
  | _, _, i + 1, .cons h t => .cons h (dpall_erase i t)
theorem dpall_3 {K : PySem.W.Frag} {H : Hp} : ∀ {xs : List V} {ds : List PyData}, DpAll K H xs ds → xs.length = 3 → ∃ x y z a b c, xs = [x, y, z] ∧ ds = [a, b, c] ∧ Dp K H x a ∧ Dp K H y b ∧ Dp K H z c
  | _, _, .cons h1 (.cons h2 (.cons h3 .nil)), _ => ⟨_, _, _, _, _, _, rfl, rfl, h1, h2, h3⟩
  | _, _, .nil, e => nomatch e
  | _, _, .cons _ .nil, e => nomatch e
  | _, _, .cons _ (.cons _ .nil), e => nomatch e
  | _, _, .cons _ (.cons _ (.cons _ (.cons _ _))), e => absurd e (by simp)
/-- a text's data -/
theorem dpall_strs {K : PySem.W.Frag} {H : Hp} : ∀ zs : List Str, DpAll K H (zs.map V.str) (zs.map PyData.str)
  | [] => .nil
  | z :: zs => .cons (.str z) (dpall_strs zs)
/-- one of two walks -/
theorem pi_or {X : Cx} {tg e : Expr} {A B : TI} (ha : PI X tg e A) (hb : PI X tg e B) : PI X tg e (fun σ H R => A σ H R ∨ B σ H R) :=
  ⟨fun pins s σ H R I h => h.elim (ha.run pins s σ H R I) (hb.run pins s σ H R I)⟩
theorem take_at {α : Type} {xs : List α} {i : Nat} {x : α} (h : xs[i]? = some x) : xs.take (i + 1) = xs.take i ++ [x] := by
  rw [List.take_add_one, h]
  rfl
theorem ixN_nat {n j : Nat} (h : j < n) : ixN n (j : Int) = some j := by
  unfold ixN
  rw [if_pos (by omega), if_pos (by omega)]
  rfl
theorem len_is {α : Type} {xs : List α} (j : Nat) (c : decide (V.int ((xs.length : Nat) : Int) = V.int (j : Int)) = true) : xs.length = j := by
  have q := V.int.inj (of_decide_eq_true c)
  omega
theorem len_not {α : Type} {xs : List α} (j : Nat) (c : decide (V.int ((xs.length : Nat) : Int) = V.int (j : Int)) = false) : xs.length ≠ j := fun e => of_decide_eq_false c (by rw [e])
theorem len_isN {α : Type} {xs : List α} (j : Nat) (c : (!decide (V.int ((xs.length : Nat) : Int) = V.int (j : Int))) = false) : xs.length = j := by
  refine len_is j ?_
  revert c
  cases decide (V.int ((xs.length : Nat) : Int) = V.int (j : Int)) <;> intro q
  · cases q
  · rfl
theorem len_notN {α : Type} {xs : List α} (j : Nat) (c : (!decide (V.int ((xs.length : Nat) : Int) = V.int (j : Int))) = true) : xs.length ≠ j := by
  rintro e
  rw [e, decide_eq_true rfl] at c
  cases c
theorem lay_all {k : Nat} : ∀ {ds : List PyData}, (∀ d ∈ ds, d.canLay0 = true ∧ d.depth ≤ k) → PyData.canLayAll0 ds = true ∧ PyData.depthAll ds ≤ k
  | [], _ => ⟨rfl, Nat.zero_le _⟩
  | d :: ds, h => by
    obtain ⟨h1, h2⟩ := h d List.mem_cons_self
    obtain ⟨h3, h4⟩ := lay_all fun e he => h e (List.mem_cons_of_mem _ he)
    refine ⟨?_, ?_⟩
    · show (d.canLay0 && PyData.canLayAll0 ds) = true
      rw [h1, h3]
      rfl
    · show max d.depth (PyData.depthAll ds) ≤ k
      exact Nat.max_le.mpr ⟨h2, h4⟩
theorem list_shaped {ds : List PyData} (h : ∀ d ∈ ds, d.canLay0 = true ∧ d.depth ≤ 60) : SeqAt.shaped (.list ds) = true := by
  obtain ⟨h1, h2⟩ := lay_all h
  unfold SeqAt.shaped
  refine Bool.and_eq_true_iff.mpr ⟨h1, decide_eq_true ?_⟩
  show PyData.depthAll ds + 1 ≤ 64
  omega
end KX

set_option Elab.async false
set_option maxRecDepth 100000
set_option maxHeartbeats 2000000
/-! Names: texts of 1 to 8 letters a to z. -/
namespace KX
open PySem PySem.Spec PyProof.Rows L2
def isLet (c : Nat) : Bool := decide (97 ≤ c) && decide (c ≤ 122)
def isNm (z : Str) : Bool := decide (1 ≤ z.length) && decide (z.length ≤ 8) && z.cps.toList.all isLet
def nmD : PyData → Bool
  | .str z => isNm z
  | _ => false
def okN (d : PyData) : Prop := ∀ z, d = .str z → z.length ≤ 1000
theorem letters_eq : (("abcdefghijklmnopqrstuvwxyz" : Str)).cps.toList = [97, 98, 99, 100, 101, 102, 103, 104, 105, 106, 107, 108, 109, 110, 111, 112, 113, 114, 115, 116, 117, 118, 119, 120, 121, 122] := by decide +kernel
theorem mem_26 (c : Nat) : c ∈ ([97, 98, 99, 100, 101, 102, 103, 104, 105, 106, 107, 108, 109, 110, 111, 112, 113, 114, 115, 116, 117, 118, 119, 120, 121, 122] : List Nat) ↔ (97 ≤ c ∧ c ≤ 122) := by
  constructor
  · intro h
    have k : ∀ x ∈ ([97, 98, 99, 100, 101, 102, 103, 104, 105, 106, 107, 108, 109, 110, 111, 112, 113, 114, 115, 116, 117, 118, 119, 120, 121, 122] : List Nat), 97 ≤ x ∧ x ≤ 122 := by decide
    exact k c h
  · rintro ⟨h1, h2⟩
    obtain ⟨k, rfl⟩ : ∃ k, c = 97 + k := ⟨c - 97, by omega⟩
    have hk : k < 26 := by omega
    have z : ∀ k : Fin 26, 97 + k.val ∈ ([97, 98, 99, 100, 101, 102, 103, 104, 105, 106, 107, 108, 109, 110, 111, 112, 113, 114, 115, 116, 117, 118, 119, 120, 121, 122] : List Nat) := by decide
    exact z ⟨k, hk⟩
theorem mem_letters (c : Nat) : decide (c ∈ (("abcdefghijklmnopqrstuvwxyz" : Str)).cps.toList) = isLet c := by
  rw [letters_eq]
  unfold isLet
  by_cases h : 97 ≤ c ∧ c ≤ 122
  · rw [decide_eq_true h.1, decide_eq_true h.2]
    exact decide_eq_true ((mem_26 c).mpr h)
  · have e : (decide (97 ≤ c) && decide (c ≤ 122)) = false := by
      by_cases h1 : 97 ≤ c
      · rw [decide_eq_true h1, decide_eq_false (fun h2 => h ⟨h1, h2⟩)]
        rfl
      · rw [decide_eq_false h1]
        rfl
    rw [e]
    exact decide_eq_false fun q => h ((mem_26 c).mp q)
theorem one_lt (a b : Nat) : ([a] < [b]) ↔ a < b := by
  constructor
  · intro h
    rcases List.cons_lt_cons_iff.mp h with h | ⟨rfl, h⟩
    · exact h
    · exact absurd h (List.lt_irrefl _)
  · intro h
    exact List.cons_lt_cons_iff.mpr (.inl h)
theorem lo_let (c : Nat) : (!decide ((⟨#[c]⟩ : Str).cps.toList < (("a" : Str)).cps.toList)) = decide (97 ≤ c) := by
  have e : (("a" : Str)).cps.toList = [97] := by decide +kernel
  rw [e]
  show (!decide ([c] < [97])) = _
  by_cases h : 97 ≤ c
  · rw [decide_eq_true h, decide_eq_false (fun q => by have := (one_lt _ _).mp q; omega)]
    rfl
  · rw [decide_eq_false h, decide_eq_true ((one_lt _ _).mpr (by omega))]
    rfl
theorem hi_let (c : Nat) : (!decide ((("z" : Str)).cps.toList < (⟨#[c]⟩ : Str).cps.toList)) = decide (c ≤ 122) := by
  have e : (("z" : Str)).cps.toList = [122] := by decide +kernel
  rw [e]
  show (!decide ([122] < [c])) = _
  by_cases h : c ≤ 122
  · rw [decide_eq_true h, decide_eq_false (fun q => by have := (one_lt _ _).mp q; omega)]
    rfl
  · rw [decide_eq_false h, decide_eq_true ((one_lt _ _).mpr (by omega))]
    rfl
theorem nm_off {d : PyData} (h : isStrD d = false) : nmD d = false := by cases d <;> first | rfl | cases h
theorem nm_short {z : Str} (h : z.length < 1) : isNm z = false := by
  unfold isNm
  rw [decide_eq_false (by omega)]
  rfl
theorem nm_long {z : Str} (h : z.length > 8) : isNm z = false := by
  unfold isNm
  rw [decide_eq_false (show ¬ z.length ≤ 8 by omega), Bool.and_false]
  rfl
theorem nm_mid {z : Str} (h1 : ¬ z.length < 1) (h2 : ¬ z.length > 8) : isNm z = z.cps.toList.all isLet := by
  unfold isNm
  rw [decide_eq_true (by omega), decide_eq_true (by omega)]
  rfl
/-- what is promised of is_name -/
def spName (K : PySem.W.Frag) : Sp := fun vs H Q _ => ∃ (x : V) (d : PyData), vs = [x] ∧ Dp K H x d ∧ okN d ∧ ∀ H', Same H H' → Q (.bl (nmD d)) H'
def spInt (K : PySem.W.Frag) : Sp := fun vs H Q _ => ∃ (x : V) (d : PyData), vs = [x] ∧ Dp K H x d ∧ Q (.bl (isIntD d)) H
theorem str_dec (u v : Str) : decide (V.str u = V.str v) = decide (u = v) := by
  by_cases h : u = v
  · rw [h, decide_eq_true rfl, decide_eq_true rfl]
  · rw [decide_eq_false (fun q => h (V.str.inj q)), decide_eq_false h]
theorem str_dec' (u v : Str) : decide (V.str u = V.str v) = decide (v = u) := by
  rw [str_dec]
  by_cases h : u = v
  · rw [h]
  · rw [decide_eq_false h, decide_eq_false (fun q => h q.symm)]
end KX

set_option Elab.async false
set_option maxRecDepth 100000
set_option maxHeartbeats 2000000
/-! A walk over a thing that is a list or a tuple. -/
namespace KX
open PySem PySem.Spec PyProof.Rows L2
section
variable {X : Cx} {tg : Expr}
def Sq (K : PySem.W.Frag) (H : Hp) (a : Addr) (xs : List V) : Prop := SqL K H a xs ∨ SqT K H a xs
theorem Sq.same {K : PySem.W.Frag} {H H' : Hp} {a : Addr} {xs : List V} (s : Same H H') (h : Sq K H a xs) : Sq K H' a xs := h.imp (sqL_same s) (sqT_same s)
def iSeq (K : PySem.W.Frag) (tl : TE) : TI := fun σ H R => tl σ H fun x H1 => ∃ a xs, x = .ref a ∧ Sq K H1 a xs ∧ ∀ J, Walk J xs.length (fun G => Same H1 G) (YAt xs) → R J H1
theorem pi_seq {l : Expr} {tl : TE} (hl : PE X l tl) : PI X tg l (iSeq X.K tl) := by
  refine ⟨fun pins s σ H R I h => ?_⟩
  refine thn (hl.run pins s σ H _ I h) fun v s1 ⟨x, H1, I1, r1, q1⟩ => ?_
  obtain ⟨a, xs, e, hq, q⟩ := q1
  subst e
  cases r1
  rcases hq with hq | hq
  · obtain ⟨its, rv, p, hz⟩ := I1.list hq
    refine wpAny_pyIter_list p.isList ?_
    refine ⟨s1.heap.objs.size, [s1.heap.objs.size], _, _, H1, rfl, I1.kept (t' := s1.toks) fun b o e => Heap.get?_push_of_some _ e, turn_list a _, ⟨_, Heap.get?_push_size _ rfl, rfl, rfl⟩, fun b hb => ?_, q _ (walk_list.mono (fun G z => sqL_same z hq) fun _ _ _ _ _ _ y => y)⟩
    have e : b = s1.heap.objs.size := by simpa using hb
    subst e
    exact I1.fpOk (Nat.le_refl _) (I1.hok.fresh (Nat.le_refl _))
  · obtain ⟨its, rv, p, hz⟩ := I1.tuple hq
    refine wpAny_pyIter_tuple (show s1.heap.IsTuple a its.toArray from p) ?_
    refine ⟨s1.heap.objs.size, [s1.heap.objs.size], _, _, H1, rfl, I1.kept (t' := s1.toks) fun b o e => Heap.get?_push_of_some _ e, turn_tuple a _, ⟨_, Heap.get?_push_size _ rfl, rfl, rfl⟩, fun b hb => ?_, q _ (walk_tup.mono (fun G z => sqT_same z hq) fun _ _ _ _ _ _ y => y)⟩
    have e : b = s1.heap.objs.size := by simpa using hb
    subst e
    exact I1.fpOk (Nat.le_refl _) (I1.hok.fresh (Nat.le_refl _))
def iEnumS (K : PySem.W.Frag) (ta : TA) : TI := fun σ H R => ta σ H fun vs H1 => ∃ a xs, vs = [.ref a] ∧ Sq K H1 a xs ∧ ∀ J, Walk J xs.length (fun G => Same H1 G) (YPair (fun i => some (.int (i : Nat))) (fun i => xs[i]?)) → R J H1
theorem pi_enumS {e : Expr} {ta : TA} {p pos tpos : Pos} {elts : List Expr} {kk : Nat} (hg : Gl X "enumerate") (hm : X.mg "enumerate" = none) (ha : PA X [e] ta) (hs : starEach [e] X.env = [(false, eval e X.env)] := by rfl) :
    PI X (.Tuple elts kk tpos) (.Call (.Name "enumerate" p) [e] [] pos) (iEnumS X.K ta) := by
  refine ⟨fun pins s σ H R I h => Call_ (ld_blt I hg hm boot_enumerate (PyProof.Rows.callWith_type1 (thn (ha.run pos pins s σ H _ I h) fun us s1 hh => ?_) hs rfl))⟩
  obtain ⟨vs, H1, I1, r1, a, xs, rfl, hq, q⟩ := hh
  obtain rfl := Vals.ref1 r1
  rcases hq with hq | hq
  · obtain ⟨its, rv, p', hz⟩ := I1.list hq
    refine call_enumerate_list p'.isList fun h' he hit hsz hk => wpAny_pyIter_enum he ?_
    have I2 : Inv X pins σ H1 { s1 with heap := h' } := I1.kept (t' := s1.toks) hk
    refine ⟨s1.heap.objs.size + 1, [s1.heap.objs.size + 1, s1.heap.objs.size], _, _, H1, rfl, I2, turn_enum a (s1.heap.objs.size + 1) s1.heap.objs.size, ⟨⟨.none, he⟩, hit, Nat.succ_ne_self _⟩, fun b hb => ?_, q _ (walk_enum.mono (fun G z => sqL_same z hq) fun _ _ _ _ _ _ y => y)⟩
    have hle : s1.heap.objs.size ≤ b := by
      rcases List.mem_cons.mp hb with rfl | hb
      · exact Nat.le_succ _
      · rw [List.mem_singleton.mp hb]
        exact Nat.le_refl _
    exact I1.fpOk hle (I1.hok.fresh hle)
  · obtain ⟨its, rv, p', hz⟩ := I1.tuple hq
    refine enum_tup p' fun h' he hit hk => wpAny_pyIter_enum he ?_
    have I2 : Inv X pins σ H1 { s1 with heap := h' } := I1.kept (t' := s1.toks) hk
    refine ⟨s1.heap.objs.size + 1, [s1.heap.objs.size + 1, s1.heap.objs.size], _, _, H1, rfl, I2, turn_enumT a (s1.heap.objs.size + 1) s1.heap.objs.size, ⟨⟨.none, he⟩, hit, Nat.succ_ne_self _⟩, fun b hb => ?_, q _ (walk_enumT.mono (fun G z => sqT_same z hq) fun _ _ _ _ _ _ y => y)⟩
    have hle : s1.heap.objs.size ≤ b := by
      rcases List.mem_cons.mp hb with rfl | hb
      · exact Nat.le_succ _
      · rw [List.mem_singleton.mp hb]
        exact Nat.le_refl _
    exact I1.fpOk hle (I1.hok.fresh hle)
/-- xs[i] of a list or a tuple -/
theorem atI_len {α β : Type} (f : α → β) (xs : List α) (i : Int) : atI (xs.map f) i = (atI xs i).map f := by
  unfold atI
  rw [List.length_map]
  cases ixN xs.length i with
  | none => rfl
  | some j =>
    show (xs.map f)[j]? = (xs[j]?).map f
    rw [List.getElem?_map]
end
end KX
namespace KX
open PySem PySem.Spec PyProof.Rows L2
theorem ix_of {K : PySem.W.Frag} {H : Hp} {a : Addr} {xs : List V} {i : Int} {v : V} {Q : VK} (h : Sq K H a xs) (e : atI xs i = some v) (q : Q v H) : rIx K (.ref a) (.int i) H Q :=
  h.elim (fun h => .inl ⟨a, xs, i, v, rfl, rfl, h, e, q⟩) fun h => .inr (.inl ⟨a, xs, i, v, rfl, rfl, h, e, q⟩)
/-- the place ahead of i, around -/
def pred (n i : Nat) : Nat := if i = 0 then n - 1 else i - 1
theorem pred_lt {n i : Nat} (h : i < n) : pred n i < n := by unfold pred; split <;> omega
theorem ixN_pred {n i : Nat} (h : i < n) : ixN n ((i : Int) - 1) = some (pred n i) := by
  unfold ixN pred
  by_cases h0 : i = 0
  · subst h0
    rw [if_neg (by omega), if_pos (by omega), if_pos rfl]
    congr 1
    omega
  · rw [if_pos (by omega), if_pos (by omega), if_neg h0]
    congr 1
    omega
theorem atI_pred {α : Type} {xs : List α} {i : Nat} (h : i < xs.length) : atI xs ((i : Int) - 1) = xs[pred xs.length i]? := by
  unfold atI
  rw [ixN_pred h]
  rfl
theorem range_at {n i : Nat} : (List.range n).take n = List.range n := by rw [List.take_of_length_le (by rw [List.length_range]; exact Nat.le_refl _)]
theorem map_range_succ {α : Type} (f : Nat → α) (i : Nat) : (List.range (i + 1)).map f = (List.range i).map f ++ [f i] := by
  rw [List.range_succ, List.map_append]
  rfl
theorem walk_rng {n : Nat} : Walk (Itr 0 n) n (fun _ => True) (fun i H x H' => H' = H ∧ x = .int ((i : Nat) : Int)) :=
  walk_range.mono (fun _ h => h) fun i H x H' _ _ y => ⟨y.1, by rw [y.2]; show V.int (0 + (i : Int)) = _; rw [Int.zero_add]⟩
def rLenQ (K : PySem.W.Frag) : List V → Hp → VK → Prop := fun xs H Q => ∃ p ys, xs = [.ref p] ∧ (SqL K H p ys ∨ SqT K H p ys) ∧ Q (.int ys.length) H
end KX

set_option Elab.async false
set_option maxRecDepth 100000
set_option maxHeartbeats 2000000
/-! len, bool, abs, in, ==, >>, + of own instances, by own methods; max(.., default=). -/
namespace KX
open PySem PySem.Spec PySem.Calls PyProof.Rows L2
section
variable {X : Cx} {pins : List (Addr × Obj)} {σ : L2.St} {H : Hp} {s : Shared} {CX : CXT} {k : Nat} {f C : Addr} {fd : FuncData} {ps : List Str} {sp : Sp} {E : XK}
/-- f called by a built-in, one call deep -/
theorem run_in1 {us : List Value} {vs : List V} {Q : VK} (F : FnOk X.prog X.w X.K X.mg X.base CX k f fd ps sp) (hr : Room (k + 1) X.A) (hb : Binds X.K fd ps []) (hx : Passes CX X E) (I : Inv X pins σ H s) (r : Vals vs us) (h : sp vs H Q E) :
    wpAny (model X.prog X.w) X.A.in1 (call (.ref f) us) (EP X pins σ Q) X.xe s := by
  have hl : (us ++ []).length = ps.length := by
    rw [List.append_nil, ← r.length]
    exact F.len _ _ _ _ h
  have hbi := hb s us I.kIn hl
  rw [List.append_nil] at hbi
  refine wpAny_call (codeAny_mono (F.run X.A.in1 X.stack s H ⟨us, []⟩ us vs Q E hr.in1 I.env0.in1 hbi r h) fun res s' z => ?_)
  match res, z with
  | .error e, z => exact hx pins σ H s e s' I z
  | .ok (.ret u), z => exact I.after z
  | .ok .next, z => exact False.elim z
  | .ok .brk, z => exact False.elim z
  | .ok .cont, z => exact False.elim z
theorem run_in0 {us : List Value} {vs : List V} {Q : VK} (F : FnOk X.prog X.w X.K X.mg X.base CX k f fd ps sp) (hr : Room k X.A) (hb : Binds X.K fd ps []) (hx : Passes CX X E) (I : Inv X pins σ H s) (r : Vals vs us) (h : sp vs H Q E) :
    wpAny (model X.prog X.w) X.A (call (.ref f) us) (EP X pins σ Q) X.xe s :=
  run_fn (dvs := []) F hr hb .nil hx I r (by rw [List.append_nil]; exact h)
/-- an instance of C that H tracks -/
abbrev InsT (H : Hp) (a C : Addr) : Prop := ∃ dx fs, H a = some (.ins C dx fs)
theorem insT_at (I : Inv X pins σ H s) {a : Addr} (h : InsT H a C) : ∃ ox od, PySem.W.InstAt s.heap a ox C od := by
  obtain ⟨dx, fs, h⟩ := h
  obtain ⟨mA, O, _⟩ := ins_get I.hok h
  obtain ⟨od, J, _⟩ := O.look
  exact ⟨_, _, J⟩
/-- len(o) -/
theorem call_lenO (m : Meth X.K C "__len__" f) (F : FnOk X.prog X.w X.K X.mg X.base CX k f fd ps sp) (hr : Room (k + 1) X.A) (hb : Binds X.K fd ps []) (hx : Passes CX X E) :
    CallR X (.builtin "len") (fun xs H Q => ∃ a, xs = [.ref a] ∧ InsT H a C ∧ sp [.ref a] H (fun v H' => ∃ n : Nat, v = .int n ∧ n < 2 ^ 62 ∧ Q (.int n) H') E) := by
  intro pins s σ H xs us Q I r h
  obtain ⟨a, rfl, hi, q⟩ := h
  obtain rfl := Vals.ref1 r
  obtain ⟨ox, od, J⟩ := insT_at I hi
  obtain ⟨m', fr⟩ := I.fr
  refine PySem.W.len_K fr I.mod.kin J m.at_ m.fn (wpAny_mono (run_in1 F hr hb hx I r q) (fun u s' z => ?_) fun _ _ z => z)
  obtain ⟨v, H', I', rv, n, rfl, hn, q'⟩ := z
  obtain ⟨t, rfl⟩ := rv
  exact ⟨⟨by omega, by omega⟩, .int n, H', I'.tok _, ⟨_, rfl⟩, q'⟩
/-- the truth of o -/
theorem truthy_O (m : Meth X.K C "__bool__" f) (F : FnOk X.prog X.w X.K X.mg X.base CX k f fd ps sp) (hr : Room k X.A) (hb : Binds X.K fd ps []) (hx : Passes CX X E) {a : Addr} {Q : Bool → Hp → Prop} (I : Inv X pins σ H s) (hi : InsT H a C)
    (q : sp [.ref a] H (fun v H' => ∃ b, v = .bl b ∧ Q b H') E) : wpAny (model X.prog X.w) X.A (truthy (.ref a)) (TP X pins σ Q) X.xe s := by
  obtain ⟨ox, od, J⟩ := insT_at I hi
  obtain ⟨m', fr⟩ := I.fr
  refine PySem.W.truthy_K fr I.mod.kin J m.at_ m.fn (wpAny_mono (run_in0 F hr hb hx I (us := [.ref a]) (vs := [.ref a]) (.cons rfl .nil) q) (fun u s' z => ?_) fun _ _ z => z)
  obtain ⟨v, H', I', rv, b, rfl, q'⟩ := z
  cases (show u = Value.bool b from rv)
  exact ⟨H', I', q'⟩
/-- x in o -/
theorem op_inO (m : Meth X.K C "__contains__" f) (F : FnOk X.prog X.w X.K X.mg X.base CX k f fd ps sp) (hr : Room k X.A) (hb : Binds X.K fd ps []) (hx : Passes CX X E) :
    OpR X (compareOp .In) (fun x y H Q => ∃ a, y = .ref a ∧ InsT H a C ∧ sp [.ref a, x] H (fun v H' => ∃ b, v = .bl b ∧ Q (.bl b) H') E) := by
  intro pins s σ H x y v u Q I rx ry h
  obtain ⟨a, rfl, hi, q⟩ := h
  cases (show u = Value.ref a from ry)
  obtain ⟨ox, od, J⟩ := insT_at I hi
  obtain ⟨m', fr⟩ := I.fr
  refine PySem.W.in_K fr I.mod.kin J m.at_ m.fn (wpAny_mono (run_in0 F hr hb hx I (us := [.ref a, v]) (vs := [.ref a, x]) (.cons rfl (.cons rx .nil)) q) (fun u s' z => ?_) fun _ _ z => z)
  obtain ⟨v', H', I', rv, b, rfl, q'⟩ := z
  cases (show u = Value.bool b from rv)
  exact wpAny_truthy_bool ⟨.bl b, H', I', rfl, q'⟩
theorem op_notInO (m : Meth X.K C "__contains__" f) (F : FnOk X.prog X.w X.K X.mg X.base CX k f fd ps sp) (hr : Room k X.A) (hb : Binds X.K fd ps []) (hx : Passes CX X E) :
    OpR X (compareOp .NotIn) (fun x y H Q => ∃ a, y = .ref a ∧ InsT H a C ∧ sp [.ref a, x] H (fun v H' => ∃ b, v = .bl b ∧ Q (.bl (!b)) H') E) := by
  intro pins s σ H x y v u Q I rx ry h
  obtain ⟨a, rfl, hi, q⟩ := h
  cases (show u = Value.ref a from ry)
  obtain ⟨ox, od, J⟩ := insT_at I hi
  obtain ⟨m', fr⟩ := I.fr
  refine PySem.W.notIn_K fr I.mod.kin J m.at_ m.fn (wpAny_mono (run_in0 F hr hb hx I (us := [.ref a, v]) (vs := [.ref a, x]) (.cons rfl (.cons rx .nil)) q) (fun u s' z => ?_) fun _ _ z => z)
  obtain ⟨v', H', I', rv, b, rfl, q'⟩ := z
  cases (show u = Value.bool b from rv)
  exact wpAny_truthy_bool ⟨.bl (!b), H', I', rfl, q'⟩
/-- abs(o) -/
theorem call_absO (m : Meth X.K C "__abs__" f) (F : FnOk X.prog X.w X.K X.mg X.base CX k f fd ps sp) (hr : Room (k + 1) X.A) (hb : Binds X.K fd ps []) (hx : Passes CX X E) :
    CallR X (.builtin "abs") (fun xs H Q => ∃ a, xs = [.ref a] ∧ InsT H a C ∧ sp [.ref a] H Q E) := by
  intro pins s σ H xs us Q I r h
  obtain ⟨a, rfl, hi, q⟩ := h
  obtain rfl := Vals.ref1 r
  obtain ⟨ox, od, J⟩ := insT_at I hi
  refine call_function_entry kind_abs plain_abs entry_abs (args_abs _) ?_
  unfold Builtin.«abs»
  refine wpAny_bind (m := oneArg "abs" _) (wpAny_pure ?_)
  refine wpAny_bind (m := callSpecial? (.ref a) (Str.ofString "__abs__")) ?_
  refine PySem.W.special_fn I.kIn J m.at_ (beq_iff_eq.mp m.fn) ?_
  exact wpAny_mono (run_in1 F hr hb hx I r q) (fun u s' z => wpAny_pure ⟨u, rfl, z⟩) fun _ _ z => z
/-- max(xs, default=d), of whole numbers -/
def rMaxD (K : PySem.W.Frag) : List V → List V → Hp → VK → Prop := fun xs zs H Q => ∃ (a : Addr) (ns : List Int) (d : Int), xs = [.ref a] ∧ zs = [.int d] ∧ SqL K H a (ns.map V.int) ∧
  Q (.int (match ns with | [] => d | n :: r => r.foldl max n)) H
theorem cr_maxD (hc : X.calm = true) (hu : X.A.units + 64 < cLine) : CallRK X (.builtin "max") [Str.ofString "default"] (rMaxD X.K) := by
  intro pins s σ H xs zs us ws Q I r rz h
  obtain ⟨a, ns, d, rfl, rfl, hs, q⟩ := h
  obtain rfl := Vals.ref1 r
  obtain ⟨ud, rfl, td, rfl⟩ := vals1 rz
  obtain ⟨its, rv, hl, _⟩ := I.list hs
  obtain ⟨as, ra⟩ : ∃ as, ReadsAll s.heap its (ns.map PyData.int) as := by
    clear hs hl q
    rename_i hlen
    clear hlen
    induction ns generalizing its with
    | nil => cases rv; exact ⟨_, .nil⟩
    | cons n r ih =>
      cases rv with
      | cons h t =>
        obtain ⟨tk, rfl⟩ := h
        obtain ⟨as, ra⟩ := ih _ t
        exact ⟨_, .cons (.int _ _) ra⟩
  have dep : PyData.depthAll (ns.map PyData.int) = 0 := by
    clear ra hs q rv hl
    rename_i hlen
    clear hlen
    induction ns with
    | nil => rfl
    | cons n r ih => exact Nat.le_zero.mp (Nat.max_le.mpr ⟨Nat.le_refl _, Nat.le_of_eq ih⟩)
  refine PySem.W.max_list_default (I.ok.hd hc) hl.isList (by simpa using ra) ⟨fun x hx y hy => by
    obtain ⟨i, _, rfl⟩ := List.mem_map.mp hx
    obtain ⟨j, _, rfl⟩ := List.mem_map.mp hy
    rfl, fun x hx => by
    obtain ⟨i, _, rfl⟩ := List.mem_map.mp hx
    exact nofun⟩ (by rw [dep]; omega) (fun e h' tk kp => ?_) (fun y ys i v h' tk bs e hv hr kp => ?_)
  · have e0 : ns = [] := List.map_eq_nil_iff.mp e
    subst e0
    exact ⟨.int d, H, I.kept (t' := tk) kp, ⟨_, rfl⟩, q⟩
  · cases ns with
    | nil => cases e
    | cons n r =>
      cases e
      rw [PySem.W.maxD_ints] at hr
      cases hr
      exact ⟨.int _, H, I.kept (t' := tk) kp, ⟨_, rfl⟩, q⟩
/-- bool(o) -/
theorem bool_in {prog : Program} {w : World} (x : Value) : MeetsIn prog w (Builtin.«bool.__new__» ⟨[.type "bool", x], []⟩) (fun A R s => wpAny (model prog w) A.in1 (truthy x) (fun b s' => R (.ok (.ret (.bool b))) s') (fun e s' => R (.error e) s') s) :=
  .of_wp fun A R s h => by
    have f1 := F.conv_sub_bool
    obtain ⟨hp, g, d, tk, os⟩ := s
    repeat (any_goals (first | assumption | (with_reducible refine wpAny_bind (wpAny_mono h (fun b s' z => ?_) fun _ _ e => e)) | wp_step))
    exact ⟨_, rfl, z⟩
theorem op_eqO (m : Meth X.K C "__eq__" f) (F : FnOk X.prog X.w X.K X.mg X.base CX k f fd ps sp) (hr : Room k X.A) (hb : Binds X.K fd ps []) (hx : Passes CX X E) (hu : X.A.units < cLine) :
    OpR X (compareOp .Eq) (fun x y H Q => ∃ (a : Addr) (t : Value), x = .ref a ∧ InsT H a C ∧ TyX X.K H y t ∧ PySem.W.notFirst X.K C t = true ∧ sp [.ref a, y] H (fun v H' => ∃ b, v = .bl b ∧ Q (.bl b) H') E) := by
  intro pins s σ H x y v u Q I rx ry h
  obtain ⟨a, t, rfl, hi, ty, hn, q⟩ := h
  cases (show v = Value.ref a from rx)
  obtain ⟨ox, od, J⟩ := insT_at I hi
  obtain ⟨m', fr⟩ := I.fr
  obtain ⟨P, Z, p, _⟩ := kit_of I ry ty
  show wpAny _ _ (richCompare .Eq (.ref a) u) _ _ _
  refine PySem.W.cmp_K (op := .Eq) hu fr I.mod.kin J (Z.ty _ _ I.kIn p) hn m.at_ m.fn (wpAny_mono (run_in0 F hr hb hx I (us := [.ref a, u]) (vs := [.ref a, y]) (.cons rfl (.cons ry .nil)) q) (fun w s' z => ?_) fun _ _ z => z)
  obtain ⟨v', H', I', rv, b, rfl, q'⟩ := z
  cases (show w = Value.bool b from rv)
  exact ⟨.bl b, H', I', rfl, q'⟩
/-- bool(x), by the truth of x -/
theorem bool_of {x : Value} {Q : Bool → Hp → Prop} {R : VK} (h : wpAny (model X.prog X.w) X.A.in1.in1 (truthy x) (TP X pins σ Q) X.xe s) (q : ∀ b H', Q b H' → R (.bl b) H') : wpAny (model X.prog X.w) X.A (call (.type "bool") [x]) (EP X pins σ R) X.xe s :=
  callType_newIn F.called_bool F.newNe_bool (F.typeCall_bool_1 x) (F.newCall_bool_1 x) (fun obj => F.args_object_init_2 obj x) F.entry_bool_new (bool_in x) (wpAny_mono h (fun b s' z => by
    obtain ⟨H', I', q'⟩ := z
    exact ⟨PySem.typeIs_bool _ _, .bl b, H', I', rfl, q b H' q'⟩) fun _ _ z => z)
theorem run_in22 {us : List Value} {vs : List V} {Q : VK} (F : FnOk X.prog X.w X.K X.mg X.base CX k f fd ps sp) (hr : Room (k + 2) X.A) (hb : Binds X.K fd ps []) (hx : Passes CX X E) (I : Inv X pins σ H s) (r : Vals vs us) (h : sp vs H Q E) :
    wpAny (model X.prog X.w) X.A.in1.in1 (call (.ref f) us) (EP X pins σ Q) X.xe s := by
  have hl : (us ++ []).length = ps.length := by
    rw [List.append_nil, ← r.length]
    exact F.len _ _ _ _ h
  have hbi := hb s us I.kIn hl
  rw [List.append_nil] at hbi
  refine wpAny_call (codeAny_mono (F.run X.A.in1.in1 X.stack s H ⟨us, []⟩ us vs Q E hr.in1.in1 I.env0.in1.in1 hbi r h) fun res s' z => ?_)
  match res, z with
  | .error e, z => exact hx pins σ H s e s' I z
  | .ok (.ret u), z => exact I.after z
  | .ok .next, z => exact False.elim z
  | .ok .brk, z => exact False.elim z
  | .ok .cont, z => exact False.elim z
/-- bool(o) -/
theorem call_boolO (m : Meth X.K C "__bool__" f) (F : FnOk X.prog X.w X.K X.mg X.base CX k f fd ps sp) (hr : Room (k + 2) X.A) (hb : Binds X.K fd ps []) (hx : Passes CX X E) :
    CallR X (.type "bool") (fun xs H Q => ∃ a, xs = [.ref a] ∧ InsT H a C ∧ sp [.ref a] H (fun v H' => ∃ b, v = .bl b ∧ Q (.bl b) H') E) := by
  intro pins s σ H xs us Q I r h
  obtain ⟨a, rfl, hi, q⟩ := h
  obtain rfl := Vals.ref1 r
  obtain ⟨ox, od, J⟩ := insT_at I hi
  obtain ⟨m', fr⟩ := I.fr
  refine bool_of (Q := fun b H' => Q (.bl b) H') (PySem.W.truthy_K fr I.mod.kin J m.at_ m.fn (wpAny_mono (run_in22 F hr hb hx I r q) (fun u s' z => ?_) fun _ _ z => z)) fun b H' q => q
  obtain ⟨v, H', I', rv, b, rfl, q'⟩ := z
  cases (show u = Value.bool b from rv)
  exact ⟨H', I', q'⟩
/-- bool(t), t a tuple -/
theorem call_boolT : CallR X (.type "bool") (fun xs H Q => ∃ (a : Addr) (zs : List V), xs = [.ref a] ∧ SqT X.K H a zs ∧ Q (.bl (!zs.isEmpty)) H) := by
  intro pins s σ H xs us Q I r h
  obtain ⟨a, zs, rfl, hq, q⟩ := h
  obtain rfl := Vals.ref1 r
  obtain ⟨its, rv, pl, hz⟩ := I.tuple hq
  have hl := line63
  have hlen := rv.length
  exact bool_of (Q := fun b H' => Q (.bl b) H') (truthy_tuple pl (by simp only [List.size_toArray]; omega) ⟨H, I.tok _, by rw [isEmpty_of rv]; exact q⟩) fun b H' q => q
end
end KX

set_option Elab.async false
set_option maxRecDepth 100000
set_option maxHeartbeats 2000000
namespace KX
open PySem PySem.Spec PyProof.Rows L2
theorem call_isEdT {X : Cx} {a D d : Addr} {oe : Obj} {pn : List (Addr × Obj)} {bmB : List Value} {nid : String} (T : ExK X.K D bmB nid) (sp : PySem.W.specialIn X.K (.builtin "object.__class__") "__get__" = some (some (.builtin "getset_descriptor.__get__"))) (tk : PySem.W.takesIn X.K (.builtin "object.__class__") = some true)
    (hz : Zc (.ref D) (some d) oe) (hf : ∃ vs, oe.data = .fields vs) : CallR (X.suite a ((a, oe) :: pn)) (.builtin "isinstance") (fun xs H Q => (∃ fs, H d = some (.xd fs)) ∧ ∃ (tp : Addr) (cs : List V) (us : List Value) (b : Bool), xs = [.ref a, .ref tp] ∧ H tp = some (.tup cs) ∧ Paired ClsV cs us ∧ PySem.W.kitAny X.K (.ref D) us = some b ∧ Q (.bl b) H) := by
  intro pins s σ H xs us Q I r h
  obtain ⟨⟨fs, hd⟩, tp, cs, ws, b, rfl, hT, k, e, q⟩ := h
  obtain ⟨u1, u2, rfl, r1, r2⟩ := vals2 r
  cases (show u2 = Value.ref tp from r2)
  cases (show u1 = Value.ref a from r1)
  obtain ⟨_, its, rv, o, h1, h2, n, h3⟩ := (show ObjOk X.prog X.w H s.heap tp (.tup cs) from I.hok tp _ hT)
  obtain rfl := ClsV.all k rv
  obtain ⟨oc, od2, dt, sl⟩ := o
  simp only at h2 h3
  subst h2 h3
  obtain ⟨hget, _⟩ := I.pin (a, oe) (List.mem_append.mpr (.inl List.mem_cons_self))
  obtain ⟨vs, hv⟩ := hf
  have hx : ObjOk X.prog X.w H s.heap d (.xd fs) := I.hok d _ hd
  obtain ⟨mA, hns, rel⟩ := hx
  obtain ⟨od, ho, _⟩ := lookIn_ns hns
  obtain ⟨cd, hc, _⟩ := PySem.W.any_some T.hd
  have J : PySem.W.InstAt s.heap a oe D (some od) := ⟨hget, hz.1, by unfold PySem.W.notCls; rw [hv] <;> rfl, by rw [hz.2]; exact ho⟩
  exact PySem.W.kia_tup (PySem.W.kitx_exc (od := some od) (by rw [hc] <;> rfl) T.ga T.gg T.exC T.ha sp tk T.hm) I.kIn J h1 e (fun z => nomatch z) fun tk' => ⟨.bl b, H, I.tok tk', rfl, q⟩
theorem pss_only {X : Cx} {st : List Stmt} {p : Prop} {t : TS} (h : p → PSs X st t) : PSs X st (fun D σ H => p ∧ t D σ H) := ⟨fun pins s σ H D I q => (h q.1).run pins s σ H D I q.2⟩
theorem pss_no {X : Cx} {st : List Stmt} : PSs X st (fun _ _ _ => False) := ⟨fun _ _ _ _ _ _ q => q.elim⟩
def excBody : List Stmt → List Stmt
  | .Try _ (.ExceptHandler _ _ b _ :: _) _ _ _ :: _ => b
  | _ => []
/-- a suite told at the place where it is entered -/
def tsAt (X : Cx) (st : List Stmt) (a : Addr) (cls : Value) (d : Option Addr) : TS := fun D σ H => ∃ t, (∀ (oe : Obj) (pn : List (Addr × Obj)), L2N.Zn cls d oe → (∃ vs, oe.data = .fields vs) → PSs (X.suite a ((a, oe) :: pn)) st t) ∧ t D σ H
theorem tsAt_ok {X : Cx} {st : List Stmt} {a : Addr} {cls : Value} {d : Option Addr} {oe : Obj} {pn : List (Addr × Obj)} (hz : L2N.Zn cls d oe) (hf : ∃ vs, oe.data = .fields vs) : PSs (X.suite a ((a, oe) :: pn)) st (tsAt X st a cls d) :=
  ⟨fun pins s σ H D I q => (q.choose_spec.1 oe pn hz hf).run pins s σ H D I q.choose_spec.2⟩
theorem takesN0 {X : Cx} : L2N.Takes X (fun _ _ _ _ => False) := fun _ _ ⟨_, _, _, _, _, _, _, _, _, _, _, _, _, _, _, _, w⟩ => w.elim
end KX

set_option Elab.async false
set_option maxRecDepth 100000
set_option maxHeartbeats 2000000
/-! Defs called in an except suite that look at the exception itself: the promise is made for the pinned object p. -/
namespace KX
open PySem PySem.Spec PyProof.Rows L2 L2H
structure FnP0 (p : Addr × Obj) (P : Program) (w : World) (K : PySem.W.Frag) (mg : Str → Option Value) (base : Heap) (CX : CXT) (k : Nat) (f : Addr) (fd : FuncData) (ps : List Str) (sp : Sp) : Prop where
  len : ∀ vs H Q E, sp vs H Q E → vs.length = ps.length
  run : ∀ (A : Around) (outer : List Env) (s : Shared) (H : Hp) (args : Args) (us : List Value) (vs : List V) (Q : VK) (E : XK), RoomH k A → Hot1 A p → PinOk outer H s p → Env0 P w K mg base A outer s H → BindsTo s fd args (ps.zip us) → Vals vs us → sp vs H Q E →
    codeAny (model P w) A (.call (.ref f) args) (CR CX outer P w H s Q E) s
section
variable {p : Addr × Obj} {P : Program} {w : World} {K : PySem.W.Frag} {mg : Str → Option Value} {base : Heap} {CX : CXT} {k : Nat} {f : Addr} {x qual : Str} {params : Arguments} {body : List Stmt} {scope : Scope} {dvs : List V} {kws : List (Str × V)} {fd : FuncData} {N ps : List Str} {sp : Sp}
theorem fnP0_ok (F : FunD K x qual params body scope dvs kws f fd) (S : FnScope N ps scope) (len : ∀ vs H Q E, sp vs H Q E → vs.length = ps.length)
    (hb : ∀ (cdv : Value) (A : Around) (outer : List Env) (s : Shared) (H : Hp) (vs : List V) (Q : VK) (E : XK), Hot1 A p → RoomH k (A.deeper (envOfC qual scope s.heap.objs.size f cdv)) → sp vs H Q E →
      ∃ t, PSs (cxH CX P w K mg base N qual scope f cdv A outer s H E p) body t ∧ t { nx := fun _ H' => Q .non H', rt := Q } (start N vs) H) : FnP0 p P w K mg base CX (k + 1) f fd ps sp := by
  obtain ⟨oc, od, dV, kV, doc, pm, an, cdv, ct, osl, rfl, lk, hcd, _, _⟩ := F.ex
  refine ⟨len, fun A outer s H args us vs Q E hr hot hpin e0 bd r hsp => ?_⟩
  have hl := len _ _ _ _ hsp
  have KI : K.In s.heap := e0.mod.kin.keeps fun b o e => (e0.bs b o e).1
  have nl : s.heap.NoLimit := e0.mod.nolimit.keeps fun b o e => (e0.bs b o e).1
  have kinds : ∀ y ∈ ps.zip us, scope.names.lookup y.1 = some .local ∨ (scope.names.lookup y.1 = some .cell ∧ ((cellsFrom (s.heap.objs.size + 1) scope.names []).lookup y.1).isSome = true) := by
    rintro ⟨n, v⟩ hy
    exact (S.par n (List.of_mem_zip hy).1).imp id fun q => ⟨q, PySem.W.cellsFrom_some _ _ _ (.inl q)⟩
  refine codeAny_call_function hr.depth (KI _ _ lk) rfl S.co S.gen rfl (PySem.W.codeRec_of KI hcd) (bd _ _ _ _ ?_)
  refine wpAny_newFunctionEnv_cells S.kind kinds fun env he s1 xx => ?_
  subst he
  refine ⟨nl.keeps xx.toInCall.keep, codeAny_func ?_⟩
  obtain ⟨t, ht, hq⟩ := hb cdv A outer s H vs Q E hot (hr.deeper _) hsp
  have I : Inv (cxH CX P w K mg base N qual scope f cdv A outer s H E p) [] (L2.start N vs) H s1 := inv_startH S hpin e0 hl r xx
  refine wpAny_mono (ht.run [] s1 (L2.start N vs) H _ I hq) (fun fl s' hs => ?_) fun e s' hs => hs
  cases fl with
  | ret u =>
    obtain ⟨v, σ', H', J, rv, q⟩ := hs
    exact ⟨v, H', J.os, J.bare, J.base, J.hok, rv, q⟩
  | next =>
    obtain ⟨σ', H', J, q⟩ := hs
    exact ⟨V.non, H', J.os, J.bare, J.base, J.hok, rfl, q⟩
  | brk => exact False.elim hs.choose_spec.choose_spec.2
  | cont => exact False.elim hs.choose_spec.choose_spec.2
end
section
variable {X : Cx} {CX : CXT} {k : Nat} {f : Addr} {fd : FuncData} {ps : List Str} {sp : Sp} {E : L2.St → XK} {x : Str} {q pos : Pos} {e : Expr} {es : List Expr} {t : TA} {p : Addr × Obj}
theorem pe_callP0 (F : FnP0 p X.prog X.w X.K X.mg X.base CX k f fd ps sp) (hr : RoomH k X.A) (hot : Hot1 X.A p) (hp : p ∈ X.pn) (hg : Gl X x) (hm : X.mg x = some (.ref f)) (hk : PySem.W.keepIn X.K (.ref f) = true) (hb : Binds X.K fd ps []) (hx : ∀ σ, PassesAt CX X σ (E σ))
    (ha : PA X (e :: es) t) (hdb : (x == ("__debug__" : Str)) = false := by decide) (he : starEach (e :: es) X.env = (false, eval e X.env) :: starEach es X.env := by rfl) (hpl : (backTo pos (starEach es X.env)).any (·.1) = false := by rfl) :
    PE X (.Call (.Name x q) (e :: es) [] pos) (tCallS sp E t) := by
  refine ⟨fun pins s σ H Q I h => ?_⟩
  refine wpAny_Call_Name_kw (ld_glob I hg hm ?_ hdb)
  refine PySem.W.callWith_K (h₀ := X.base) I.ok.mod.kin hk (thn (ha.run pos pins s σ H _ I h) fun us s1 ⟨vs, H1, I1, r, hsp⟩ => ⟨I1.kIn, ?_⟩) he hpl
  have hl : us.length = ps.length := by rw [← r.length]; exact F.len _ _ _ _ hsp
  have b := hb s1 us I1.kIn (by rw [List.append_nil]; exact hl)
  rw [List.append_nil] at b
  have P1 := I1.pin p (List.mem_append_left _ hp)
  have hpin : PinOk X.stack H1 s1 p := ⟨P1.1, P1.2.1, fun hm => (List.mem_cons.mp (I1.stkSub p.1 hm)).elim P1.2.2.1 P1.2.2.2.1, P1.2.2.2.2⟩
  refine wpAny_call (codeAny_mono (F.run X.A X.stack s1 H1 ⟨us, []⟩ us vs Q (E σ) hr hot hpin I1.env0 b r hsp) fun r s' hq => ?_)
  cases r with
  | error e => exact hx σ pins H1 s1 e s' I1 hq
  | ok fl =>
    cases fl with
    | ret u => exact I1.after hq
    | next => exact False.elim hq
    | brk => exact False.elim hq
    | cont => exact False.elim hq
/-- isinstance of the pinned exception, of a class -/
theorem call_isEdG {a D d : Addr} {oe : Obj} {bmB : List Value} {nid : String} (hp : (a, oe) ∈ X.pn) (T : ExK X.K D bmB nid) (sp : PySem.W.specialIn X.K (.builtin "object.__class__") "__get__" = some (some (.builtin "getset_descriptor.__get__"))) (tk : PySem.W.takesIn X.K (.builtin "object.__class__") = some true)
    (hz : Zc (.ref D) (some d) oe) (hf : ∃ vs, oe.data = .fields vs) : CallR X (.builtin "isinstance") (fun xs H Q => (∃ fs, H d = some (.xd fs)) ∧ rIsE X.K D a xs H Q) := by
  intro pins s σ H xs us Q I r h
  obtain ⟨⟨fs, hd⟩, c, cv, b, rfl, hcv, e, q⟩ := h
  obtain ⟨u1, u2, rfl, rx, rt⟩ := vals2 r
  cases (show u1 = Value.ref a from rx)
  obtain rfl := hcv _ rt
  obtain ⟨hget, _⟩ := I.pin (a, oe) (List.mem_append_left _ hp)
  obtain ⟨vs, hv⟩ := hf
  obtain ⟨mA, hns, rel⟩ := (show ObjOk X.prog X.w H s.heap d (.xd fs) from I.hok d _ hd)
  obtain ⟨od, ho, _⟩ := lookIn_ns hns
  obtain ⟨cd, hc, _⟩ := PySem.W.any_some T.hd
  have J : PySem.W.InstAt s.heap a oe D (some od) := ⟨hget, hz.1, by unfold PySem.W.notCls; rw [hv] <;> rfl, by rw [hz.2]; exact ho⟩
  exact PySem.W.kia_one (PySem.W.kitx_exc (od := some od) (by rw [hc] <;> rfl) T.ga T.gg T.exC T.ha sp tk T.hm) I.kIn J e (fun z => nomatch z) fun tk' => ⟨.bl b, H, I.kept (t' := tk') fun _ _ z => z, rfl, q⟩
end
end KX

set_option Elab.async false
set_option maxRecDepth 100000
set_option maxHeartbeats 2000000
/-! What the written part says of an own exception class that stores: with its answers to isinstance and except. -/
namespace KX
open PySem PySem.Spec PyProof.Rows L2 He StX
structure Er (K : PySem.W.Frag) (c : Str) (bm : List Value) (nid : String) (flds : List Str) (own : List (Str × Bool)) (blt : List (String × Bool)) (exs : List (Str × Bool)) : Prop where
  T : ExK K (ga K c) bm nid
  X : XfC K (ga K c)
  ty : PySem.W.typeIn K (.ref (ga K c)) = some (.type "type")
  no : ∀ f ∈ flds, PySem.W.findIn K (.ref (ga K c)) f = some none
  iC : PySem.W.findIn K (.ref (ga K c)) "__init__" = some (some (.ref (ma K (ga K c) "__init__")))
  fn : PySem.W.isFn K (.ref (ma K (ga K c) "__init__")) = true
  kO : ∀ x ∈ own, PySem.W.kitOne K (.ref (ga K c)) (.ref (ga K x.1)) = some x.2
  kB : ∀ x ∈ blt, PySem.W.kitOne K (.ref (ga K c)) (.type x.1) = some x.2
  ex : ∀ x ∈ exs, PySem.W.exmOne K (.ref (ga K c)) (.ref (ga K x.1)) = some x.2
  sp : PySem.W.specialIn K (.builtin "object.__class__") "__get__" = some (some (.builtin "getset_descriptor.__get__"))
  tk : PySem.W.takesIn K (.builtin "object.__class__") = some true
def erB (K : PySem.W.Frag) (c : Str) (bm : List Value) (nid : String) (flds : List Str) (own : List (Str × Bool)) (blt : List (String × Bool)) (exs : List (Str × Bool)) : Bool :=
  let C := ga K c
  exkB K C bm nid && (xfB K C && (decide (PySem.W.typeIn K (.ref C) = some (.type "type")) && ((flds.all fun f => eqO (PySem.W.findIn K (.ref C) f) (some none)) && (eqO (PySem.W.findIn K (.ref C) "__init__") (some (some (.ref (ma K C "__init__")))) && (PySem.W.isFn K (.ref (ma K C "__init__"))
  && ((own.all fun x => decide (PySem.W.kitOne K (.ref C) (.ref (ga K x.1)) = some x.2)) && ((blt.all fun x => decide (PySem.W.kitOne K (.ref C) (.type x.1) = some x.2)) && ((exs.all fun x => decide (PySem.W.exmOne K (.ref C) (.ref (ga K x.1)) = some x.2))
  && (eqO (PySem.W.specialIn K (.builtin "object.__class__") "__get__") (some (some (.builtin "getset_descriptor.__get__"))) && decide (PySem.W.takesIn K (.builtin "object.__class__") = some true))))))))))
theorem er_of {K : PySem.W.Frag} {c : Str} {bm : List Value} {nid : String} {flds : List Str} {own : List (Str × Bool)} {blt : List (String × Bool)} {exs : List (Str × Bool)} (h : erB K c bm nid flds own blt exs = true) : Er K c bm nid flds own blt exs := by
  unfold erB at h
  obtain ⟨h1, h⟩ := Bool.and_eq_true_iff.mp h
  obtain ⟨h2, h⟩ := Bool.and_eq_true_iff.mp h
  obtain ⟨h3, h⟩ := Bool.and_eq_true_iff.mp h
  obtain ⟨h4, h⟩ := Bool.and_eq_true_iff.mp h
  obtain ⟨h5, h⟩ := Bool.and_eq_true_iff.mp h
  obtain ⟨h6, h⟩ := Bool.and_eq_true_iff.mp h
  obtain ⟨h7, h⟩ := Bool.and_eq_true_iff.mp h
  obtain ⟨h8, h⟩ := Bool.and_eq_true_iff.mp h
  obtain ⟨h9, h⟩ := Bool.and_eq_true_iff.mp h
  obtain ⟨h10, h11⟩ := Bool.and_eq_true_iff.mp h
  exact ⟨exkB_ok h1, xfB_ok h2, of_decide_eq_true h3, fun f hf => eqO_ok (List.all_eq_true.mp h4 f hf), eqO_ok h5, h6, fun x hx => of_decide_eq_true (List.all_eq_true.mp h7 x hx), fun x hx => of_decide_eq_true (List.all_eq_true.mp h8 x hx),
    fun x hx => of_decide_eq_true (List.all_eq_true.mp h9 x hx), eqO_ok h10, of_decide_eq_true h11⟩
end KX

set_option Elab.async false
set_option maxRecDepth 100000
set_option maxHeartbeats 0
namespace K33
open PySem PySem.Spec PyProof.Rows L2 He KX
def top (i : Nat) : Stmt := PySem.Challenge.pw_rowsinplace_k33_kinds_and_numbers.main.body.getD i (.Pass ⟨0, 0, 0, 0⟩)
def vT : List Value := [.type "ValueError", .type "Exception", .type "BaseException", .type "object"]
def frees : List Str := ["isinstance", "int", "str", "len", "tuple", "abs", "min", "repr", "zip", "ValueError"]
def gls : List Str := (["PlaceError", "BadOperation", "BadWorld", "BadKind", "OPERATIONS", "ARGUMENTS", "NEW", "SOME", "TWO_LISTS", "arguments_of", "Cast", "_is_there", "homes_of", "has_place", "standing_bounds", "place_bound", "worlds_of", "kinds_of", "numbers_of", "check_kind", "standing"] : List Str) ++ (["_law_pool", "_law_draw", "_law_worlds", "_law_there", "_law_kinds", "_law_numbers", "_law_answer", "_law_odd", "law"] : List Str)
abbrev ErBO (K : PySem.W.Frag) : Prop := Er K "BadOperation" vT "ValueError.__new__" ["op"] [("PlaceError", true), ("BadWorld", false)] [] [("BadOperation", true)]
abbrev ErBW (K : PySem.W.Frag) : Prop := Er K "BadWorld" vT "ValueError.__new__" ["world"] [("PlaceError", true), ("BadKind", false)] [] [("BadOperation", false), ("BadWorld", true)]
abbrev ErBK (K : PySem.W.Frag) : Prop := Er K "BadKind" vT "ValueError.__new__" ["kind"] [("PlaceError", true)] [("ValueError", true)] [("BadOperation", false), ("BadWorld", false), ("BadKind", true)]
def errB (K : PySem.W.Frag) : Bool := erB K "BadOperation" vT "ValueError.__new__" ["op"] [("PlaceError", true), ("BadWorld", false)] [] [("BadOperation", true)]
  && (erB K "BadWorld" vT "ValueError.__new__" ["world"] [("PlaceError", true), ("BadKind", false)] [] [("BadOperation", false), ("BadWorld", true)]
  && erB K "BadKind" vT "ValueError.__new__" ["kind"] [("PlaceError", true)] [("ValueError", true)] [("BadOperation", false), ("BadWorld", false), ("BadKind", true)])
def flds : List Str := ["lists", "list_of", "row_of", "homes", "named", "is_within"]
def castB (K : PySem.W.Frag) : Bool := (Fa.mkr "Cast").ok K && ((Fa.cls "Cast").ok K && flds.all fun f => (Fa.noat "Cast" f).ok K)
def ops : List Str := ["put", "add", "take", "move", "send", "top", "bottom", "up", "down", "swap"]
def isRef : Option (Option Value) → Bool
  | some (some (.ref _)) => true
  | _ => false
def conB (K : PySem.W.Frag) : Bool := tupB K (ga K "OPERATIONS") ops && (tupB K (ga K "NEW") ["put", "add"] && (tupB K (ga K "SOME") ["row", "next"] && (tupB K (ga K "TWO_LISTS") ["move", "send", "swap"] && ops.all fun o => isRef (PySem.W.nsIn K (ga K "ARGUMENTS") o))))
def chk (K : PySem.W.Frag) : Bool := errB K && (castB K && (conB K && ((frees.all fun x => (Fa.free x).ok K) && (gls.all fun x => (Fa.glo x).ok K))))
def initD (i : Nat) (c : Str) : DefD := ⟨(c, some "__init__"), "__init__", c ++ ".__init__", defArgs (inClass (top i) 0), defBody (inClass (top i) 0), defScope (inClass (top i) 0), [], []⟩
def fnD (i : Nat) (x : Str) : DefD := ⟨(x, none), x, x, defArgs (top i), defBody (top i), defScope (top i), [], []⟩
def fn : List DefD := [initD 2 "BadOperation", initD 3 "BadWorld", initD 4 "BadKind", fnD 9 "arguments_of", initD 11 "Cast", fnD 12 "_is_there", fnD 15 "homes_of", fnD 16 "has_place", fnD 17 "standing_bounds", fnD 18 "place_bound", fnD 21 "worlds_of", fnD 23 "kinds_of", fnD 24 "numbers_of", fnD 25 "check_kind", fnD 27 "standing",
  fnD 29 "_law_pool", fnD 30 "_law_draw", fnD 31 "_law_worlds", fnD 32 "_law_there", fnD 33 "_law_kinds", fnD 34 "_law_numbers", fnD 35 "_law_answer", fnD 36 "_law_odd", fnD 37 "law"]
def dics : List (Str × List Str) := [("ARGUMENTS", ops)]
abbrev R : PySem.W.OpenRow := PySem.W.OpenLaw.row PySem.Challenge.rw_rowsinplace_k33_kinds_and_numbers
abbrev hk : PySem.W.Hook := hookD 4 chk fn dics
def ob (s : PySem.W.SharedT) : (Bool × List FnW) × KeyT := lookD 4 chk fn dics (HandSHeadRun.getT s)
theorem ob_eq (s : PySem.W.SharedT) : ob s = hk.obs s.abs := lookD_eq (HandSHeadRun.getT_eq s)
def loose : List Str := (["PlaceError", "BadOperation", "BadWorld", "BadKind", "OPERATIONS", "ARGUMENTS", "NEW", "SOME", "TWO_LISTS", "arguments_of", "Cast", "_is_there", "homes_of", "has_place", "standing_bounds", "place_bound", "worlds_of", "kinds_of", "numbers_of", "check_kind", "standing"] : List Str) ++ (["_law_pool", "_law_draw", "_law_worlds", "_law_there", "_law_kinds", "_law_numbers", "_law_answer", "_law_odd"] : List Str)
theorem run1 (w : World) : HandSHeadRun.RunEq R (PySem.W.view R.prog [37]) hk ob 20000 loose (setF w true) := by
  intro os
  kernel_rfl
theorem run2 (w : World) : HandSHeadRun.RunEq R (PySem.W.view R.prog [37]) hk ob 20000 loose (setF w false) := by
  intro os
  kernel_rfl
theorem run (w : World) : HandSHeadRun.RunEq R (PySem.W.view R.prog [37]) hk ob 20000 loose w := run_two run1 run2 w
end K33

set_option Elab.async false
set_option maxRecDepth 100000
set_option maxHeartbeats 2000000
/-! Drawn names: what is promised of them, and their texts. -/
namespace KX
open PySem PySem.Spec PyProof.Rows L2
abbrev tlc (z : Str) : List Nat := z.cps.toList
theorem tlc_len (z : Str) : (tlc z).length = z.length := Array.length_toList
theorem tlc_app (x y : Str) : tlc (x ++ y) = tlc x ++ tlc y := Array.toList_append
theorem nm_inv {z : Str} (h : isNm z = true) : 1 ≤ z.length ∧ z.length ≤ 8 ∧ ∀ c ∈ tlc z, isLet c = true := by
  unfold isNm at h
  obtain ⟨h, h3⟩ := Bool.and_eq_true_iff.mp h
  obtain ⟨h1, h2⟩ := Bool.and_eq_true_iff.mp h
  exact ⟨of_decide_eq_true h1, of_decide_eq_true h2, List.all_eq_true.mp h3⟩
theorem nm_of {z : Str} (h1 : 1 ≤ z.length) (h2 : z.length ≤ 8) (h3 : ∀ c ∈ tlc z, isLet c = true) : isNm z = true := by
  unfold isNm
  rw [decide_eq_true h1, decide_eq_true h2, List.all_eq_true.mpr h3]
  rfl
theorem join0 : ∀ zs : List Nat, tlc (Str.join ⟨#[]⟩ (zs.map fun c => (⟨#[c]⟩ : Str))) = zs
  | [] => rfl
  | [c] => rfl
  | c :: d :: r => by
    have ih := join0 (d :: r)
    show tlc ((⟨#[c]⟩ : Str) ++ ⟨#[]⟩ ++ Str.join ⟨#[]⟩ ((d :: r).map fun c => (⟨#[c]⟩ : Str))) = _
    rw [tlc_app, tlc_app, ih]
    rfl
theorem letters_at : ∀ {j : Nat}, j < 26 → (("abcdefghijklmnopqrstuvwxyz" : Str)).cps.toList[j]? = some (97 + j) := by
  intro j h
  rw [letters_eq]
  have z : ∀ k : Fin 26, ([97, 98, 99, 100, 101, 102, 103, 104, 105, 106, 107, 108, 109, 110, 111, 112, 113, 114, 115, 116, 117, 118, 119, 120, 121, 122] : List Nat)[k.val]? = some (97 + k.val) := by decide
  exact z ⟨j, h⟩
theorem let_at {j : Nat} (h : j < 26) : isLet (97 + j) = true := by
  unfold isLet
  rw [decide_eq_true (by omega), decide_eq_true (by omega)]
  rfl
theorem inV_str (z : Str) (zs : List Str) : inV (.str z) (zs.map V.str) = decide (z ∈ zs) := by
  unfold inV
  rw [List.any_map]
  by_cases h : z ∈ zs
  · rw [decide_eq_true h]
    exact List.any_eq_true.mpr ⟨z, h, by show (z == z) = true; exact beq_self_eq_true z⟩
  · rw [decide_eq_false h]
    refine List.any_eq_false.mpr fun y hy => ?_
    show ¬ (y == z) = true
    rw [beq_iff_eq]
    rintro rfl
    exact h hy
theorem flat_strs (zs : List Str) : (zs.map V.str).all flatV = true := by
  rw [List.all_map]
  exact List.all_eq_true.mpr fun _ _ => rfl
theorem cutS_to {z : Str} {i : Nat} (h : i ≤ z.length) : tlc (cutS z none (some (i : Int))) = (tlc z).take i := by
  unfold cutS tlc
  rw [HT.sIx_none, HT.sIx_nat, List.drop_zero, Nat.min_eq_left h, Nat.sub_zero]
theorem cutS_from {z : Str} {i : Nat} (h : i ≤ z.length) : tlc (cutS z (some (i : Int)) none) = (tlc z).drop i := by
  unfold cutS tlc
  rw [HT.sIx_none, HT.sIx_nat, Nat.min_eq_left h]
  refine List.take_of_length_le ?_
  rw [List.length_drop, Array.length_toList]
  exact Nat.le_refl _
theorem nm_splice {one : Str} {at_ c : Nat} (h : isNm one = true) (ha : at_ < one.length) (hc : isLet c = true) : isNm (cutS one none (some (at_ : Int)) ++ ⟨#[c]⟩ ++ cutS one (some ((at_ : Int) + 1)) none) = true := by
  obtain ⟨h1, h2, h3⟩ := nm_inv h
  have e : tlc (cutS one none (some (at_ : Int)) ++ ⟨#[c]⟩ ++ cutS one (some ((at_ : Int) + 1)) none) = (tlc one).take at_ ++ [c] ++ (tlc one).drop (at_ + 1) := by
    rw [tlc_app, tlc_app, cutS_to (by omega)]
    congr 1
    exact cutS_from (i := at_ + 1) (by omega)
  have hl : (cutS one none (some (at_ : Int)) ++ ⟨#[c]⟩ ++ cutS one (some ((at_ : Int) + 1)) none).length = one.length := by
    rw [← tlc_len, e, List.length_append, List.length_append, List.length_take, List.length_drop, tlc_len]
    show min at_ one.length + 1 + (one.length - (at_ + 1)) = one.length
    omega
  refine nm_of (by omega) (by omega) fun d hd => ?_
  rw [e] at hd
  rcases List.mem_append.mp hd with hd | hd
  · rcases List.mem_append.mp hd with hd | hd
    · exact h3 d (List.mem_of_mem_take hd)
    · rw [List.mem_singleton.mp hd]
      exact hc
  · exact h3 d (List.mem_of_mem_drop hd)
theorem cutS_len (z : Str) (lo hi : Option Int) : (cutS z lo hi).length ≤ z.length := by
  rw [← tlc_len, ← tlc_len]
  unfold cutS tlc
  show (List.take _ (List.drop _ z.cps.toList)).length ≤ _
  rw [List.length_take, List.length_drop]
  omega
/-- _law_name -/
def spLName : Sp := fun vs H Q _ => ∃ (b : Addr) (n : Int), vs = [.ref b] ∧ Bag H b n ∧ n < 900000 ∧ ∀ z G, isNm z = true → Kept b H G → Bag G b (n + 9) → Q (.str z) G
/-- a new list of unlike names -/
def Names (b F : Addr) (H G : Hp) (zs : List Str) (m : Int) : Prop :=
  H F = none ∧ F ≠ b ∧ Kept b H G ∧ Bag G b m ∧ G F = some (.lst (zs.map V.str)) ∧ zs.Nodup ∧ ∀ z ∈ zs, isNm z = true
/-- _law_names -/
def spLNames : Sp := fun vs H Q _ => ∃ (b : Addr) (n : Int) (many : Nat), vs = [.ref b, .int (many : Int)] ∧ Bag H b n ∧ n < 800000 ∧ 1 ≤ many ∧ many ≤ 100 ∧ ∀ F zs G, Names b F H G zs (n + 20 * many) → 1 ≤ zs.length → zs.length ≤ many → Q (.ref F) G
/-- _law_numbers -/
def spLNums : Sp := fun vs H Q _ => ∃ (b : Addr) (n : Int) (many : Nat), vs = [.ref b, .int (many : Int)] ∧ Bag H b n ∧ n < 800000 ∧ 1 ≤ many ∧ many ≤ 100 ∧ ∀ F zs G, Names b F H G zs (n + 20 * many) → 1 ≤ zs.length → zs.length ≤ many + 1 → Q (.ref F) G
theorem seq_by {A B : TS} {D : Ends} {σ : L2.St} {H : Hp} (R : L2.St → Hp → Prop) (h2 : ∀ σ H, R σ H → B D σ H) (h1 : (∀ σ H, R σ H → B D σ H) → A { D with nx := fun σ H => B D σ H } σ H) : tSeq A B D σ H := h1 h2
theorem Bag.but {H G : Hp} {b : Addr} {m : Int} (k : But b H G) {x : Addr} (n : x ≠ b) : G x = H x := k x n
/-- within _law_names: the names found so far at F -/
structure LN (b F : Addr) (H G : Hp) (zs : List Str) (m : Int) : Prop where
  bag : Bag G b m
  fnd : G F = some (.lst (zs.map V.str))
  kept : Kept b H G
  ne : F ≠ b
  nd : zs.Nodup
  nm : ∀ z ∈ zs, isNm z = true
theorem LN.to {b F : Addr} {H G G' : Hp} {zs : List Str} {m m' : Int} (h : LN b F H G zs m) (k : Kept b G G') (hB : Bag G' b m') : LN b F H G' zs m' :=
  ⟨hB, k F _ h.ne h.fnd, h.kept.trans k, h.ne, h.nd, h.nm⟩
theorem LN.le {b F : Addr} {H G : Hp} {zs : List Str} {m m' : Int} (h : LN b F H G zs m) (q : m ≤ m') : LN b F H G zs m' := ⟨h.bag.mono q, h.fnd, h.kept, h.ne, h.nd, h.nm⟩
theorem LN.add {b F : Addr} {H G : Hp} {zs : List Str} {m : Int} {z : Str} (h : LN b F H G zs m) (hF : H F = none) (hz : isNm z = true) (n : z ∉ zs) : LN b F H (upd G F (.lst (zs.map V.str ++ [.str z]))) (zs ++ [z]) m := by
  refine ⟨h.bag.put h.ne, ?_, fun x o nx e => (upd_ne (ne_of_none e hF)).trans (h.kept x o nx e), h.ne, ?_, fun y hy => ?_⟩
  · rw [upd_same, List.map_append]
    rfl
  · refine List.nodup_append.mpr ⟨h.nd, by simp, fun x hx y hy => ?_⟩
    rw [List.mem_singleton.mp hy]
    rintro rfl
    exact n hx
  · rcases List.mem_append.mp hy with hy | hy
    · exact h.nm y hy
    · rw [List.mem_singleton.mp hy]
      exact hz
theorem atI_zero {α : Type} {xs : List α} (h : 0 < xs.length) : ∃ x, atI xs 0 = some x ∧ x ∈ xs := by
  match xs, h with
  | x :: r, _ => exact ⟨x, by unfold atI ixN; rw [if_pos (by decide), if_pos (by rw [List.length_cons]; omega)]; rfl, List.mem_cons_self⟩
theorem nm_line {z : Str} (h : isNm z = true) : z.length ≤ sizeLine := by
  have := (nm_inv h).2.1
  rw [sizeLine_eq]
  omega
theorem flt_take {α : Type} {xs : List α} {i : Nat} {x : α} {p : α → Bool} (h : xs[i]? = some x) : (xs.take (i + 1)).filter p = (xs.take i).filter p ++ (if p x = true then [x] else []) := by
  rw [take_at h, List.filter_append]
  congr 1
  by_cases e : p x = true
  · rw [if_pos e]
    exact List.filter_cons_of_pos e
  · rw [if_neg e]
    exact List.filter_cons_of_neg e
theorem ne_dec (u v : Str) : (!decide (V.str u = V.str v)) = decide (u ≠ v) := by
  rw [str_dec]
  by_cases h : u = v
  · rw [decide_eq_true h, decide_eq_false (fun q => q h)]
    rfl
  · rw [decide_eq_false h, decide_eq_true h]
    rfl
theorem atI_end {α : Type} {xs : List α} (h : 0 < xs.length) : ∃ x, atI xs (-1) = some x ∧ x ∈ xs := by
  have e : ixN xs.length (-1) = some (xs.length - 1) := by
    unfold ixN
    rw [if_neg (by decide), if_pos (by omega)]
    congr 1
    omega
  have hl : xs.length - 1 < xs.length := by omega
  refine ⟨xs[xs.length - 1], ?_, List.getElem_mem hl⟩
  unfold atI
  rw [e]
  exact List.getElem?_eq_getElem hl
theorem atI_map {α β : Type} {f : α → β} {xs : List α} {i : Int} {x : α} (h : atI xs i = some x) : atI (xs.map f) i = some (f x) := by
  rw [atI_len, h]
  rfl
theorem two_unlike {α : Type} : ∀ {xs : List α}, xs.Nodup → 2 ≤ xs.length → ∀ z, ∃ y ∈ xs, y ≠ z
  | x :: y :: r, h, _, z => by
    by_cases e : x = z
    · refine ⟨y, by simp, fun q => ?_⟩
      have := (List.nodup_cons.mp h).1
      rw [e, ← q] at this
      exact this (by simp)
    · exact ⟨x, by simp, e⟩
  | [_], _, h, _ => by simp at h
  | [], _, h, _ => by simp at h
theorem sum_le {m : Nat} : ∀ {ns : List Int}, (∀ x ∈ ns, x.natAbs ≤ m) → ns.sum.natAbs ≤ ns.length * m
  | [], _ => by simp
  | x :: r, h => by
    have h1 := h x List.mem_cons_self
    have h2 := sum_le (ns := r) fun y hy => h y (List.mem_cons_of_mem _ hy)
    rw [List.sum_cons, List.length_cons, Nat.succ_mul]
    omega
/-- a list that grows, made within -/
structure RD (b F : Addr) (H G : Hp) (rs : List Str) (m : Int) : Prop where
  bag : Bag G b m
  fnd : G F = some (.lst (rs.map V.str))
  kept : Kept b H G
  ne : F ≠ b
theorem RD.to {b F : Addr} {H G G' : Hp} {rs : List Str} {m m' : Int} (h : RD b F H G rs m) (k : Kept b G G') (hB : Bag G' b m') : RD b F H G' rs m' := ⟨hB, k F _ h.ne h.fnd, h.kept.trans k, h.ne⟩
theorem RD.le {b F : Addr} {H G : Hp} {rs : List Str} {m m' : Int} (h : RD b F H G rs m) (q : m ≤ m') : RD b F H G rs m' := ⟨h.bag.mono q, h.fnd, h.kept, h.ne⟩
theorem RD.set {b F : Addr} {H G : Hp} {rs qs : List Str} {m : Int} (h : RD b F H G rs m) (hF : H F = none) : RD b F H (upd G F (.lst (qs.map V.str))) qs m :=
  ⟨h.bag.put h.ne, upd_same, fun x o nx e => (upd_ne (ne_of_none e hF)).trans (h.kept x o nx e), h.ne⟩
end KX

set_option Elab.async false
set_option maxRecDepth 100000
set_option maxHeartbeats 2000000
/-! Bounds and rings, in plain words. -/
namespace KX
open PySem PySem.Spec PyProof.Rows L2
abbrev Bd := Str × Str × Int
/-- a bound, if it is one -/
def bd3 : PyData → Option Bd
  | .tuple [.str u, .str v, .int c] => if (isNm u && (isNm v && !decide (u = v))) = true then some (u, v, c) else none
  | _ => none
def bdD (d : PyData) : Bool := (bd3 d).isSome
def okBd (d : PyData) : Prop := ∀ ds, d = .tuple ds → ds.length ≤ 1000 ∧ ∀ e ∈ ds, okN e
def okRing (d : PyData) : Prop := ∀ ds, d = .list ds ∨ d = .tuple ds → ds.length ≤ 1000 ∧ ∀ e ∈ ds, okBd e
def jb (ts : List Bd) (i : Nat) : Bool :=
  match ts[pred ts.length i]?, ts[i]? with
  | some p, some q => decide (p.2.1 = q.1)
  | _, _ => false
def rgT (ts : List Bd) : Bool := (List.range ts.length).all (jb ts) && decide ((ts.map fun t => t.2.2).sum < 0)
def bdOf (d : PyData) : Bd := (bd3 d).getD (⟨#[]⟩, ⟨#[]⟩, 0)
def rgL (ds : List PyData) : Bool := ds.all bdD && rgT (ds.map bdOf)
def rgD : PyData → Bool
  | .list ds => rgL ds
  | .tuple ds => rgL ds
  | _ => false
theorem rg_nil : rgL [] = false := by
  show (true && ((List.range 0).all _ && decide (([] : List Int).sum < 0))) = false
  rfl
/-- a bound that stands at x -/
def BdAt (K : PySem.W.Frag) (H : Hp) (x : V) (t : Bd) : Prop := ∃ a, x = .ref a ∧ SqT K H a [.str t.1, .str t.2.1, .int t.2.2]
theorem bd3_inv {d : PyData} {t : Bd} (h : bd3 d = some t) : d = .tuple [.str t.1, .str t.2.1, .int t.2.2] ∧ isNm t.1 = true ∧ isNm t.2.1 = true ∧ t.1 ≠ t.2.1 := by
  unfold bd3 at h
  split at h
  · split at h
    · rename_i u v c hc
      cases h
      obtain ⟨h1, h2⟩ := Bool.and_eq_true_iff.mp hc
      obtain ⟨h2, h3⟩ := Bool.and_eq_true_iff.mp h2
      refine ⟨rfl, h1, h2, fun e => ?_⟩
      rw [decide_eq_true e] at h3
      cases h3
    · cases h
  · cases h
theorem dp_tup3 {K : PySem.W.Frag} {H : Hp} {x : V} {u v : Str} {c : Int} (h : Dp K H x (.tuple [.str u, .str v, .int c])) : BdAt K H x (u, v, c) := by
  cases h with
  | tup hS ha =>
    cases ha with
    | cons h1 ha =>
      cases ha with
      | cons h2 ha =>
        cases ha with
        | cons h3 ha =>
          cases ha
          cases h1
          cases h2
          cases h3
          exact ⟨_, rfl, hS⟩
theorem bd_at {K : PySem.W.Frag} {H : Hp} {x : V} {d : PyData} (h : Dp K H x d) (hb : bdD d = true) : BdAt K H x (bdOf d) := by
  unfold bdD at hb
  unfold bdOf
  cases e : bd3 d with
  | none =>
    rw [e] at hb
    cases hb
  | some t =>
    obtain ⟨rfl, _⟩ := bd3_inv e
    exact dp_tup3 h
theorem BdAt.same {K : PySem.W.Frag} {H H' : Hp} {x : V} {t : Bd} (s : Same H H') (h : BdAt K H x t) : BdAt K H' x t := h.imp fun a h => ⟨h.1, sqT_same s h.2⟩
theorem bd_off {d : PyData} (h : isTupD d = false) : bdD d = false := by cases d <;> first | rfl | cases h
theorem bd_len {ds : List PyData} (h : ds.length ≠ 3) : bdD (.tuple ds) = false := by
  unfold bdD
  cases e : bd3 (.tuple ds) with
  | none => rfl
  | some t =>
    have q := PyData.tuple.inj (bd3_inv e).1
    rw [q] at h
    exact absurd rfl h
/-- two texts are not the same one -/
def neS : PyData → PyData → Bool
  | .str u, .str v => !decide (u = v)
  | _, _ => true
/-- what bdD is, part by part -/
theorem bd_parts (a b c : PyData) : bdD (.tuple [a, b, c]) = (nmD a && (nmD b && (neS a b && isIntD c))) := by
  unfold bdD bd3
  cases a <;> try rfl
  rename_i u
  cases b <;> try (show (false : Bool) = (isNm u && (false && _)); cases isNm u <;> rfl)
  rename_i v
  cases c <;> try (show false = (isNm u && (isNm v && (!decide (u = v) && false))); cases isNm u <;> cases isNm v <;> cases decide (u = v) <;> rfl)
  show (if (isNm u && (isNm v && !decide (u = v))) = true then some ((u, v, _) : Bd) else none).isSome = (isNm u && (isNm v && (!decide (u = v) && true)))
  cases isNm u <;> cases isNm v <;> cases decide (u = v) <;> rfl
theorem bds_at {K : PySem.W.Frag} {H : Hp} {xs : List V} {ds : List PyData} {i : Nat} {x : V} (hA : DpAll K H xs ds) (hb : ds.all bdD = true) (h : xs[i]? = some x) : ∃ t, (ds.map bdOf)[i]? = some t ∧ BdAt K H x t := by
  obtain ⟨d, hd, hx⟩ := dpall_at hA h
  refine ⟨bdOf d, ?_, bd_at hx (List.all_eq_true.mp hb d (List.mem_of_getElem? hd))⟩
  rw [List.getElem?_map, hd]
  rfl
theorem jb_eq {ts : List Bd} {i : Nat} {p q : Bd} (hp : ts[pred ts.length i]? = some p) (hq : ts[i]? = some q) : jb ts i = decide (p.2.1 = q.1) := by
  unfold jb
  rw [hp, hq]
/-- what _law_is_round asks of a list of things -/
def okE (e : PyData) : Prop := okBd e ∧ e.canLay0 = true ∧ e.depth ≤ 60
def spRound (K : PySem.W.Frag) : Sp := fun vs H Q _ => ∃ (l : Addr) (xs : List V) (ds : List PyData), vs = [.ref l] ∧ SqL K H l xs ∧ DpAll K H xs ds ∧ ds.length ≤ 1000 ∧ (∀ e ∈ ds, okE e) ∧ ∀ H', Same H H' → Q (.bl (rgL ds)) H'
def spBound (K : PySem.W.Frag) : Sp := fun vs H Q _ => ∃ (x : V) (d : PyData), vs = [x] ∧ Dp K H x d ∧ okBd d ∧ ∀ H', Same H H' → Q (.bl (bdD d)) H'
def spOpp (K : PySem.W.Frag) : Sp := fun vs H Q _ => ∃ (a : Addr) (x y : V) (c : Int), vs = [.ref a] ∧ SqT K H a [x, y, .int c] ∧ ∀ p, H p = none → Q (.ref p) (upd H p (.tup [y, x, .int (-c - 1)]))
def spRing (K : PySem.W.Frag) : Sp := fun vs H Q _ => ∃ (x : V) (d : PyData), vs = [x] ∧ Dp K H x d ∧ okRing d ∧ ∀ H', Same H H' → Q (.bl (rgD d)) H'
/-- a bound's data, its constant not beyond m -/
def BdX (m : Nat) (d : PyData) : Prop := ∃ u v c, d = .tuple [.str u, .str v, .int c] ∧ isNm u = true ∧ isNm v = true ∧ c.natAbs ≤ m
/-- _law_round -/
def spRnd (K : PySem.W.Frag) : Sp := fun vs H Q _ => ∃ (b L : Addr) (n : Int) (zs : List Str), vs = [.ref b, .ref L] ∧ Bag H b n ∧ n < 700000 ∧ L ≠ b ∧ H L = some (.lst (zs.map V.str)) ∧ zs.Nodup ∧ 2 ≤ zs.length ∧ zs.length ≤ 100 ∧ (∀ z ∈ zs, isNm z = true) ∧
  ∀ R rs ds G, H R = none → R ≠ b → Kept b H G → Bag G b (n + 60) → G R = some (.lst rs) → DpAll K G rs ds → 1 ≤ ds.length → ds.length ≤ 8 → (∀ d ∈ ds, BdX (10 ^ 29) d) → Q (.ref R) G
/-- a bound's tuple, made within -/
def BdT (G : Hp) (x : V) (t : Bd) : Prop := ∃ a, x = .ref a ∧ G a = some (.tup [.str t.1, .str t.2.1, .int t.2.2])
theorem BdT.off {G : Hp} {x : V} {t : Bd} {R : Addr} {ys : List V} {o : HO} (h : BdT G x t) (e : G R = some (.lst ys)) : BdT (upd G R o) x t := by
  obtain ⟨a, rfl, ha⟩ := h
  refine ⟨a, rfl, (upd_ne ?_).trans ha⟩
  rintro rfl
  rw [e] at ha
  cases ha
theorem BdT.kept {b : Addr} {n : Int} {G G' : Hp} {x : V} {t : Bd} (h : BdT G x t) (hB : Bag G b n) (k : Kept b G G') : BdT G' x t := by
  obtain ⟨a, rfl, ha⟩ := h
  refine ⟨a, rfl, k a _ ?_ ha⟩
  rintro rfl
  obtain ⟨d, m, c, e, _⟩ := hB
  rw [e] at ha
  cases ha
theorem BdT.same {G G' : Hp} {x : V} {t : Bd} (h : BdT G x t) (k : Same G G') : BdT G' x t := h.imp fun a h => ⟨h.1, k _ _ h.2⟩
def bdX (t : Bd) : PyData := .tuple [.str t.1, .str t.2.1, .int t.2.2]
theorem bts_dp {K : PySem.W.Frag} {G : Hp} : ∀ {xs : List V} {ts : List Bd}, Paired (BdT G) xs ts → DpAll K G xs (ts.map bdX)
  | _, _, .nil => .nil
  | _, _, .cons h r => by
    obtain ⟨a, rfl, ha⟩ := h
    exact .cons (.tup (SqT.of ha) (.cons (.str _) (.cons (.str _) (.cons (.int _) .nil)))) (bts_dp r)
theorem pair_imp {α β : Type} {P Q : α → β → Prop} (h : ∀ x y, P x y → Q x y) : ∀ {xs : List α} {ys : List β}, Paired P xs ys → Paired Q xs ys
  | _, _, .nil => .nil
  | _, _, .cons a r => .cons (h _ _ a) (pair_imp h r)
theorem pair_snoc {α β : Type} {P : α → β → Prop} {x : α} {y : β} (h : P x y) : ∀ {xs : List α} {ys : List β}, Paired P xs ys → Paired P (xs ++ [x]) (ys ++ [y])
  | _, _, .nil => .cons h .nil
  | _, _, .cons a r => .cons a (pair_snoc h r)
theorem pair_len {α β : Type} {P : α → β → Prop} : ∀ {xs : List α} {ys : List β}, Paired P xs ys → xs.length = ys.length
  | _, _, .nil => rfl
  | _, _, .cons _ r => congrArg (· + 1) (pair_len r)
theorem cut_from {α : Type} (xs : List V) (i : Nat) (h : i ≤ xs.length) : cutV xs (some (i : Int)) none = xs.drop i := by
  unfold cutV
  rw [HT.sIx_none, HT.sIx_nat, Nat.min_eq_left h]
  refine List.take_of_length_le ?_
  rw [List.length_drop]
  exact Nat.le_refl _
end KX

set_option Elab.async false
set_option maxRecDepth 100000
set_option maxHeartbeats 2000000
/-! Small odd things: scalars, and lists and tuples of a few of them. -/
namespace KX
open PySem PySem.Spec PyProof.Rows L2
def ScD (m : Nat) : PyData → Prop
  | .none => True
  | .bool _ => True
  | .int i => i.natAbs ≤ m
  | .str z => z.length ≤ 100 ∧ ∀ c ∈ tlc z, c < 1000
  | _ => False
def ElX (m : Nat) (d : PyData) : Prop := ScD m d ∨ ∃ ds, ((d = .list ds ∧ ∃ z r, ds = .str z :: r) ∨ d = .tuple ds) ∧ ds.length ≤ 6 ∧ ∀ e ∈ ds, ScD m e
theorem ScD.mono {m m' : Nat} {d : PyData} (h : m ≤ m') (q : ScD m d) : ScD m' d := by
  cases d <;> first | exact q | exact Nat.le_trans q h
theorem ElX.mono {m m' : Nat} {d : PyData} (h : m ≤ m') (q : ElX m d) : ElX m' d := by
  rcases q with q | ⟨ds, e, hl, q⟩
  · exact .inl (q.mono h)
  · exact .inr ⟨ds, e, hl, fun x hx => (q x hx).mono h⟩
theorem nm_sc {m : Nat} {z : Str} (h : isNm z = true) : ScD m (.str z) := by
  obtain ⟨h1, h2, h3⟩ := nm_inv h
  refine ⟨by omega, fun c hc => ?_⟩
  have q := h3 c hc
  unfold isLet at q
  have := of_decide_eq_true (Bool.and_eq_true_iff.mp q).2
  exact Nat.lt_of_le_of_lt this (by decide)
theorem BdX.el {m : Nat} {d : PyData} (h : BdX m d) : ElX m d := by
  obtain ⟨u, v, c, rfl, hu, hv, hc⟩ := h
  refine .inr ⟨_, .inr rfl, by show 3 ≤ 6; decide, fun e he => ?_⟩
  rcases List.mem_cons.mp he with rfl | he
  · exact nm_sc hu
  rcases List.mem_cons.mp he with rfl | he
  · exact nm_sc hv
  rw [List.mem_singleton.mp he]
  exact hc
theorem sc_okN {m : Nat} {d : PyData} (h : ScD m d) : okN d := by
  rintro z rfl
  have := h.1
  omega
theorem str_ok {z : Str} (h : z.length ≤ 100 ∧ ∀ c ∈ tlc z, c < 1000) : PyData.canLay0 (.str z) = true := by
  show z.cps.all (· < 0x110000) = true
  rw [← Array.all_toList]
  exact List.all_eq_true.mpr fun c hc => decide_eq_true (Nat.lt_trans (h.2 c hc) (by decide))
theorem sc_lay {m : Nat} {d : PyData} (h : ScD m d) : d.canLay0 = true ∧ d.depth ≤ 0 := by
  cases d with
  | none => exact ⟨rfl, Nat.le_refl _⟩
  | bool => exact ⟨rfl, Nat.le_refl _⟩
  | int => exact ⟨rfl, Nat.le_refl _⟩
  | str z => exact ⟨str_ok h, Nat.le_refl _⟩
  | list => exact False.elim h
  | tuple => exact False.elim h
  | dict => exact False.elim h
theorem ElX.okE {m : Nat} {d : PyData} (h : ElX m d) : okE d := by
  rcases h with h | ⟨ds, e, hl, q⟩
  · refine ⟨fun ds e => ?_, (sc_lay h).1, Nat.le_trans (sc_lay h).2 (by decide)⟩
    subst e
    exact False.elim h
  · obtain ⟨l1, l2⟩ := lay_all (k := 0) fun x hx => sc_lay (q x hx)
    rcases e with ⟨rfl, _⟩ | rfl
    · exact ⟨fun es e => (nomatch e), l1, by show PyData.depthAll ds + 1 ≤ 60; omega⟩
    · refine ⟨fun es e => ?_, l1, by show PyData.depthAll ds + 1 ≤ 60; omega⟩
      cases e
      exact ⟨by omega, fun x hx => sc_okN (q x hx)⟩
theorem sc_small {m : Nat} {d : PyData} (hm : m < 10 ^ 40) (h : ScD m d) : Small d 0 1002 := by
  cases d with
  | none => exact ⟨rfl, rfl, Nat.le_refl _, by show ("None" : Str).length ≤ 1002; decide⟩
  | bool b => exact ⟨rfl, rfl, Nat.le_refl _, by cases b <;> (show (_ : Str).length ≤ 1002; decide)⟩
  | int i =>
    have hi : i.natAbs < 10 ^ 40 := Nat.lt_of_le_of_lt h hm
    refine ⟨decide_eq_true ?_, rfl, Nat.le_refl _, ?_⟩
    · have h2 : i.natAbs < 2 ^ 140 := Nat.lt_trans hi (by decide)
      exact Nat.lt_trans (PySem.Flt.log2_lt_of (by decide) h2) (by decide)
    · have q := int_text_length_le10 (k := 40) (by decide) hi
      show (Str.ofString (toString i)).length ≤ 1002
      rw [PySem.ofString_length]
      omega
  | str z =>
    refine ⟨rfl, rfl, Nat.le_refl _, ?_⟩
    have q := PySem.StrLaws.reprText_len z fun c hc => Nat.lt_trans (h.2 c hc) (by decide)
    have := h.1
    show (reprText z).length ≤ 1002
    omega
  | list => exact False.elim h
  | tuple => exact False.elim h
  | dict => exact False.elim h
theorem piled_le {m : Nat} : ∀ {ts : List Str}, (∀ t ∈ ts, t.length ≤ m) → piled ts ≤ ts.length * (m + 2)
  | [], _ => Nat.zero_le _
  | t :: r, h => by
    have h1 := h t List.mem_cons_self
    have h2 := piled_le (ts := r) fun u hu => h u (List.mem_cons_of_mem _ hu)
    rw [List.length_cons, Nat.succ_mul]
    simp only [piled, List.map_cons, List.sum_cons] at h2 ⊢
    omega
theorem tupleText_le {m : Nat} {ts : List Str} (h : ∀ t ∈ ts, t.length ≤ m) : (tupleText ts).length ≤ ts.length * (m + 2) + 4 := by
  unfold tupleText
  have e1 : (("(" : String) : Str).length = 1 := by decide
  have e2 : ((if ts.length == 1 then ",)" else ")" : String) : Str).length ≤ 2 := by split <;> decide
  rw [Str.length_append, Str.length_append]
  cases ts with
  | nil =>
    have : (Str.join ", " ([] : List Str)).length = 0 := rfl
    omega
  | cons x r =>
    have q := join_length_add (x :: r) (by simp)
    have p := piled_le h
    omega
theorem small_tuple {k n m : Nat} {ds : List PyData} (h : ∀ d ∈ ds, Small d k n) (hm : ds.length * (n + 2) + 4 ≤ m) : Small (.tuple ds) (k + 1) m := by
  obtain ⟨h1, h2, h3⟩ := small_all h
  refine ⟨h1, h2, Nat.succ_le_succ h3, Nat.le_trans (tupleText_le (m := n) fun t ht => ?_) (by rw [shownAll_len]; exact hm)⟩
  obtain ⟨d, hd, rfl⟩ := shownAll_mem ht
  exact (h d hd).ln
theorem Small.mono {d : PyData} {k k' n n' : Nat} (h : Small d k n) (hk : k ≤ k') (hn : n ≤ n') : Small d k' n' := ⟨h.sh, h.nd, Nat.le_trans h.dp hk, Nat.le_trans h.ln hn⟩
theorem ElX.small {m : Nat} {d : PyData} (hm : m < 10 ^ 40) (h : ElX m d) : Small d 1 6100 := by
  rcases h with h | ⟨ds, e, hl, q⟩
  · exact (sc_small hm h).mono (by decide) (by decide)
  · have hs : ∀ e ∈ ds, Small e 0 1002 := fun e he => sc_small hm (q e he)
    have hb : ds.length * (1002 + 2) ≤ 6 * 1004 := Nat.mul_le_mul_right _ hl
    rcases e with ⟨rfl, _⟩ | rfl
    · exact small_list hs (by omega)
    · exact small_tuple hs (by omega)
/-- what _law_changed makes -/
def spChg (K : PySem.W.Frag) : Sp := fun vs H Q _ => ∃ (b R L : Addr) (n : Int) (rs : List V) (ds : List PyData) (zs : List Str) (m : Nat), vs = [.ref b, .ref R, .ref L] ∧ Bag H b n ∧ n < 700000 ∧ R ≠ b ∧ L ≠ b ∧ H R = some (.lst rs) ∧ DpAll K H rs ds ∧ 1 ≤ ds.length ∧ ds.length ≤ 100 ∧ (∀ d ∈ ds, BdX m d) ∧
  H L = some (.lst (zs.map V.str)) ∧ 1 ≤ zs.length ∧ zs.length ≤ 100 ∧ (∀ z ∈ zs, isNm z = true) ∧
  ∀ F fs es G, H F = none → F ≠ b → Kept b H G → Bag G b (n + 3) → G F = some (.lst fs) → DpAll K G fs es → es.length ≤ 2 * ds.length → (∀ e ∈ es, ElX (m + 10 ^ 29) e) → Q (.ref F) G
theorem sc_any {K : PySem.W.Frag} {G G' : Hp} {m : Nat} {v : V} {d : PyData} (h : ScD m d) (q : Dp K G v d) : Dp K G' v d := by
  cases q with
  | non => exact .non
  | bl b => exact .bl b
  | int i => exact .int i
  | str x => exact .str x
  | lst => exact False.elim h
  | tup => exact False.elim h
theorem sc_anys {K : PySem.W.Frag} {G G' : Hp} {m : Nat} : ∀ {vs : List V} {ds : List PyData}, (∀ e ∈ ds, ScD m e) → DpAll K G vs ds → DpAll K G' vs ds
  | _, _, _, .nil => .nil
  | _, _, h, .cons a r => .cons (sc_any (h _ List.mem_cons_self) a) (sc_anys (fun e he => h e (List.mem_cons_of_mem _ he)) r)
/-- such a thing stands while all but the bag stands -/
theorem el_kept {K : PySem.W.Frag} {G G' : Hp} {b : Addr} {n : Int} {m : Nat} {v : V} {d : PyData} (hB : Bag G b n) (k : Kept b G G') (h : ElX m d) (q : Dp K G v d) : Dp K G' v d := by
  obtain ⟨bd, bm, bc, eb, _⟩ := hB
  rcases h with h | ⟨ds, e, hl, hs⟩
  · exact sc_any h q
  · rcases e with ⟨rfl, z, r, rfl⟩ | rfl
    · cases q with
      | lst hS hA =>
        refine .lst ?_ (sc_anys hs hA)
        cases hA with
        | cons h1 _ =>
          cases h1
          have hne : ∀ {a : Addr} {u : HO}, G a = some u → (∀ xs, u = .lst (.int bd :: xs) → False) → a ≠ b := by
            rintro a u h1 h2 rfl
            rw [eb] at h1
            exact h2 _ (Option.some.inj h1).symm
          rcases hS with (h | ⟨o2, h⟩) | h
          · exact .inl (.inl (k _ _ (hne h (fun _ z => nomatch z)) h))
          · exact .inl (.inr ⟨o2, k _ _ (hne h (fun _ z => nomatch z)) h⟩)
          · exact .inr h
    · cases q with
      | tup hS hA =>
        refine .tup ?_ (sc_anys hs hA)
        have hne : ∀ {a : Addr} {u : HO}, G a = some u → (∀ xs, u ≠ .lst xs) → a ≠ b := by
          rintro a u h1 h2 rfl
          rw [eb] at h1
          exact h2 _ (Option.some.inj h1).symm
        rcases hS with (h | ⟨o2, h⟩) | h
        · exact .inl (.inl (k _ _ (hne h (fun _ z => nomatch z)) h))
        · exact .inl (.inr ⟨o2, k _ _ (hne h (fun _ z => nomatch z)) h⟩)
        · exact .inr h
theorem els_kept {K : PySem.W.Frag} {G G' : Hp} {b : Addr} {n : Int} {m : Nat} (hB : Bag G b n) (k : Kept b G G') : ∀ {vs : List V} {ds : List PyData}, (∀ e ∈ ds, ElX m e) → DpAll K G vs ds → DpAll K G' vs ds
  | _, _, _, .nil => .nil
  | _, _, h, .cons a r => .cons (el_kept hB k (h _ List.mem_cons_self) a) (els_kept hB k (fun e he => h e (List.mem_cons_of_mem _ he)) r)
theorem el_bd {m : Nat} {d : PyData} (h : ElX m d) (q : bdD d = true) : BdX m d := by
  unfold bdD at q
  cases e : bd3 d with
  | none => rw [e] at q; cases q
  | some t =>
    obtain ⟨rfl, h1, h2, _⟩ := bd3_inv e
    refine ⟨t.1, t.2.1, t.2.2, rfl, h1, h2, ?_⟩
    rcases h with h | ⟨ds, e2, _, hs⟩
    · exact False.elim h
    · rcases e2 with ⟨e2, _⟩ | e2
      · cases e2
      · cases e2
        exact hs (.int t.2.2) (by simp)
end KX

set_option Elab.async false
set_option maxRecDepth 100000
set_option maxHeartbeats 2000000
/-! Facts that stand while nothing tracked changes (mv), or nothing but the bag (mb). -/
namespace KX
open PySem PySem.Spec PySem.Calls PyProof.Rows L2
theorem new_same {H G : Hp} {p : Addr} {o : HO} (e : upd H p o = G) (np : H p = none) : Same H G := e ▸ same_put np
theorem new_at {H G : Hp} {p : Addr} {o : HO} (e : upd H p o = G) : G p = some o := e ▸ upd_same
/-- a list at a, which is not the bag -/
structure LsA (b : Addr) (H : Hp) (a : Addr) (xs : List V) : Prop where
  ne : a ≠ b
  at_ : H a = some (.lst xs)
/-- what stood at first stands, and the bag is new -/
structure SmN (b : Addr) (H0 H : Hp) : Prop where
  no : H0 b = none
  sm : Same H0 H
theorem bag_nt {H : Hp} {b : Addr} {n : Int} (hB : Bag H b n) {a : Addr} {u : HO} (h : H a = some u) (q : ∀ xs, u ≠ .lst xs) : a ≠ b := by
  obtain ⟨d, m, c, e, _⟩ := hB
  rintro rfl
  rw [e] at h
  exact q _ (Option.some.inj h).symm
section
variable {K : PySem.W.Frag} {b a : Addr} {H G : Hp} {n : Int}
theorem _root_.Eq.mv {o : HO} (h : H a = some o) (s : Same H G) : G a = some o := s _ _ h
theorem _root_.L2.SqL.mv {xs : List V} (h : SqL K H a xs) (s : Same H G) : SqL K G a xs := s.seq h
theorem _root_.L2.SqT.mv {xs : List V} (h : SqT K H a xs) (s : Same H G) : SqT K G a xs := sqT_same s h
theorem _root_.L2.Dp.mv {x : V} {d : PyData} (h : Dp K H x d) (s : Same H G) : Dp K G x d := dp_same s _ _ h
theorem _root_.L2.DpAll.mv {xs : List V} {ds : List PyData} (h : DpAll K H xs ds) (s : Same H G) : DpAll K G xs ds := dps_same s _ _ h
theorem _root_.L2.Same.mv {H0 : Hp} (h : Same H0 H) (s : Same H G) : Same H0 G := h.trans s
theorem Bag.mv (h : Bag H b n) (s : Same H G) : Bag G b n := by obtain ⟨d, m, c, e, r⟩ := h; exact ⟨d, m, c, s _ _ e, r⟩
theorem LsA.mv {xs : List V} (h : LsA b H a xs) (s : Same H G) : LsA b G a xs := ⟨h.1, s _ _ h.2⟩
theorem SmN.mv {H0 : Hp} (h : SmN b H0 H) (s : Same H G) : SmN b H0 G := ⟨h.1, h.2.trans s⟩
theorem _root_.Eq.mb {o : HO} (h : H a = some o) (hB : Bag H b n) (k : Kept b H G) (q : ∀ xs, o ≠ .lst xs := by exact nofun) : G a = some o := k _ _ (bag_nt hB h q) h
theorem _root_.L2.SqT.mb {xs : List V} (h : SqT K H a xs) (hB : Bag H b n) (k : Kept b H G) : SqT K G a xs := by
  rcases h with (h | ⟨o2, h⟩) | h
  · exact .inl (.inl (k _ _ (bag_nt hB h nofun) h))
  · exact .inl (.inr ⟨o2, k _ _ (bag_nt hB h nofun) h⟩)
  · exact .inr h
theorem LsA.mb {xs : List V} (h : LsA b H a xs) (_ : Bag H b n) (k : Kept b H G) : LsA b G a xs := ⟨h.1, k _ _ h.1 h.2⟩
theorem SmN.mb {H0 : Hp} (h : SmN b H0 H) (_ : Bag H b n) (k : Kept b H G) : SmN b H0 G := ⟨h.1, fun x o e => k x o (ne_of_none e h.1) (h.2 _ _ e)⟩
end
theorem SmN.off {b D : Addr} {H0 H : Hp} {o : HO} (h : SmN b H0 H) (n : H0 D = none) : SmN b H0 (upd H D o) := ⟨h.1, fun y u e => (upd_ne (ne_of_none e n)).trans (h.2 _ _ e)⟩
theorem LsA.off {b a D : Addr} {H : Hp} {xs : List V} {o : HO} (h : LsA b H a xs) (n : a ≠ D) : LsA b (upd H D o) a xs := ⟨h.1, (upd_ne n).trans h.2⟩
theorem intsDp {K : PySem.W.Frag} {H : Hp} : ∀ zs : List Int, DpAll K H (zs.map V.int) (zs.map PyData.int)
  | [] => .nil
  | z :: r => .cons (.int z) (intsDp r)
theorem listSh {ds : List PyData} {k : Nat} (hk : k < 60) (h : ∀ d ∈ ds, d.canLay0 = true ∧ d.depth ≤ k) : SeqAt.shaped (.list ds) = true := by
  obtain ⟨l1, l2⟩ := lay_all (k := k) h
  exact Bool.and_eq_true_iff.mpr ⟨l1, decide_eq_true (by show PyData.depthAll ds + 1 ≤ _; omega)⟩
theorem tupSh {ds : List PyData} {k : Nat} (hk : k < 60) (h : ∀ d ∈ ds, d.canLay0 = true ∧ d.depth ≤ k) : SeqAt.shaped (.tuple ds) = true := by
  obtain ⟨l1, l2⟩ := lay_all (k := k) h
  exact Bool.and_eq_true_iff.mpr ⟨l1, decide_eq_true (by show PyData.depthAll ds + 1 ≤ _; omega)⟩
theorem intsSh (zs : List Int) : SeqAt.shaped (.list (zs.map PyData.int)) = true := listSh (k := 0) (by decide) fun d hd => by
  obtain ⟨z, _, rfl⟩ := List.mem_map.mp hd
  exact ⟨rfl, Nat.zero_le _⟩
theorem fresh_k {b p : Addr} {H G : Hp} (k : Kept b H G) (ne : p ≠ b) (n : G p = none) : H p = none := by
  cases e : H p with
  | none => rfl
  | some o => rw [k p o ne e] at n; cases n
theorem kept_upd {b p : Addr} {H G : Hp} {o : HO} (k : Kept b H G) (n : H p = none) : Kept b H (upd G p o) := fun x u ne e => (upd_ne (ne_of_none e n)).trans (k x u ne e)
theorem _root_.KX.Kept.mv {b : Addr} {H G G' : Hp} (k : Kept b H G) (s : Same G G') : Kept b H G' := fun x o ne e => s _ _ (k x o ne e)
theorem mergeK_new {kvs : List (Key × V)} (h : (kvs.map (·.1)).Nodup) : mergeK [] kvs = kvs := by
  have : ∀ (kvs acc : List (Key × V)), ((acc ++ kvs).map (·.1)).Nodup → mergeK acc kvs = acc ++ kvs := by
    intro kvs
    induction kvs with
    | nil => intro acc _; simp [mergeK]
    | cons kv r ih =>
      intro acc hn
      unfold mergeK
      rw [List.foldl_cons]
      have hnot : (acc.any fun x => decide (x.1 = kv.1)) = false := by
        rw [List.any_eq_false]
        intro x hx
        rw [List.map_append, List.nodup_append] at hn
        have := hn.2.2 x.1 (List.mem_map_of_mem hx) kv.1 (by simp)
        simpa using this
      have e : putK acc kv.1 kv.2 = acc ++ [kv] := by
        unfold putK
        rw [hnot]
        rfl
      rw [e]
      have := ih (acc ++ [kv]) (by rw [List.append_assoc]; exact hn)
      unfold mergeK at this
      rw [this, List.append_assoc]
      rfl
  have := this kvs [] (by simpa using h)
  simpa using this
/-- a new object, and all as it was -/
theorem LsA.new {b p : Addr} {H : Hp} {n : Int} {xs : List V} {G : Hp} (hB : Bag H b n) (np : H p = none) (h : G p = some (.lst xs)) : LsA b G p xs := ⟨hB.ne np, h⟩
section
variable {X : Cx} {CX : CXT} {k : Nat} {f C : Addr} {sp : Sp} {E : L2.St → XK} {x : Str} {e : Expr} {es : List Expr} {t : TA} {p pos : Pos}
/-- C(..) in a try: what is raised may be told by the slots -/
def tMakeRS (C : Addr) (sp : Sp) (E : L2.St → XK) (t : TA) : TE := fun σ H Q => t σ H fun vs H1 => ∀ x dx, H1 x = Option.none → H1 dx = Option.none → dx ≠ x →
  sp (V.ref x :: vs) (upd (upd H1 dx (.own x)) x (.ins C dx [])) (fun v H2 => v = .non ∧ Q (.ref x) H2) (E σ)
theorem run_makeRS {pins : List (Addr × Obj)} {σ : L2.St} {H : Hp} {s : Shared} {Q : VK} {us : List Value} {vs : List V} {E : XK} (M : Mk X.K C f) (F : FnR X.prog X.w X.K X.mg X.base CX k f sp) (hr : Room (k + 1) X.A) (hx : PassesAt CX X σ E) (I : Inv X pins σ H s) (r : Vals vs us)
    (h : ∀ x dx, H x = Option.none → H dx = Option.none → dx ≠ x → sp (V.ref x :: vs) (upd (upd H dx (.own x)) x (.ins C dx [])) (fun v H2 => v = .non ∧ Q (.ref x) H2) E) :
    wpAny (model X.prog X.w) X.A (call (.ref C) us) (EP X pins σ Q) X.xe s := by
  have hq := h (s.heap.objs.size + 1) s.heap.objs.size (I.hok.fresh (Nat.le_succ _)) (I.hok.fresh (Nat.le_refl _)) (Nat.ne_of_lt (Nat.lt_succ_self _))
  have I2 := Inv.made (C := C) I
  have r2 : Vals (V.ref (s.heap.objs.size + 1) :: vs) (Value.ref (s.heap.objs.size + 1) :: us) := .cons rfl r
  refine wpAny_call (make_map (f := f) I.kIn M.makes M.init (beq_iff_eq.mp M.fn) (codeAny_mono (F _ X.stack _ _ (Value.ref (s.heap.objs.size + 1) :: us) _ _ E (hr.make C us []) (I2.env0.make C us []) r2 hq) fun r s' hq' => ?_))
  cases r with
  | error e => exact hx pins _ _ e s' I2 hq'
  | ok fl =>
    cases fl with
    | ret u =>
      obtain ⟨v, H', I3, rv, ev, q3⟩ := I2.after hq'
      subst ev
      exact ⟨rv, ⟨V.ref (s.heap.objs.size + 1), H', I3, rfl, q3⟩⟩
    | next => exact False.elim hq'
    | brk => exact False.elim hq'
    | cont => exact False.elim hq'
theorem pe_makeRS (M : Mk X.K C f) (F : FnR X.prog X.w X.K X.mg X.base CX k f sp) (hr : Room (k + 1) X.A) (hg : Gl X x) (hm : X.mg x = some (.ref C)) (hx : ∀ σ, PassesAt CX X σ (E σ)) (ha : PA X (e :: es) t) (hdb : (x == ("__debug__" : Str)) = false := by decide)
    (he : starEach (e :: es) X.env = (false, eval e X.env) :: starEach es X.env := by rfl) (hpl : (backTo pos (starEach es X.env)).any (·.1) = false := by rfl) : PE X (.Call (.Name x p) (e :: es) [] pos) (tMakeRS C sp E t) := by
  refine ⟨fun pins s σ H Q I h => ?_⟩
  refine wpAny_Call_Name_kw (ld_glob I hg hm ?_ hdb)
  refine PySem.W.callWith_K (h₀ := X.base) I.ok.mod.kin M.kp (thn (ha.run pos pins s σ H _ I h) fun us s1 ⟨vs, H1, I1, r, q⟩ => ⟨I1.kIn, ?_⟩) he hpl
  exact run_makeRS M F hr (hx σ) I1 r q
theorem pe_makeR0S (M : Mk X.K C f) (F : FnR X.prog X.w X.K X.mg X.base CX k f sp) (hr : Room (k + 1) X.A) (hg : Gl X x) (hm : X.mg x = some (.ref C)) (hx : ∀ σ, PassesAt CX X σ (E σ))
    (hdb : (x == ("__debug__" : Str)) = false := by decide) : PE X (.Call (.Name x p) [] [] pos) (tMakeRS C sp E tNil) := by
  refine ⟨fun pins s σ H Q I h => ?_⟩
  refine wpAny_Call_Name_kw (ld_glob I hg hm ?_ hdb)
  exact PySem.W.callWith_K0 I.kIn M.kp (run_makeRS (us := []) M F hr (hx σ) I .nil h)
end
end KX

set_option Elab.async false
set_option maxRecDepth 100000
set_option maxHeartbeats 2000000
/-! The pool that a law draws from: what stands in it, what is promised of a draw. -/
namespace KX
open PySem PySem.Spec PyProof.Rows L2
/-- the pool at p, whose great numbers stand at g -/
def Pool (H : Hp) (p g : Addr) : Prop := ∃ (s : Addr) (c m : Int) (gs ss : List Int), H p = some (.lst [.int c, .int m, .ref g, .ref s]) ∧ 0 ≤ c ∧ 0 ≤ m ∧ m < 2147483647 ∧ H g = some (.lst (gs.map V.int)) ∧ (∀ x ∈ gs, 0 ≤ x) ∧ gs.length ≤ 63 ∧
  H s = some (.lst (ss.map V.int)) ∧ (∀ x ∈ ss, 0 ≤ x ∧ x < 10 ^ 18) ∧ 1 ≤ ss.length ∧ ss.length ≤ 64 ∧ p ≠ g ∧ p ≠ s ∧ g ≠ s
/-- what was tracked is as it was, but the pool -/
def KeptP (p g : Addr) (H H' : Hp) : Prop := ∀ x o, x ≠ p → x ≠ g → H x = some o → H' x = some o
theorem KeptP.refl (p g : Addr) (H : Hp) : KeptP p g H H := fun _ _ _ _ e => e
theorem KeptP.trans {p g : Addr} {H H1 H2 : Hp} (h : KeptP p g H H1) (k : KeptP p g H1 H2) : KeptP p g H H2 := fun x o n n2 e => k x o n n2 (h x o n n2 e)
theorem KeptP.same {p g : Addr} {H H1 H2 : Hp} (h : KeptP p g H H1) (k : Same H1 H2) : KeptP p g H H2 := fun x o n n2 e => k x o (h x o n n2 e)
theorem Pool.mv {H G : Hp} {p g : Addr} (h : Pool H p g) (k : Same H G) : Pool G p g := by
  obtain ⟨s, c, m, gs, ss, h1, h2, h3, h4, h5, h6, h7, h8, h9⟩ := h
  exact ⟨s, c, m, gs, ss, k _ _ h1, h2, h3, h4, k _ _ h5, h6, h7, k _ _ h8, h9⟩
theorem Pool.ne {H : Hp} {p g q : Addr} (h : Pool H p g) (hq : H q = none) : q ≠ p ∧ q ≠ g := by
  obtain ⟨s, c, m, gs, ss, h1, h2, h3, h4, h5, _⟩ := h
  exact ⟨(ne_of_none h1 hq).symm, (ne_of_none h5 hq).symm⟩
/-- what is no list stands while is drawn -/
theorem Pool.nt {H : Hp} {p g : Addr} (hB : Pool H p g) {a : Addr} {u : HO} (h : H a = some u) (q : ∀ xs, u ≠ .lst xs) : a ≠ p ∧ a ≠ g := by
  obtain ⟨s, c, m, gs, ss, h1, h2, h3, h4, h5, _⟩ := hB
  refine ⟨?_, ?_⟩
  · rintro rfl
    rw [h1] at h
    exact q _ (Option.some.inj h).symm
  · rintro rfl
    rw [h5] at h
    exact q _ (Option.some.inj h).symm
/-- _law_pool -/
def spPool (K : PySem.W.Frag) : Sp := fun vs H Q _ => ∃ (a : Addr) (ns : List Int), vs = [.ref a] ∧ SqL K H a (ns.map V.int) ∧ ns.length ≤ 63 ∧ ∀ p g G, H p = none → H g = none → Same H G → Pool G p g → Q (.ref p) G
/-- _law_draw -/
def spDrawP : Sp := fun vs H Q _ => ∃ (p g : Addr) (limit : Int), vs = [.ref p, .int limit] ∧ Pool H p g ∧ 0 < limit ∧ limit.natAbs < 2 ^ 200 ∧ ∀ (r : Int) (G : Hp), 0 ≤ r → r < limit → KeptP p g H G → Pool G p g → Q (.int r) G
end KX

set_option Elab.async false
set_option maxRecDepth 100000
set_option maxHeartbeats 2000000
namespace K33
open PySem PySem.Spec PyProof.Rows L2 He KX
abbrev FnP (K : PySem.W.Frag) (x : Str) (st : Stmt) (f : Addr) (fd : FuncData) : Prop := FunD K x x (defArgs st) (defBody st) (defScope st) [] [] f fd
abbrev sLPool : Stmt := top 29
abbrev sLDraw : Stmt := top 30
theorem yes {b : Bool} {A B : Prop} (h : b = true) (a : A) : if b = true then A else B := by rw [if_pos h]; exact a
theorem no {b : Bool} {A B : Prop} (h : b = false) (a : B) : if b = true then A else B := by rw [if_neg (by rw [h]; decide)]; exact a
theorem seq_by {A B : TS} {D : Ends} {σ : L2.St} {H : Hp} (R : L2.St → Hp → Prop) (h2 : ∀ σ H, R σ H → B D σ H) (h1 : (∀ σ H, R σ H → B D σ H) → A { D with nx := fun σ H => B D σ H } σ H) : tSeq A B D σ H := h1 h2
theorem a0 (x : Int) (r : List Int) : atI ((x :: r).map V.int) 0 = some (.int x) := atI_nat (j := 0) rfl
section
variable {P : Program} {w : World} {K : PySem.W.Frag} {mg : Str → Option Value} {base : Heap}
theorem scLDraw : FnScope ["pool", "limit", "small", "mixed", "great", "drawn"] ["pool", "limit"] (defScope sLDraw) := ⟨rfl, rfl, rfl, by decide +kernel, rfl, by decide +kernel, by decide +kernel⟩
theorem ok_drawP {f : Addr} {fd : FuncData} (F : FnP K "_law_draw" sLDraw f fd) (n_int : mg "int" = none) (n_len : mg "len" = none) : FnOk P w K mg base CX0 1 f fd ["pool", "limit"] spDrawP := by
  refine F.ok scLDraw (fun vs H Q E h => ?_) (fun cdv A outer s H vs Q E hr h => ?_)
  · obtain ⟨p, g, limit, rfl, _⟩ := h
    rfl
  · obtain ⟨p, g, limit, rfl, ⟨s0, c, m, gs, ss, hp, hc, hm0, hm, hg, hgs, hgl, hs, hss, hs1, hs2, npg, nps, ngs⟩, hl, hw, k⟩ := h
    have nd := scLDraw.nd
    have hu64 := hr.units
    have hu := Nat.lt_of_le_of_lt (Nat.add_le_add_left (by decide : 1 ≤ 64) _) hr.units
    refine ⟨_, PSs.nox (pss_cons (ps_asg (pe_op op_add (pe_ix ix_list (pv 0) pe_int (fun _ _ => rfl)) pe_int) (pg_sub (pv 0) pe_int set_list))
(pss_cons (ps_set (i := 2) nd rfl (Or.inl rfl) (pe_ix ix_list (pv 0) pe_int (fun _ _ => rfl)))
(pss_cons (ps_set (i := 3) nd rfl (Or.inl rfl) (pe_op op_add (pe_op op_mul (pe_ix ix_list (pv 0) pe_int (fun _ _ => rfl)) pe_int) (pe_op op_mul (pe_ix ix_list (pv 2) (pe_op op_modN (pe_ix ix_list (pv 0) pe_int (fun _ _ => rfl)) (pe_callB call_len_seq (by rfl) n_len PySem.boot_len (pa_cons (pv 2) pa_nil))) (fun _ _ => rfl)) pe_int)))
(pss_cons (ps_asg (pe_op op_modN (pe_callTy call_int1 (by rfl) n_int (by decide +kernel) (pa_cons (pe_op op_add (pe_op op_add (pv 3) (pe_op op_mul (pe_ix ix_list (pv 0) pe_int (fun _ _ => rfl)) pe_int)) pe_int) pa_nil)) pe_int) (pg_sub (pv 0) pe_int set_list))
(pss_cons (ps_set (i := 4) nd rfl (Or.inl rfl) (pe_ix ix_list (pv 0) pe_int (fun _ _ => rfl)))
(pss_cons (ps_while PassesOwn.never (PW.pt (pw_and (pt_cmpR (op_neD hu64) (pv 4) (pe_lst pa_nil) (nomark _)) (pw_and1 (pt_cmpR op_eq (pe_ix ix_list (pv 4) pe_int (fun _ _ => rfl)) pe_int (nomark _)))))
(pss_one (ps_expr (pe_bm PySem.F.plainAttrs_list PySem.F.slot_list_pop PySem.F.type_list_pop mt_popAt (pv 4) (pa_cons pe_int pa_nil)))))
(pss_cons (ps_if (pt_cmpR (op_eqD hu64) (pv 4) (pe_lst pa_nil) (nomark _))
(pss_one (ps_ret (pe_op op_modN (pe_callTy call_int1 (by rfl) n_int (by decide +kernel) (pa_cons (pe_op op_fdivN (pe_ix ix_list (pv 0) pe_int (fun _ _ => rfl)) pe_int) pa_nil)) (pv 1))))
pss_nil)
(pss_cons (ps_set (i := 5) nd rfl (Or.inl rfl) (pe_op op_modN (pe_callTy call_int1 (by rfl) n_int (by decide +kernel) (pa_cons (pe_ix ix_list (pv 4) pe_int (fun _ _ => rfl)) pa_nil)) (pv 1)))
(pss_cons (ps_asg (pe_op op_fdivW (pe_ix ix_list (pv 4) pe_int (fun _ _ => rfl)) (pv 1)) (pg_sub (pv 4) pe_int set_list))
(pss_one (ps_ret (pv 5)))))))))))), ?_⟩
    -- the count
    refine ⟨_, rfl, _, _, _, _, rfl, rfl, SqL.of hp, rfl, _, _, rfl, rfl, _, rfl, p, _, 0, _, rfl, rfl, hp, rfl, ?_⟩
    have hp1 : upd H p (.lst [.int (c + 1), .int m, .ref g, .ref s0]) p = some (.lst [.int (c + 1), .int m, .ref g, .ref s0]) := upd_same
    have hg1 := (upd_ne (H := H) (o := .lst [.int (c + 1), .int m, .ref g, .ref s0]) npg.symm).trans hg
    have hs1' := (upd_ne (H := H) (o := .lst [.int (c + 1), .int m, .ref g, .ref s0]) nps.symm).trans hs
    have kk : KeptP p g H (upd H p (.lst [.int (c + 1), .int m, .ref g, .ref s0])) := fun x o n _ e => (upd_ne n).trans e
    -- small, mixed
    obtain ⟨f1, f2⟩ := fmod_in (x := c + 1) (y := (ss.length : Int)) (by omega)
    obtain ⟨jx, hjx⟩ : ∃ j : Nat, (c + 1).fmod (ss.length : Int) = j := ⟨_, (Int.toNat_of_nonneg f1).symm⟩
    have hj : jx < ss.length := by omega
    have hx : atI (ss.map V.int) ((c + 1).fmod (ss.length : Int)) = some (.int ss[jx]) := by
      rw [hjx]
      exact atI_nat (by rw [List.getElem?_map, List.getElem?_eq_getElem hj]; rfl)
    have hmem := hss _ (List.getElem_mem hj)
    refine ⟨_, rfl, _, _, _, _, rfl, rfl, SqL.of hp1, rfl, ?_⟩
    dsimp only [gName, List.set]
    refine ⟨_, rfl, _, _, _, _, rfl, rfl, SqL.of hp1, rfl, _, _, rfl, rfl, .inr ⟨by decide, by decide⟩, _, rfl, _, rfl, _, _, _, _, rfl, rfl, SqL.of hp1, rfl, _, rfl, s0, _, rfl, .inl (SqL.of hs1'), _, _, rfl, rfl, (by rw [List.length_map]; omega), s0, _, _, _, rfl, rfl, SqL.of hs1', (by rw [List.length_map]; exact hx), _, _, rfl, rfl, .inr ⟨by decide, by decide⟩, _, _, rfl, rfl, ?_⟩
    refine ⟨_, rfl, _, rfl, _, _, _, _, rfl, rfl, SqL.of hp1, rfl, _, _, rfl, rfl, .inr ⟨by decide, by decide⟩, _, _, rfl, rfl, _, _, rfl, rfl, .inl ⟨_, rfl, _, _, rfl, rfl, (by show (2147483647 : Int) ≠ 0; decide), ?_⟩⟩
    have hp2 : upd (upd H p (.lst [.int (c + 1), .int m, .ref g, .ref s0])) p (.lst [.int (c + 1), .int ((m * 69621 + ss[jx] * 48271 + (c + 1) * 40503 + 977).fmod 2147483647), .ref g, .ref s0]) p = some (.lst [.int (c + 1), .int ((m * 69621 + ss[jx] * 48271 + (c + 1) * 40503 + 977).fmod 2147483647), .ref g, .ref s0]) := upd_same
    have hg2 := (upd_ne (o := .lst [.int (c + 1), .int ((m * 69621 + ss[jx] * 48271 + (c + 1) * 40503 + 977).fmod 2147483647), .ref g, .ref s0]) npg.symm).trans hg1
    have hs2' := (upd_ne (o := .lst [.int (c + 1), .int ((m * 69621 + ss[jx] * 48271 + (c + 1) * 40503 + 977).fmod 2147483647), .ref g, .ref s0]) nps.symm).trans hs1'
    have kk2 : KeptP p g H (upd (upd H p (.lst [.int (c + 1), .int m, .ref g, .ref s0])) p (.lst [.int (c + 1), .int ((m * 69621 + ss[jx] * 48271 + (c + 1) * 40503 + 977).fmod 2147483647), .ref g, .ref s0])) := fun x o n n2 e => (upd_ne n).trans (kk x o n n2 e)
    refine ⟨_, rfl, p, _, 1, _, rfl, rfl, hp1, rfl, ?_⟩
    refine ⟨_, rfl, _, _, _, _, rfl, rfl, SqL.of hp2, rfl, ?_⟩
    dsimp only [gName, List.set]
    obtain ⟨q1, q2⟩ := fmod_in (x := m * 69621 + ss[jx] * 48271 + (c + 1) * 40503 + 977) (y := 2147483647) (by decide)
    refine seq_by (fun σ G => ∃ (m2 : Int) (gs2 : List Int) (v3 v5 : Option V), σ = [some (.ref p), some (.int limit), some (.ref s0), v3, some (.ref g), v5] ∧ G p = some (.lst [.int (c + 1), .int m2, .ref g, .ref s0]) ∧ 0 ≤ m2 ∧ m2 < 2147483647 ∧ G g = some (.lst (gs2.map V.int)) ∧ (∀ x ∈ gs2, 0 ≤ x) ∧ gs2.length ≤ 63 ∧ G s0 = some (.lst (ss.map V.int)) ∧ KeptP p g H G) ?_ (fun nxt => ?_)
    · clear hp hg hs hp1 hg1 hs1' hp2 hg2 hs2' kk kk2 q1 q2 hgs hgl
      rintro σ G ⟨m2, gs2, v3, v5, rfl, hp, hm20, hm21, hg, hgs, hgl, hs, kk⟩
      refine ⟨_, rfl, by decide, fun E2 nE2 => ?_⟩
      generalize e_G2 : upd _ E2 _ = G2
      have s_E2 := new_same e_G2 nE2
      have f_E2 := new_at e_G2
      clear e_G2
      have hp := hp.mv s_E2
      have hg := hg.mv s_E2
      have hs := hs.mv s_E2
      have kk := kk.same s_E2
      refine ⟨_, _, .lst (SqL.of hg) (intsDp gs2), .lst (SqL.of f_E2) .nil, intsSh gs2, by decide, _, rfl, ?_⟩
      clear s_E2 f_E2 nE2
      cases gs2 with
      | nil =>
        refine yes rfl ?_
        refine ⟨_, rfl, _, _, _, _, rfl, rfl, SqL.of hp, rfl, _, _, rfl, rfl, ⟨by decide, by decide⟩, .inl ⟨_, rfl, _, rfl, _, _, rfl, rfl, (by omega), ?_⟩⟩
        exact k _ _ (fmod_in hl).1 (fmod_in hl).2 kk ⟨s0, c + 1, m2, [], ss, hp, by omega, hm20, hm21, hg, hgs, hgl, hs, hss, hs1, hs2, npg, nps, ngs⟩
      | cons x r =>
        refine no rfl ?_
        refine ⟨_, rfl, _, _, _, .int x, rfl, rfl, SqL.of hg, a0 x r, .inl ⟨_, rfl, _, rfl, _, _, rfl, rfl, (by omega), ?_⟩⟩
        dsimp only [gName, List.set]
        refine ⟨_, rfl, _, _, _, .int x, rfl, rfl, SqL.of hg, a0 x r, _, rfl, _, _, rfl, rfl, wide_div hl hw (by decide) (by decide), _, rfl, g, _, 0, 0, rfl, rfl, hg, ixN_nat (j := 0) (by rw [List.length_map]; exact Nat.succ_pos _), ?_⟩
        refine ⟨_, rfl, ?_⟩
        refine k _ _ (fmod_in hl).1 (fmod_in hl).2 (fun y o n n2 e => (upd_ne n2).trans (kk y o n n2 e)) ⟨s0, c + 1, m2, (x / limit) :: r, ss, (upd_ne npg).trans hp, by omega, hm20, hm21, upd_same, fun y hy => ?_, hgl, (upd_ne ngs.symm).trans hs, hss, hs1, hs2, npg, nps, ngs⟩
        rcases List.mem_cons.mp hy with rfl | hy
        · exact Int.ediv_nonneg (hgs x List.mem_cons_self) (by omega)
        · exact hgs y (List.mem_cons_of_mem _ hy)
    · refine ⟨fun n σ G => ∃ (gs2 : List Int) (v3 v5 : Option V), n = gs2.length ∧ σ = [some (.ref p), some (.int limit), some (.ref s0), v3, some (.ref g), v5] ∧ G p = some (.lst [.int (c + 1), .int ((m * 69621 + ss[jx] * 48271 + (c + 1) * 40503 + 977).fmod 2147483647), .ref g, .ref s0]) ∧ G g = some (.lst (gs2.map V.int)) ∧ (∀ x ∈ gs2, 0 ≤ x) ∧ gs2.length ≤ 63 ∧ G s0 = some (.lst (ss.map V.int)) ∧ KeptP p g H G, ⟨_, gs, _, _, rfl, rfl, hp2, hg2, hgs, hgl, hs2', kk2⟩, ?_⟩
      clear hp hg hs hp1 hg1 hs1' hp2 hg2 hs2' kk kk2 hgs hgl
      rintro n σ G ⟨gs2, v3, v5, rfl, rfl, hp, hg, hgs, hgl, hs, kk⟩
      refine ⟨_, rfl, by decide, fun E1 nE1 => ?_⟩
      generalize e_G2 : upd _ E1 _ = G2
      have s_E1 := new_same e_G2 nE1
      have f_E1 := new_at e_G2
      clear e_G2
      have hp := hp.mv s_E1
      have hg := hg.mv s_E1
      have hs := hs.mv s_E1
      have kk := kk.same s_E1
      refine ⟨_, _, .lst (SqL.of hg) (intsDp gs2), .lst (SqL.of f_E1) .nil, intsSh gs2, by decide, _, rfl, ?_⟩
      clear s_E1 f_E1 nE1
      cases gs2 with
      | nil =>
        refine no rfl (no rfl ?_)
        exact nxt _ _ ⟨_, [], v3, v5, rfl, hp, q1, q2, hg, hgs, hgl, hs, kk⟩
      | cons x r =>
        refine yes rfl ?_
        refine ⟨_, rfl, _, _, _, .int x, rfl, rfl, SqL.of hg, a0 x r, rfl, _, rfl, ?_⟩
        by_cases cx : x = 0
        · refine yes (decide_eq_true (congrArg V.int cx)) ?_
          refine ⟨_, fun _ _ h => h, ?_⟩
          refine ⟨_, rfl, .inl ⟨rfl, _, SqL.of hg⟩, g, (x :: r).map V.int, 0, 0, .int x, rfl, rfl, hg, by decide, by decide, seqIndex_of (k := 0) (by decide) (by rw [List.length_map, List.length_cons]; omega), rfl, ?_⟩
          refine ⟨r.length, Nat.lt_succ_self _, r, v3, v5, rfl, rfl, (upd_ne npg).trans hp, upd_same, fun y hy => hgs y (List.mem_cons_of_mem _ hy), by rw [List.length_cons] at hgl; omega, (upd_ne ngs.symm).trans hs, fun y o n n2 e => (upd_ne n2).trans (kk y o n n2 e)⟩
        · refine no (decide_eq_false fun e => cx (by injection e)) ?_
          exact nxt _ _ ⟨_, x :: r, v3, v5, rfl, hp, q1, q2, hg, hgs, hgl, hs, kk⟩
theorem scLPool : FnScope ["script", "great", "small", "cell", "number"] ["script"] (defScope sLPool) := ⟨rfl, rfl, rfl, by decide +kernel, rfl, by decide +kernel, by decide +kernel⟩
theorem ok_poolP {f : Addr} {fd : FuncData} (F : FnP K "_law_pool" sLPool f fd) (n_int : mg "int" = none) (n_len : mg "len" = none) (n_abs : mg "abs" = none) (n_min : mg "min" = none) : FnOk P w K mg base CX0 1 f fd ["script"] (spPool K) := by
  refine F.ok scLPool (fun vs H Q E h => ?_) (fun cdv A outer s H vs Q E hr h => ?_)
  · obtain ⟨a, ns, rfl, _⟩ := h
    rfl
  · obtain ⟨a, ns, rfl, hS, hl, k⟩ := h
    have nd := scLPool.nd
    have hu := Nat.lt_of_le_of_lt (Nat.add_le_add_left (by decide : 1 ≤ 64) _) hr.units
    refine ⟨_, PSs.nox (pss_cons (ps_set (i := 1) nd rfl (Or.inl rfl) (pe_lst pa_nil))
(pss_cons (ps_set (i := 2) nd rfl (Or.inl rfl) (pe_lst (pa_cons pe_int pa_nil)))
(pss_cons (ps_for PassesOwn.never rfl (pi_list (pe_slice sl_list (pv 0) po_none (po_some pe_int))) (pg_name (i := 3) nd rfl (Or.inl rfl))
(pss_cons (ps_set (i := 4) nd rfl (Or.inl rfl) (pe_op op_add (pe_op op_mul (pe_callB call_abs (by rfl) n_abs (by decide +kernel) (pa_cons (pe_callTy call_int1 (by rfl) n_int (by decide +kernel) (pa_cons (pv 3) pa_nil)) pa_nil)) pe_int) (pe_callTy call_int1 (by rfl) n_int (by decide +kernel) (pa_cons (pe_cmpR op_lt (pv 3) pe_int (nomark _)) pa_nil))))
(pss_one (ps_if (pt_cmpR op_ge (pv 4) (pe_op op_pow pe_int pe_int) (nomark _))
(pss_one (ps_expr (pe_bm PySem.F.plainAttrs_list PySem.F.slot_list_append PySem.F.type_list_append mt_append (pv 1) (pa_cons (pv 4) pa_nil))))
(pss_one (ps_expr (pe_bm PySem.F.plainAttrs_list PySem.F.slot_list_append PySem.F.type_list_append mt_append (pv 2) (pa_cons (pv 4) pa_nil))))))))
(pss_one (ps_ret (pe_lst (pa_cons pe_int (pa_cons pe_int (pa_cons (pv 1) (pa_cons (pe_slice sl_list (pv 2) (po_some (pe_callB (call_min2 rfl) (by rfl) n_min (by decide +kernel) (pa_cons pe_int (pa_cons (pe_op op_sub (pe_callB call_len_seq (by rfl) n_len PySem.boot_len (pa_cons (pv 2) pa_nil)) pe_int) pa_nil)))) po_none) pa_nil)))))))))), ?_⟩
    refine ⟨by decide, fun g ng => ?_⟩
    generalize e_G1 : upd _ g _ = G1
    have s_g := new_same e_G1 ng
    have f_g := new_at e_G1
    clear e_G1
    refine ⟨(by show 1 ≤ sizeLine; decide), fun t nt => ?_⟩
    have ntH := s_g.free nt
    have ngt : g ≠ t := ne_of_none f_g nt
    generalize e_G2 : upd _ t _ = G2
    have s_t := new_same e_G2 nt
    have f_t := new_at e_G2
    clear e_G2
    have s_g := s_g.mv s_t
    have f_g := f_g.mv s_t
    dsimp only [gName, List.set]
    refine ⟨_, rfl, _, rfl, a, _, rfl, s_g.seq hS, fun C nC => ?_⟩
    have nCH := s_g.free nC
    have nCg : g ≠ C := ne_of_none f_g nC
    have nCt : t ≠ C := ne_of_none f_t nC
    have ecut : cutV (ns.map V.int) none (some 63) = ns.map V.int := by
      unfold cutV
      rw [show (some 63 : Option Int) = some ((63 : Nat) : Int) from rfl, HT.sIx_nat, show HT.sIx (ns.map V.int).length 0 none = 0 from rfl, List.drop_zero]
      exact List.take_of_length_le (by rw [List.length_map]; omega)
    rw [ecut]
    generalize e_G3 : upd _ C _ = G3
    have s_C := new_same e_G3 nC
    have f_C := new_at e_G3
    clear e_G3
    have s_g := s_g.mv s_C
    have f_g := f_g.mv s_C
    have f_t := f_t.mv s_C
    refine ⟨C, rfl, ⟨_, SqL.of f_C⟩, ?_⟩
    refine for_it (walk_list (K := K) (a := C) (xs := ns.map V.int)) (fun j σ G => ∃ (v3 v4 : Option V) (gs ss : List Int), σ = [some (.ref a), some (.ref g), some (.ref t), v3, v4] ∧ Same H G ∧ G C = some (.lst (ns.map V.int)) ∧ G g = some (.lst (gs.map V.int)) ∧ (∀ x ∈ gs, 0 ≤ x) ∧ gs.length ≤ j ∧ G t = some (.lst ((0 :: ss).map V.int)) ∧ (∀ x ∈ ss, 0 ≤ x ∧ x < 10 ^ 18) ∧ ss.length ≤ j)
      ⟨_, _, [], [], rfl, s_g, f_C, f_g, (fun _ z => nomatch z), Nat.le_refl _, f_t, (fun _ z => nomatch z), Nat.le_refl _⟩ (fun _ _ _ _ h => by obtain ⟨_, _, _, _, _, _, q, _⟩ := h; exact SqL.of q) ?_ ?_
    · clear s_g f_g f_t f_C
      rintro j x σ G' G hj ⟨v3, v4, gs, ss, rfl, sH, hC, hg, hgs, hgl, ht, hss, hsl⟩ ⟨rfl, hx⟩
      obtain ⟨z, hz, rfl⟩ := Option.map_eq_some_iff.mp ((List.getElem?_map ..).symm.trans hx)
      rw [List.length_map] at hj
      dsimp only [gName, List.set]
      refine ⟨_, rfl, .inl ⟨_, rfl, _, rfl, _, _, rfl, rfl, .inr ⟨by decide, by decide⟩, ?_⟩⟩
      refine ⟨_, rfl, _, _, rfl, rfl, .inr ⟨_, rfl, _, _, rfl, rfl, ?_⟩⟩
      obtain ⟨nm, hnm⟩ : ∃ nm : Int, (if z < 0 then -z else z) * 2 + (if decide (z < 0) = true then 1 else 0) = nm := ⟨_, rfl⟩
      have hnm0 : 0 ≤ nm := by
        rw [← hnm]
        split <;> split <;> omega
      dsimp only [gName, List.set]
      rw [hnm]
      refine ⟨_, rfl, _, _, rfl, rfl, ⟨by decide, by decide, by decide⟩, _, _, rfl, rfl, _, rfl, ?_⟩
      have e18 : (10 : Int) ^ Int.toNat 18 = 10 ^ 18 := by decide
      rw [e18]
      by_cases c : (10 : Int) ^ 18 ≤ nm
      · refine yes (decide_eq_true c) ?_
        refine ⟨_, rfl, .inl ⟨rfl, _, SqL.of hg⟩, _, rfl, g, _, _, rfl, rfl, hg, by rw [List.length_map, sizeLine_eq]; omega, ?_⟩
        refine ⟨_, _, gs ++ [nm], ss, rfl, fun y o e => (upd_ne (ne_of_none e ng)).trans (sH _ _ e), (upd_ne nCg.symm).trans hC, by rw [upd_same, List.map_append]; rfl, fun y hy => (List.mem_append.mp hy).elim (hgs y) (fun h => by rw [List.mem_singleton.mp h]; exact hnm0), by rw [List.length_append]; show gs.length + 1 ≤ _; omega, (upd_ne ngt.symm).trans ht, hss, by omega⟩
      · refine no (decide_eq_false c) ?_
        refine ⟨_, rfl, .inl ⟨rfl, _, SqL.of ht⟩, _, rfl, t, _, _, rfl, rfl, ht, by rw [List.length_map, List.length_cons, sizeLine_eq]; omega, ?_⟩
        refine ⟨_, _, gs, ss ++ [nm], rfl, fun y o e => (upd_ne (ne_of_none e ntH)).trans (sH _ _ e), (upd_ne nCt.symm).trans hC, (upd_ne ngt).trans hg, hgs, by omega, by rw [upd_same, ← List.map_singleton, ← List.map_append]; rfl, fun y hy => (List.mem_append.mp hy).elim (hss y) (fun h => by rw [List.mem_singleton.mp h]; exact ⟨hnm0, by omega⟩), by rw [List.length_append]; show ss.length + 1 ≤ _; omega⟩
    · rintro σ G ⟨v3, v4, gs, ss, rfl, sH, hC, hg, hgs, hgl, ht, hss, hsl⟩
      rw [List.length_map] at hgl hsl
      refine ⟨_, rfl, _, rfl, _, rfl, t, _, rfl, .inl (SqL.of ht), _, _, rfl, rfl, _, _, rfl, _, rfl, t, _, rfl, SqL.of ht, fun S nS => ?_⟩
      obtain ⟨ss2, e2, hs2, h1, h2⟩ : ∃ ss2 : List Int, cutV ((0 :: ss).map V.int) (some (if (((0 :: ss).map V.int).length : Int) - 1 < 1 then (((0 :: ss).map V.int).length : Int) - 1 else 1)) none = ss2.map V.int ∧ (∀ x ∈ ss2, 0 ≤ x ∧ x < 10 ^ 18) ∧ 1 ≤ ss2.length ∧ ss2.length ≤ 64 := by
        cases ss with
        | nil => exact ⟨[0], rfl, fun x h => by rw [List.mem_singleton.mp h]; exact ⟨by decide, by decide⟩, by decide, by decide⟩
        | cons y r =>
          refine ⟨y :: r, ?_, hss, by rw [List.length_cons]; omega, by omega⟩
          rw [if_neg (by rw [List.length_map, List.length_cons, List.length_cons]; omega)]
          unfold cutV
          rw [show (some 1 : Option Int) = some ((1 : Nat) : Int) from rfl, HT.sIx_nat, HT.sIx_none, Nat.min_eq_left (by rw [List.length_map, List.length_cons]; omega), List.map_cons, List.drop_one, List.tail_cons, List.length_cons, Nat.add_sub_cancel]
          exact List.take_of_length_le (Nat.le_refl _)
      rw [e2]
      have nSH := sH.free nS
      have nSg : g ≠ S := ne_of_none hg nS
      generalize e_G4 : upd _ S _ = G4
      have s_S := new_same e_G4 nS
      have f_S := new_at e_G4
      clear e_G4
      have sH := sH.mv s_S
      have hg := hg.mv s_S
      refine ⟨(by show 4 ≤ sizeLine; decide), fun p np => ?_⟩
      have npH := sH.free np
      have npg : g ≠ p := ne_of_none hg np
      have npS : S ≠ p := ne_of_none f_S np
      generalize e_G5 : upd _ p _ = G5
      have s_p := new_same e_G5 np
      have f_p := new_at e_G5
      clear e_G5
      have sH := sH.mv s_p
      have hg := hg.mv s_p
      have f_S := f_S.mv s_p
      exact k p g G5 npH ng sH ⟨S, 0, 1, gs, ss2, f_p, by decide, by decide, by decide, hg, hgs, by omega, f_S, hs2, h1, h2, npg.symm, npS.symm, nSg⟩
end
end K33

set_option Elab.async false
set_option maxRecDepth 100000
set_option maxHeartbeats 2000000
/-! x in t, x not in t: data, t a tuple of data. -/
namespace KX
open PySem PySem.Spec PyProof.Rows L2
variable {X : Cx}
def rInDT (K : PySem.W.Frag) (neg : Bool) : R2 := fun x y H Q => ∃ d ds, Dp K H x d ∧ Dp K H y (.tuple ds) ∧ SeqAt.shaped d = true ∧ SeqAt.shaped (.tuple ds) = true ∧ Q (.bl (if neg then !ds.any fun z => PyData.eqv z d else ds.any fun z => PyData.eqv z d)) H
theorem op_inDT (hu : X.A.units + 65 < cLine) : OpR X (compareOp .In) (rInDT X.K false) := by
  intro pins s σ H x y v u Q I rx ry h
  obtain ⟨d, ds, hd, he, sd, se, q⟩ := h
  obtain ⟨as, r1⟩ := Dp.reads I d x v hd rx
  obtain ⟨bs, r2⟩ := Dp.reads I (.tuple ds) y u he ry
  exact SeqAt.in_tuple_reads r2 r1 (SeqAt.canLay_of_shaped se) (SeqAt.canLay_of_shaped sd) (room_in_shaped sd hu) ⟨.bl _, H, I, rfl, q⟩
theorem op_notInDT (hu : X.A.units + 65 < cLine) : OpR X (compareOp .NotIn) (rInDT X.K true) := by
  intro pins s σ H x y v u Q I rx ry h
  obtain ⟨d, ds, hd, he, sd, se, q⟩ := h
  obtain ⟨as, r1⟩ := Dp.reads I d x v hd rx
  obtain ⟨bs, r2⟩ := Dp.reads I (.tuple ds) y u he ry
  exact SeqAt.notIn_tuple_reads r2 r1 (SeqAt.canLay_of_shaped se) (SeqAt.canLay_of_shaped sd) (room_in_shaped sd hu) ⟨.bl _, H, I, rfl, q⟩
theorem strs_dp {K : PySem.W.Frag} {H : Hp} : ∀ zs : List Str, DpAll K H (zs.map V.str) (zs.map PyData.str)
  | [] => .nil
  | z :: r => .cons (.str z) (strs_dp r)
/-- is the thing one of the texts -/
def inS (zs : List Str) (d : PyData) : Bool := (zs.map PyData.str).any fun z => PyData.eqv z d
theorem inS_str (zs : List Str) (z : Str) : inS zs (.str z) = decide (z ∈ zs) := by
  unfold inS
  rw [List.any_map]
  by_cases h : z ∈ zs
  · rw [decide_eq_true h]
    exact List.any_eq_true.mpr ⟨z, h, by show (z == z) = true; exact beq_self_eq_true z⟩
  · rw [decide_eq_false h]
    refine List.any_eq_false.mpr fun y hy => ?_
    show ¬ (y == z) = true
    rw [beq_iff_eq]
    rintro rfl
    exact h hy
end KX

set_option Elab.async false
set_option maxRecDepth 100000
set_option maxHeartbeats 2000000
namespace K33
open PySem PySem.Spec PyProof.Rows L2 He KX StX
abbrev sBOI : Stmt := inClass (top 2) 0
abbrev sBWI : Stmt := inClass (top 3) 0
abbrev sBKI : Stmt := inClass (top 4) 0
abbrev sArg : Stmt := top 9
abbrev sWor : Stmt := top 21
def spX1 (C : Addr) (f : Str) : Sp := fun vs H Q _ => ∃ (a : Addr) (x : V) (H0 : Hp), vs = [.ref a, x] ∧ H = upd H0 a (exo a C none) ∧ H0 a = none ∧
  ∀ d H', H0 d = none → d ≠ a → H' a = some (exo a C (some d)) → H' d = some (exd d [(f, x)]) → (∀ y, y ≠ a → y ≠ d → H' y = H0 y) → Q .non H'
/-- what is raised: all that was there stands, and the exception's own dict -/
def Raised (C : Addr) (H : Hp) (fs : List (Str × V)) (E : XK) : Prop := ∀ d H', Same H H' → H' d = some (.xd fs) → E (.ref C) (some d) H'
theorem Raised.mv {C : Addr} {H J : Hp} {fs : List (Str × V)} {E : XK} (h : Raised C H fs E) (s : Same H J) : Raised C J fs E := fun d H' s2 e => h d H' (s.trans s2) e
theorem raised_at {C : Addr} {H : Hp} {fs : List (Str × V)} {E : XK} (h : Raised C H fs E) {e d : Addr} {H' : Hp} (he : H e = none) (hd : H d = none) (hne : d ≠ e) (h3 : ∀ y, y ≠ e → y ≠ d → H' y = H y) : E (.ref C) (some d) (upd (del H' e) d (.xd fs)) := by
  refine h d _ (fun b o q => ?_) upd_same
  have nb : b ≠ d := ne_of_none q hd
  have ne : b ≠ e := ne_of_none q he
  rw [upd_ne nb, del_ne ne, h3 b ne nb]
  exact q
theorem dp_str {K : PySem.W.Frag} {H : Hp} {v : V} {z : Str} (h : Dp K H v (.str z)) : v = .str z := by cases h; rfl
theorem inS_true {zs : List Str} {d : PyData} (h : inS zs d = true) : ∃ z ∈ zs, d = .str z := by
  unfold inS at h
  obtain ⟨x, hx, e⟩ := List.any_eq_true.mp h
  obtain ⟨z, hz, rfl⟩ := List.mem_map.mp hx
  cases d with
  | str y => exact ⟨z, hz, by rw [show z = y from beq_iff_eq.mp (show (z == y) = true from e)]⟩
  | _ => cases e
theorem strs_shaped {zs : List Str} (h : ∀ z ∈ zs, SeqAt.shaped (.str z) = true) : SeqAt.shaped (.tuple (zs.map PyData.str)) = true := tupSh (k := 0) (by decide) fun d hd => by
  obtain ⟨z, hz, rfl⟩ := List.mem_map.mp hd
  exact ⟨(Bool.and_eq_true_iff.mp (h z hz)).1, Nat.zero_le _⟩
section
variable {P : Program} {w : World} {K : PySem.W.Frag} {mg : Str → Option Value} {base : Heap}
theorem scBOI : FnScope ["self", "op"] ["self", "op"] (defScope sBOI) := ⟨rfl, rfl, rfl, by decide +kernel, rfl, by decide +kernel, by decide +kernel⟩
theorem scBWI : FnScope ["self", "world"] ["self", "world"] (defScope sBWI) := ⟨rfl, rfl, rfl, by decide +kernel, rfl, by decide +kernel, by decide +kernel⟩
theorem scBKI : FnScope ["self", "kind"] ["self", "kind"] (defScope sBKI) := ⟨rfl, rfl, rfl, by decide +kernel, rfl, by decide +kernel, by decide +kernel⟩
theorem ok_boi {f : Addr} {fd : FuncData} (F : FunD K "__init__" "BadOperation.__init__" (defArgs sBOI) (defBody sBOI) (defScope sBOI) [] [] f fd) (B : ErBO K) : FnOk P w K mg base CX0 1 f fd ["self", "op"] (spX1 (ga K "BadOperation") "op") := by
  refine F.ok scBOI (fun vs H Q E h => ?_) (fun cdv A outer s H vs Q E hr h => ?_)
  · obtain ⟨a, x, H0, rfl, _⟩ := h
    rfl
  · obtain ⟨a, x, H0, rfl, rfl, ha, k⟩ := h
    refine ⟨_, PSs.nox (pss_one (ps_st (pv 0) (pv 1))), ?_⟩
    refine ⟨_, rfl, _, rfl, a, _, _, _, rfl, B.T, bsV, B.no _ List.mem_cons_self, .inl ⟨upd_same, fun d hd hda => ?_⟩⟩
    exact k d _ ((upd_ne hda).symm.trans hd) hda upd_same ((upd_ne hda).trans upd_same) (fun x n1 n2 => (upd_ne n1).trans ((upd_ne n2).trans (upd_ne n1)))
theorem ok_bwi {f : Addr} {fd : FuncData} (F : FunD K "__init__" "BadWorld.__init__" (defArgs sBWI) (defBody sBWI) (defScope sBWI) [] [] f fd) (B : ErBW K) : FnOk P w K mg base CX0 1 f fd ["self", "world"] (spX1 (ga K "BadWorld") "world") := by
  refine F.ok scBWI (fun vs H Q E h => ?_) (fun cdv A outer s H vs Q E hr h => ?_)
  · obtain ⟨a, x, H0, rfl, _⟩ := h
    rfl
  · obtain ⟨a, x, H0, rfl, rfl, ha, k⟩ := h
    refine ⟨_, PSs.nox (pss_one (ps_st (pv 0) (pv 1))), ?_⟩
    refine ⟨_, rfl, _, rfl, a, _, _, _, rfl, B.T, bsV, B.no _ List.mem_cons_self, .inl ⟨upd_same, fun d hd hda => ?_⟩⟩
    exact k d _ ((upd_ne hda).symm.trans hd) hda upd_same ((upd_ne hda).trans upd_same) (fun x n1 n2 => (upd_ne n1).trans ((upd_ne n2).trans (upd_ne n1)))
theorem ok_bki {f : Addr} {fd : FuncData} (F : FunD K "__init__" "BadKind.__init__" (defArgs sBKI) (defBody sBKI) (defScope sBKI) [] [] f fd) (B : ErBK K) : FnOk P w K mg base CX0 1 f fd ["self", "kind"] (spX1 (ga K "BadKind") "kind") := by
  refine F.ok scBKI (fun vs H Q E h => ?_) (fun cdv A outer s H vs Q E hr h => ?_)
  · obtain ⟨a, x, H0, rfl, _⟩ := h
    rfl
  · obtain ⟨a, x, H0, rfl, rfl, ha, k⟩ := h
    refine ⟨_, PSs.nox (pss_one (ps_st (pv 0) (pv 1))), ?_⟩
    refine ⟨_, rfl, _, rfl, a, _, _, _, rfl, B.T, bsV, B.no _ List.mem_cons_self, .inl ⟨upd_same, fun d hd hda => ?_⟩⟩
    exact k d _ ((upd_ne hda).symm.trans hd) hda upd_same ((upd_ne hda).trans upd_same) (fun x n1 n2 => (upd_ne n1).trans ((upd_ne n2).trans (upd_ne n1)))
/-- arguments_of -/
def spArg (K : PySem.W.Frag) : Sp := fun vs H Q E => ∃ v d, vs = [v] ∧ Dp K H v d ∧ SeqAt.shaped d = true ∧ (inS ops d = true → ∀ u, Q u H) ∧ (inS ops d = false → Raised (ga K "BadOperation") H [("op", v)] E)
theorem ops_shaped : SeqAt.shaped (.tuple (ops.map PyData.str)) = true := by decide +kernel
theorem scArg : FnScope ["op"] ["op"] (defScope sArg) := ⟨rfl, rfl, rfl, by decide +kernel, rfl, by decide +kernel, by decide +kernel⟩
theorem ok_arg {f : Addr} {fd fdE : FuncData} (F : FnP K "arguments_of" sArg f fd) (BO : ErBO K) (gBO : mg "BadOperation" = some (.ref (ga K "BadOperation")))
    (FE : FunD K "__init__" "BadOperation.__init__" (defArgs sBOI) (defBody sBOI) (defScope sBOI) [] [] (ma K (ga K "BadOperation") "__init__") fdE)
    (hO : ∀ H, SqT K H (ga K "OPERATIONS") (ops.map V.str)) (gOPS : mg "OPERATIONS" = some (.ref (ga K "OPERATIONS"))) (hA : ∀ z ∈ ops, ∃ v, KDct K w (ga K "ARGUMENTS") z v) (gARG : mg "ARGUMENTS" = some (.ref (ga K "ARGUMENTS"))) :
    FnOk P w K mg base (L2N.CX P w) 3 f fd ["op"] (spArg K) := by
  have GE : FnOk P w K mg base CX0 1 (ma K (ga K "BadOperation") "__init__") fdE ["self", "op"] (spX1 (ga K "BadOperation") "op") := ok_boi FE BO
  have bE : Binds K fdE ["self", "op"] [] := FE.bindsN fun _ _ _ _ _ _ us hl => match us, hl with | [_, _], _ => rfl
  refine F.ok scArg (fun vs H Q E h => ?_) (fun cdv A outer s H vs Q E hr h => ?_)
  · obtain ⟨v, d, rfl, _⟩ := h
    rfl
  · obtain ⟨v, d, rfl, hd, hs, k1, k2⟩ := h
    have nd := scArg.nd
    have hu65 : (A.deeper (envOfC "arguments_of" (defScope sArg) s.heap.objs.size f cdv)).units + 65 < cLine := by have := hr.un; omega
    refine ⟨_, (by exact (pss_cons (ps_if (pt_cmpR (op_notInDT hu65) (pv 0) (pe_glob (v := .ref (ga K "OPERATIONS")) rfl gOPS rfl) rfl)
(pss_one (L2N.ps_raise rfl (L2N.takes_of rfl rfl rfl rfl) (by exact (pmk_x BO.T BO.ty bsV BO.iC BO.fn GE hr bE pass0 rfl gBO (pa_cons (pv 0) pa_nil)))))
pss_nil)
(pss_one (ps_ret (pe_ix ix_kdict (pe_glob (v := .ref (ga K "ARGUMENTS")) rfl gARG rfl) (pv 0) (fun _ _ => rfl)))))), ?_⟩
    refine ⟨_, rfl, d, _, hd, .tup (hO H) (strs_dp ops), hs, ops_shaped, _, rfl, ?_⟩
    rw [if_pos rfl]
    show if (!inS ops d) = true then _ else _
    cases hi : inS ops d with
    | false => exact yes rfl ⟨_, rfl, (by show 1 ≤ 1000; decide), fun e he => ⟨e, _, H, rfl, rfl, he, fun d' H' hd' hde h1 h2 h3 => ⟨rfl, d', _, h1, h2, hd', raised_at (k2 hi) he hd' hde h3⟩⟩⟩
    | true =>
      obtain ⟨z, hz, rfl⟩ := inS_true hi
      obtain rfl := dp_str hd
      obtain ⟨u, hu⟩ := hA z hz
      exact no rfl ⟨_, rfl, _, z, u, rfl, rfl, hu, k1 hi u⟩
/-- worlds_of -/
def wor (op : Str) : List Str := if op = "swap" then ["apart", "within", "itself"] else if op ∈ (["move", "send", "swap"] : List Str) then ["apart", "within"] else ["alone"]
def spWor (K : PySem.W.Frag) : Sp := fun vs H Q E => ∃ v d, vs = [v] ∧ Dp K H v d ∧ SeqAt.shaped d = true ∧ (∀ z ∈ ops, d = .str z → ∀ T, H T = none → Q (.ref T) (upd H T (.tup ((wor z).map V.str)))) ∧ (inS ops d = false → Raised (ga K "BadOperation") H [("op", v)] E)
theorem scWor : FnScope ["op"] ["op"] (defScope sWor) := ⟨rfl, rfl, rfl, by decide +kernel, rfl, by decide +kernel, by decide +kernel⟩
theorem ok_wor {f fA : Addr} {fd fdA : FuncData} (F : FnP K "worlds_of" sWor f fd) (GA : FnOk P w K mg base (L2N.CX P w) 3 fA fdA ["op"] (spArg K)) (bA : Binds K fdA ["op"] []) (kA : PySem.W.keepIn K (.ref fA) = true) (gA : mg "arguments_of" = some (.ref fA))
    (hT : ∀ H, SqT K H (ga K "TWO_LISTS") ((["move", "send", "swap"] : List Str).map V.str)) (gTWO : mg "TWO_LISTS" = some (.ref (ga K "TWO_LISTS"))) : FnOk P w K mg base (L2N.CX P w) 4 f fd ["op"] (spWor K) := by
  refine F.ok scWor (fun vs H Q E h => ?_) (fun cdv A outer s H vs Q E hr h => ?_)
  · obtain ⟨v, d, rfl, _⟩ := h
    rfl
  · obtain ⟨v, d, rfl, hd, hs, k1, k2⟩ := h
    have nd := scWor.nd
    have hr2 := hr.mono (j := 3) (by decide)
    refine ⟨_, (by exact (pss_cons (ps_expr (by exact (pe_callS GA hr2 (by rfl) gA kA bA (fun σ => L2N.passAt (L2N.takes_of rfl rfl rfl rfl) σ) (pa_cons (pv 0) pa_nil))))
(pss_cons (ps_if (pt_cmpR op_eq (pv 0) pe_str (nomark _))
(pss_one (ps_ret (pe_tup (pa_cons pe_str (pa_cons pe_str (pa_cons pe_str pa_nil))))))
pss_nil)
(pss_one (ps_ret (pe_ifExp (pt_cmpR op_in_seq (pv 0) (pe_glob (v := .ref (ga K "TWO_LISTS")) rfl gTWO rfl) rfl) (pe_tup (pa_cons pe_str (pa_cons pe_str pa_nil))) (pe_tup (pa_cons pe_str pa_nil)))))))), ?_⟩
    refine ⟨_, rfl, v, d, rfl, hd, hs, fun hi u => ?_, k2⟩
    obtain ⟨z, hz, rfl⟩ := inS_true hi
    obtain rfl := dp_str hd
    have k1 := k1 z hz rfl
    unfold wor at k1
    refine ⟨_, rfl, rfl, _, rfl, ?_⟩
    by_cases c : z = "swap"
    · refine yes (decide_eq_true (congrArg V.str c)) ?_
      rw [if_pos c] at k1
      exact ⟨(by show 3 ≤ sizeLine; decide), fun T nT => k1 T nT⟩
    · refine no (decide_eq_false fun e => c (by injection e)) ?_
      rw [if_neg c] at k1
      refine ⟨_, rfl, _, _, rfl, .inr (hT H), rfl, rfl, _, rfl, ?_⟩
      rw [if_neg Bool.false_ne_true, inV_str]
      by_cases c2 : z ∈ (["move", "send", "swap"] : List Str)
      · refine yes (decide_eq_true c2) ?_
        rw [if_pos c2] at k1
        exact ⟨(by show 2 ≤ sizeLine; decide), fun T nT => k1 T nT⟩
      · refine no (decide_eq_false c2) ?_
        rw [if_neg c2] at k1
        exact ⟨(by show 1 ≤ sizeLine; decide), fun T nT => k1 T nT⟩
end
end K33

set_option Elab.async false
set_option maxRecDepth 100000
set_option maxHeartbeats 2000000
namespace K33
open PySem PySem.Spec PyProof.Rows L2 He KX
abbrev sThr : Stmt := top 12
abbrev sCst : Stmt := inClass (top 11) 0
abbrev newL : List Str := ["put", "add"]
structure CastK (K : PySem.W.Frag) : Prop where
  made : Mk K (ga K "Cast") (ma K (ga K "Cast") "__init__")
  cls : Cls K (ga K "Cast")
  noat : ∀ f ∈ flds, NoAttr K (ga K "Cast") f
def thB (op : Str) (ap : Bool) (l : Str) : Bool := if l = "home" then !decide (op ∈ newL) else decide (l = "other") || ap
def spThr : Sp := fun vs H Q _ => ∃ (l op : Str) (ap : Bool), vs = [.str l, .str op, .bl ap] ∧ Q (.bl (thB op ap l)) H
def apB (op world : Str) : Bool := decide (op ∈ newL) || decide (world = "apart")
def lsS (op world : Str) : List Str := (["home", "to", "other"] : List Str).filter (thB op (apB op world))
def hmS (op world : Str) : List (Key × V) := (if op ∈ newL then [] else [(.inr "x", .str "home")]) ++ (if op = "swap" ∧ world ≠ "itself" then [(.inr "y", .str (if apB op world = true then "to" else "home"))] else [])
def spCastI (K : PySem.W.Frag) : Sp := fun vs H Q _ => ∃ (a dx : Addr) (op world : Str), vs = [.ref a, .str op, .str world] ∧ H a = some (.ins (ga K "Cast") dx []) ∧ ∀ (G : Hp) (T D : Addr) (fs : List (Str × V)), (∀ x o, x ≠ a → H x = some o → G x = some o) → G a = some (.ins (ga K "Cast") dx fs) →
  fs.lookup ("lists" : Str) = some (V.ref T) → fs.lookup ("homes" : Str) = some (V.ref D) → G T = some (.tup ((lsS op world).map V.str)) → G D = some (.dK (hmS op world)) → Q .non G
theorem lkE {f : Str} {v : V} {fs : List (Str × V)} : (putF f v fs).lookup f = some v := by rw [lookup_putF, if_pos rfl]
theorem lkN {f g : Str} {v : V} {fs : List (Str × V)} (h : g ≠ f) : (putF f v fs).lookup g = fs.lookup g := by rw [lookup_putF, if_neg h]
theorem ite2' {b : Bool} {A B : Prop} (h1 : b = true → A) (h2 : b = false → B) : if b = true then A else B := by
  cases b
  · exact h2 rfl
  · exact h1 rfl
section
variable {P : Program} {w : World} {K : PySem.W.Frag} {mg : Str → Option Value} {base : Heap}
theorem scThr : FnScope ["lst", "op", "apart"] ["lst", "op", "apart"] (defScope sThr) := ⟨rfl, rfl, rfl, by decide +kernel, rfl, by decide +kernel, by decide +kernel⟩
theorem ok_thr {f : Addr} {fd : FuncData} (F : FnP K "_is_there" sThr f fd) (hN : ∀ H, SqT K H (ga K "NEW") (newL.map V.str)) (gNEW : mg "NEW" = some (.ref (ga K "NEW"))) : FnOk P w K mg base CX0 1 f fd ["lst", "op", "apart"] spThr := by
  refine F.ok scThr (fun vs H Q E h => ?_) (fun cdv A outer s H vs Q E hr h => ?_)
  · obtain ⟨l, op, ap, rfl, _⟩ := h
    rfl
  · obtain ⟨l, op, ap, rfl, k⟩ := h
    have nd := scThr.nd
    refine ⟨_, PSs.nox (pss_cons (ps_if (pt_cmpR op_eq (pv 0) pe_str (nomark _))
(pss_one (ps_ret (pe_cmpR op_notIn_seq (pv 1) (pe_glob (v := .ref (ga K "NEW")) rfl gNEW rfl) rfl)))
pss_nil)
(pss_one (ps_ret (pe_or (pe_cmpR op_eq (pv 0) pe_str (nomark _)) (pe_one (pv 2)))))), ?_⟩
    unfold thB at k
    refine ⟨_, rfl, rfl, _, rfl, ?_⟩
    by_cases c : l = "home"
    · refine yes (decide_eq_true (congrArg V.str c)) ?_
      rw [if_pos c] at k
      refine ⟨_, rfl, _, _, rfl, .inr (hN H), rfl, rfl, ?_⟩
      rw [if_pos rfl, inV_str]
      exact k
    · refine no (decide_eq_false fun e => c (by injection e)) ?_
      rw [if_neg c] at k
      refine ⟨_, rfl, rfl, _, rfl, ?_⟩
      by_cases c2 : l = "other"
      · refine yes (decide_eq_true (congrArg V.str c2)) ?_
        rw [decide_eq_true c2] at k
        exact k
      · refine no (decide_eq_false fun e => c2 (by injection e)) ?_
        rw [decide_eq_false c2] at k
        exact ⟨_, rfl, k⟩
theorem scCst : FnScope ["self", "op", "world", "apart", "lst"] ["self", "op", "world"] (defScope sCst) := ⟨rfl, rfl, rfl, by decide +kernel, rfl, by decide +kernel, by decide +kernel⟩
theorem ok_cst {f fT : Addr} {fd fdT : FuncData} (F : FunD K "__init__" "Cast.__init__" (defArgs sCst) (defBody sCst) (defScope sCst) [] [] f fd) (C : CastK K) (hN : ∀ H, SqT K H (ga K "NEW") (newL.map V.str)) (gNEW : mg "NEW" = some (.ref (ga K "NEW")))
    (GT : FnOk P w K mg base CX0 1 fT fdT ["lst", "op", "apart"] spThr) (bT : Binds K fdT ["lst", "op", "apart"] []) (kT : PySem.W.keepIn K (.ref fT) = true) (gT : mg "_is_there" = some (.ref fT)) (n_tuple : mg "tuple" = none) : FnOk P w K mg base CX0 2 f fd ["self", "op", "world"] (spCastI K) := by
  refine F.ok scCst (fun vs H Q E h => ?_) (fun cdv A outer s H vs Q E hr h => ?_)
  · obtain ⟨a, dx, op, world, rfl, _⟩ := h
    rfl
  · obtain ⟨a, dx, op, world, rfl, ha, k⟩ := h
    have nd := scCst.nd
    have hu := Nat.lt_of_le_of_lt (Nat.add_le_add_left (by decide : 1 ≤ 64) _) hr.units
    refine ⟨_, PSs.nox (pss_cons (ps_set (i := 3) nd rfl (Or.inr rfl) (pe_or (pe_cmpR op_in_seq (pv 1) (pe_glob (v := .ref (ga K "NEW")) rfl gNEW rfl) rfl) (pe_one (pe_cmpR op_eq (pv 2) pe_str (nomark _)))))
(pss_cons (ps_fld (pv 0) (pe_callTy call_tuple_of (by rfl) n_tuple (by decide +kernel) (pa_cons (pe_lc (own := [("lst", 4)]) (g := (gName 4))  rfl nd (pi_tup (pe_tup (pa_cons pe_str (pa_cons pe_str (pa_cons pe_str pa_nil))))) (blkOk_by (own := [("lst", 4)]) (N := ["self", "op", "world", "apart", "lst"]) (sc := defScope sCst) (by decide +kernel)) (fun _ _ _ _ _ => (pg_name (i := 4) nd rfl (Or.inl rfl))) (fun _ _ _ _ _ => (pts_one (pt_val (pe_call GT hr (by rfl) gT kT bT .nil pass0 (pa_cons (pv 4) (pa_cons (pv 1) (pa_cons (pv 3) pa_nil))))))) (fun _ _ _ _ _ => (pv 4))) pa_nil)) rfl)
(pss_cons (ps_fld (pv 0) (pe_disp (pps_cons pe_str pe_str (pps_cons pe_str (pe_ifExp (pt_val (pv 3)) pe_str pe_str) pps_nil)) rfl rfl (by decide) (by decide)) rfl)
(pss_cons (ps_fld (pv 0) (pe_disp (pps_cons pe_str pe_str (pps_cons pe_str (pe_ifExp (pt_cmpR op_eq (pv 2) pe_str (nomark _)) pe_str pe_str) pps_nil)) rfl rfl (by decide) (by decide)) rfl)
(pss_cons (ps_fld (pv 0) pe_dnewK rfl)
(pss_cons (ps_if (pt_cmpR op_notIn_seq (pv 1) (pe_glob (v := .ref (ga K "NEW")) rfl gNEW rfl) rfl)
(pss_one (ps_dput hu (pe_fld (pv 0) rfl) pe_str pe_str rfl))
pss_nil)
(pss_cons (ps_if (PW.pt (pw_and (pt_cmpR op_eq (pv 1) pe_str (nomark _)) (pw_and1 (pt_cmpR op_ne (pv 2) pe_str (nomark _)))))
(pss_one (ps_dput hu (pe_fld (pv 0) rfl) pe_str (pe_dget hu (pe_fld (pv 0) rfl) pe_str (fun _ _ => rfl)) rfl))
pss_nil)
(pss_cons (ps_fld (pv 0) (pe_ifExp (pt_cmp (pc_din hu pe_str (pe_fld (pv 0) rfl))) (pe_lst (pa_cons pe_str (pa_cons pe_str pa_nil))) (pe_lst (pa_cons pe_str pa_nil))) rfl)
(pss_one (ps_fld (pv 0) (pe_cmpR op_in_seq (pv 2) (pe_tup (pa_cons pe_str (pa_cons pe_str pa_nil))) rfl) rfl)))))))))), ?_⟩
    -- apart
    refine seq_by (fun σ G => σ = [some (.ref a), some (.str op), some (.str world), some (.bl (apB op world)), none] ∧ H = G) ?_ (fun nxt => ?_)
    · rintro σ _ ⟨rfl, rfl⟩
      -- lists
      refine seq_by (fun σ G => ∃ (T : Addr) (fs : List (Str × V)) (v4 : Option V), σ = [some (.ref a), some (.str op), some (.str world), some (.bl (apB op world)), v4] ∧ (∀ x o, x ≠ a → H x = some o → G x = some o) ∧ G a = some (.ins (ga K "Cast") dx fs) ∧ fs.length ≤ 1 ∧ fs.lookup ("lists" : Str) = some (V.ref T) ∧ G T = some (.tup ((lsS op world).map V.str))) ?_ (fun nxt => ?_)
      · clear ha
        rintro σ G ⟨T, fs, v4, rfl, sf, ha, hfl, hfT, hT⟩
        have nTa : T ≠ a := by rintro rfl; rw [ha] at hT; cases hT
        -- list_of
        refine seq_by (fun σ G => ∃ (L : Addr) (fs : List (Str × V)) (v4 : Option V), σ = [some (.ref a), some (.str op), some (.str world), some (.bl (apB op world)), v4] ∧ (∀ x o, x ≠ a → H x = some o → G x = some o) ∧ G a = some (.ins (ga K "Cast") dx fs) ∧ fs.length ≤ 2 ∧ fs.lookup ("lists" : Str) = some (V.ref T) ∧ G T = some (.tup ((lsS op world).map V.str)) ∧ fs.lookup ("list_of" : Str) = some (V.ref L) ∧ G L = some (.dK [(.inr "home", .str "home"), (.inr "to", .str (if apB op world = true then "to" else "home"))])) ?_ (fun nxt => ?_)
        · clear sf ha hfl hfT hT
          rintro σ G ⟨L, fs, v4, rfl, sf, ha, hfl, hfT, hT, hfL, hL⟩
          have nLa : L ≠ a := by rintro rfl; rw [ha] at hL; cases hL
          -- row_of
          refine seq_by (fun σ G => ∃ (fs : List (Str × V)) (v4 : Option V), σ = [some (.ref a), some (.str op), some (.str world), some (.bl (apB op world)), v4] ∧ (∀ x o, x ≠ a → H x = some o → G x = some o) ∧ G a = some (.ins (ga K "Cast") dx fs) ∧ fs.length ≤ 3 ∧ fs.lookup ("lists" : Str) = some (V.ref T) ∧ G T = some (.tup ((lsS op world).map V.str)) ∧ fs.lookup ("list_of" : Str) = some (V.ref L) ∧ G L = some (.dK [(.inr "home", .str "home"), (.inr "to", .str (if apB op world = true then "to" else "home"))])) ?_ (fun nxt => ?_)
          · clear sf ha hfl hfT hT hfL hL
            rintro σ G ⟨fs, v4, rfl, sf, ha, hfl, hfT, hT, hfL, hL⟩
            -- homes
            refine seq_by (fun σ G => ∃ (D : Addr) (fs : List (Str × V)), σ = [some (.ref a), some (.str op), some (.str world), some (.bl (apB op world)), v4] ∧ (∀ x o, x ≠ a → H x = some o → G x = some o) ∧ H D = none ∧ D ≠ a ∧ G a = some (.ins (ga K "Cast") dx fs) ∧ fs.length ≤ 4 ∧ fs.lookup ("lists" : Str) = some (V.ref T) ∧ G T = some (.tup ((lsS op world).map V.str)) ∧ fs.lookup ("list_of" : Str) = some (V.ref L) ∧ G L = some (.dK [(.inr "home", .str "home"), (.inr "to", .str (if apB op world = true then "to" else "home"))]) ∧ fs.lookup ("homes" : Str) = some (V.ref D) ∧ G D = some (.dK []) ∧ L ≠ D) ?_ (fun nxt => ?_)
            · clear sf ha hfl hfT hT hfL hL
              rintro σ G ⟨D, fs, rfl, sf, nDH, nDa, ha, hfl, hfT, hT, hfL, hL, hfD, hD, nLD⟩
              have nTD : T ≠ D := by rintro rfl; rw [hD] at hT; cases hT
              -- x
              refine seq_by (fun σ G => σ = [some (.ref a), some (.str op), some (.str world), some (.bl (apB op world)), v4] ∧ (∀ x o, x ≠ a → H x = some o → G x = some o) ∧ G a = some (.ins (ga K "Cast") dx fs) ∧ G T = some (.tup ((lsS op world).map V.str)) ∧ G L = some (.dK [(.inr "home", .str "home"), (.inr "to", .str (if apB op world = true then "to" else "home"))]) ∧ G D = some (.dK (if op ∈ newL then [] else [(.inr "x", .str "home")]))) ?_ (fun nxt => ?_)
              · clear sf ha hT hL hD
                rintro σ G ⟨rfl, sf, ha, hT, hL, hD⟩
                -- y
                refine seq_by (fun σ G => σ = [some (.ref a), some (.str op), some (.str world), some (.bl (apB op world)), v4] ∧ (∀ x o, x ≠ a → H x = some o → G x = some o) ∧ G a = some (.ins (ga K "Cast") dx fs) ∧ G T = some (.tup ((lsS op world).map V.str)) ∧ G D = some (.dK (hmS op world))) ?_ (fun nxt => ?_)
                · clear sf ha hT hL hD
                  rintro σ G ⟨rfl, sf, ha, hT, hD⟩
                  -- named
                  refine seq_by (fun σ G => ∃ fs : List (Str × V), σ = [some (.ref a), some (.str op), some (.str world), some (.bl (apB op world)), v4] ∧ (∀ x o, x ≠ a → H x = some o → G x = some o) ∧ G a = some (.ins (ga K "Cast") dx fs) ∧ fs.length ≤ 5 ∧ fs.lookup ("lists" : Str) = some (V.ref T) ∧ fs.lookup ("homes" : Str) = some (V.ref D) ∧ G T = some (.tup ((lsS op world).map V.str)) ∧ G D = some (.dK (hmS op world))) ?_ (fun nxt => ?_)
                  · clear sf ha hT hD hfl hfT hfL hfD
                    rintro σ G ⟨fs, rfl, sf, ha, hfl, hfT, hfD, hT, hD⟩
                    -- is_within
                    refine ⟨_, rfl, (by show 2 ≤ sizeLine; decide), fun W nW => ?_⟩
                    generalize e_G2 : upd _ W _ = G2
                    have s_W := new_same e_G2 nW
                    have f_W := new_at e_G2
                    clear e_G2
                    have ha := ha.mv s_W
                    have hT := hT.mv s_W
                    have hD := hD.mv s_W
                    refine ⟨W, (["within", "itself"] : List Str).map V.str, rfl, .inr (SqT.of f_W), rfl, rfl, ?_⟩
                    refine ⟨_, rfl, a, _, dx, fs, rfl, ha, C.cls, C.noat _ (by decide), by omega, ?_⟩
                    exact k _ T D _ (fun x o n e => (upd_ne n).trans (s_W _ _ (sf x o n e))) upd_same ((lkN (by decide)).trans hfT) ((lkN (by decide)).trans hfD) ((upd_ne nTa).trans hT) ((upd_ne nDa).trans hD)
                  · refine ⟨_, rfl, a, _, dx, fs, _, rfl, ha, C.cls, C.noat _ (by decide), hfD, D, _, rfl, .inl ⟨_, .inr "y", .inl hD, rfl, rfl⟩, _, rfl, ite2' (fun _ => ?_) (fun _ => ?_)⟩
                    · refine ⟨(by show 2 ≤ sizeLine; decide), fun R nR => ?_⟩
                      generalize e_G2 : upd _ R _ = G2
                      have s_R := new_same e_G2 nR
                      have f_R := new_at e_G2
                      clear e_G2
                      have ha := ha.mv s_R
                      have hT := hT.mv s_R
                      have hD := hD.mv s_R
                      refine ⟨_, rfl, a, _, dx, fs, rfl, ha, C.cls, C.noat _ (by decide), by omega, ?_⟩
                      exact nxt _ _ ⟨_, rfl, fun x o n e => (upd_ne n).trans (s_R _ _ (sf x o n e)), upd_same, Nat.le_trans (length_putF _ _ _) (by omega), (lkN (by decide)).trans hfT, (lkN (by decide)).trans hfD, (upd_ne nTa).trans hT, (upd_ne nDa).trans hD⟩
                    · refine ⟨(by show 1 ≤ sizeLine; decide), fun R nR => ?_⟩
                      generalize e_G2 : upd _ R _ = G2
                      have s_R := new_same e_G2 nR
                      have f_R := new_at e_G2
                      clear e_G2
                      have ha := ha.mv s_R
                      have hT := hT.mv s_R
                      have hD := hD.mv s_R
                      refine ⟨_, rfl, a, _, dx, fs, rfl, ha, C.cls, C.noat _ (by decide), by omega, ?_⟩
                      exact nxt _ _ ⟨_, rfl, fun x o n e => (upd_ne n).trans (s_R _ _ (sf x o n e)), upd_same, Nat.le_trans (length_putF _ _ _) (by omega), (lkN (by decide)).trans hfT, (lkN (by decide)).trans hfD, (upd_ne nTa).trans hT, (upd_ne nDa).trans hD⟩
                · unfold hmS at nxt
                  refine ⟨_, rfl, rfl, _, rfl, ?_⟩
                  by_cases c : op = "swap"
                  · refine yes (decide_eq_true (congrArg V.str c)) ?_
                    refine ⟨_, rfl, rfl, _, rfl, ?_⟩
                    by_cases c2 : world = "itself"
                    · refine no (congrArg not (decide_eq_true (congrArg V.str c2))) ?_
                      rw [if_neg (fun e : op = "swap" ∧ world ≠ "itself" => e.2 c2), List.append_nil] at nxt
                      exact nxt _ _ ⟨rfl, sf, ha, hT, hD⟩
                    · refine yes (congrArg not (decide_eq_false fun e : V.str world = V.str "itself" => c2 (by injection e))) ?_
                      have nn : op ∉ newL := by rw [c]; decide
                      rw [if_neg nn] at hD nxt
                      rw [if_pos ⟨c, c2⟩] at nxt
                      refine ⟨_, rfl, a, _, dx, fs, _, rfl, ha, C.cls, C.noat _ (by decide), hfL, L, _, rfl, .inl ⟨_, .inr "to", .inl hL, rfl, rfl⟩, ?_⟩
                      refine ⟨_, rfl, a, _, dx, fs, _, rfl, ha, C.cls, C.noat _ (by decide), hfD, D, _, rfl, .inl ⟨_, .inr "y", hD, rfl, by decide, rfl⟩, ?_⟩
                      exact nxt _ _ ⟨rfl, fun x o n e => (upd_ne (ne_of_none e nDH)).trans (sf x o n e), (upd_ne nDa.symm).trans ha, (upd_ne nTD).trans hT, upd_same⟩
                  · refine no (decide_eq_false fun e : V.str op = V.str "swap" => c (by injection e)) ?_
                    rw [if_neg (fun e : op = "swap" ∧ world ≠ "itself" => c e.1), List.append_nil] at nxt
                    exact nxt _ _ ⟨rfl, sf, ha, hT, hD⟩
              · refine ⟨_, rfl, _, _, rfl, .inr (hN G), rfl, rfl, _, rfl, ?_⟩
                rw [if_pos rfl, inV_str]
                by_cases c : op ∈ newL
                · refine no (congrArg not (decide_eq_true c)) ?_
                  rw [if_pos c] at nxt
                  exact nxt _ _ ⟨rfl, sf, ha, hT, hL, hD⟩
                · refine yes (congrArg not (decide_eq_false c)) ?_
                  rw [if_neg c] at nxt
                  refine ⟨_, rfl, a, _, dx, fs, _, rfl, ha, C.cls, C.noat _ (by decide), hfD, D, _, rfl, .inl ⟨_, .inr "x", hD, rfl, by decide, rfl⟩, ?_⟩
                  exact nxt _ _ ⟨rfl, fun x o n e => (upd_ne (ne_of_none e nDH)).trans (sf x o n e), (upd_ne nDa.symm).trans ha, (upd_ne nTD).trans hT, (upd_ne nLD).trans hL, upd_same⟩
            · refine fun D nD => ?_
              have nDa : D ≠ a := (ne_of_none ha nD).symm
              have nDH : H D = none := by
                cases e : H D with
                | none => rfl
                | some o => rw [sf D o nDa e] at nD; cases nD
              have nLD : L ≠ D := ne_of_none hL nD
              generalize e_G2 : upd _ D _ = G2
              have s_D := new_same e_G2 nD
              have f_D := new_at e_G2
              clear e_G2
              have ha := ha.mv s_D
              have hT := hT.mv s_D
              have hL := hL.mv s_D
              refine ⟨_, rfl, a, _, dx, fs, rfl, ha, C.cls, C.noat _ (by decide), by omega, ?_⟩
              exact nxt _ _ ⟨D, _, rfl, fun x o n e => (upd_ne n).trans (s_D _ _ (sf x o n e)), nDH, nDa, upd_same, Nat.le_trans (length_putF _ _ _) (by omega), (lkN (by decide)).trans hfT, (upd_ne nTa).trans hT, (lkN (by decide)).trans hfL, (upd_ne nLa).trans hL, lkE, (upd_ne nDa).trans f_D, nLD⟩
          · refine fun D nD => ?_
            have nDa : D ≠ a := (ne_of_none ha nD).symm
            have nTD : T ≠ D := ne_of_none hT nD
            have nLD : L ≠ D := ne_of_none hL nD
            generalize e_G2 : upd _ D _ = G2
            have s_D := new_same e_G2 nD
            have f_D := new_at e_G2
            clear e_G2
            have ha := ha.mv s_D
            have hT := hT.mv s_D
            have hL := hL.mv s_D
            have fin : ∀ (o u : HO), (∀ x o', x ≠ a → H x = some o' → upd (upd G2 D o) a u x = some o') ∧ upd (upd G2 D o) a u T = some (.tup ((lsS op world).map V.str)) ∧ upd (upd G2 D o) a u L = some (.dK [(.inr "home", .str "home"), (.inr "to", .str (if apB op world = true then "to" else "home"))]) := fun o u =>
              ⟨fun x o' n e => (upd_ne n).trans ((upd_ne (ne_of_none (sf x o' n e) nD)).trans (s_D _ _ (sf x o' n e))), (upd_ne nTa).trans ((upd_ne nTD).trans hT), (upd_ne nLa).trans ((upd_ne nLD).trans hL)⟩
            refine ⟨_, rfl, rfl, _, rfl, ite2' (fun _ => ?_) (fun _ => ?_)⟩
            · refine ⟨f_D, [(.inr "x", .str "x"), (.inr "y", .str "x")], rfl, by decide, ?_⟩
              refine ⟨_, rfl, a, _, dx, fs, rfl, (upd_ne nDa.symm).trans ha, C.cls, C.noat _ (by decide), by omega, ?_⟩
              obtain ⟨q1, q2, q3⟩ := fin (.dK (mergeK [] [(.inr "x", .str "x"), (.inr "y", .str "x")])) (.ins (ga K "Cast") dx (putF "row_of" (.ref D) fs))
              exact nxt _ _ ⟨_, _, rfl, q1, upd_same, Nat.le_trans (length_putF _ _ _) (by omega), (lkN (by decide)).trans hfT, q2, (lkN (by decide)).trans hfL, q3⟩
            · refine ⟨f_D, [(.inr "x", .str "x"), (.inr "y", .str "y")], rfl, by decide, ?_⟩
              refine ⟨_, rfl, a, _, dx, fs, rfl, (upd_ne nDa.symm).trans ha, C.cls, C.noat _ (by decide), by omega, ?_⟩
              obtain ⟨q1, q2, q3⟩ := fin (.dK (mergeK [] [(.inr "x", .str "x"), (.inr "y", .str "y")])) (.ins (ga K "Cast") dx (putF "row_of" (.ref D) fs))
              exact nxt _ _ ⟨_, _, rfl, q1, upd_same, Nat.le_trans (length_putF _ _ _) (by omega), (lkN (by decide)).trans hfT, q2, (lkN (by decide)).trans hfL, q3⟩
        · refine fun D nD => ?_
          have nDa : D ≠ a := (ne_of_none ha nD).symm
          have nTD : T ≠ D := ne_of_none hT nD
          generalize e_G2 : upd _ D _ = G2
          have s_D := new_same e_G2 nD
          have f_D := new_at e_G2
          clear e_G2
          have ha := ha.mv s_D
          have hT := hT.mv s_D
          have fin : ∀ (o u : HO), (∀ x o', x ≠ a → H x = some o' → upd (upd G2 D o) a u x = some o') ∧ upd (upd G2 D o) a u T = some (.tup ((lsS op world).map V.str)) ∧ upd (upd G2 D o) a u D = some o := fun o u =>
            ⟨fun x o' n e => (upd_ne n).trans ((upd_ne (ne_of_none (sf x o' n e) nD)).trans (s_D _ _ (sf x o' n e))), (upd_ne nTa).trans ((upd_ne nTD).trans hT), (upd_ne nDa).trans upd_same⟩
          refine ⟨_, rfl, _, rfl, ite2' (fun c => ?_) (fun c => ?_)⟩
          · refine ⟨f_D, [(.inr "home", .str "home"), (.inr "to", .str "to")], rfl, by decide, ?_⟩
            rw [mergeK_new (by decide)]
            refine ⟨_, rfl, a, _, dx, fs, rfl, (upd_ne nDa.symm).trans ha, C.cls, C.noat _ (by decide), by omega, ?_⟩
            obtain ⟨q1, q2, q3⟩ := fin (.dK [(.inr "home", .str "home"), (.inr "to", .str "to")]) (.ins (ga K "Cast") dx (putF "list_of" (.ref D) fs))
            rw [if_pos c] at nxt
            exact nxt _ _ ⟨D, _, _, rfl, q1, upd_same, Nat.le_trans (length_putF _ _ _) (by omega), (lkN (by decide)).trans hfT, q2, lkE, q3⟩
          · refine ⟨f_D, [(.inr "home", .str "home"), (.inr "to", .str "home")], rfl, by decide, ?_⟩
            rw [mergeK_new (by decide)]
            refine ⟨_, rfl, a, _, dx, fs, rfl, (upd_ne nDa.symm).trans ha, C.cls, C.noat _ (by decide), by omega, ?_⟩
            obtain ⟨q1, q2, q3⟩ := fin (.dK [(.inr "home", .str "home"), (.inr "to", .str "home")]) (.ins (ga K "Cast") dx (putF "list_of" (.ref D) fs))
            rw [if_neg (by rw [c]; decide)] at nxt
            exact nxt _ _ ⟨D, _, _, rfl, q1, upd_same, Nat.le_trans (length_putF _ _ _) (by omega), (lkN (by decide)).trans hfT, q2, lkE, q3⟩
      · refine ⟨(by show 3 ≤ sizeLine; decide), fun T0 nT0 => ?_⟩
        generalize e_G1 : upd _ T0 _ = G1
        have s_T0 := new_same e_G1 nT0
        have f_T0 := new_at e_G1
        clear e_G1
        have sf : ∀ x o, x ≠ a → H x = some o → G1 x = some o := fun x o _ e => s_T0 _ _ e
        have ha := s_T0 _ _ ha
        refine ⟨T0, rfl, ⟨_, SqT.of f_T0⟩, fun A nA => ?_⟩
        refine lc_it (walk_tup (K := K) (a := T0) (xs := (["home", "to", "other"] : List Str).map V.str)) (fun j G => G A = some (.lst ((((["home", "to", "other"] : List Str).take j).filter (thB op (apB op world))).map V.str)) ∧ Same G1 G) ?_ (fun i G _ h => SqT.of (h.2 _ _ f_T0)) ?_ ?_
        · skip
          generalize e_G2 : upd _ A _ = G2
          have s_A := new_same e_G2 nA
          have f_A := new_at e_G2
          clear e_G2
          exact ⟨f_A, s_A⟩
        · rintro j x G' G hj ⟨hA, s2⟩ ⟨rfl, hx⟩
          obtain ⟨l, hl, rfl⟩ := Option.map_eq_some_iff.mp ((List.getElem?_map ..).symm.trans hx)
          refine ⟨rfl, ?_⟩
          refine ⟨_, rfl, _, rfl, _, rfl, l, op, _, rfl, _, rfl, ?_⟩
          rw [List.take_succ, hl, List.filter_append, List.map_append]
          cases hb : thB op (apB op world) l with
          | true =>
            refine yes rfl ?_
            rw [show (Option.some l).toList.filter (thB op (apB op world)) = [l] by
              show List.filter _ [l] = [l]
              rw [List.filter_cons, if_pos hb]
              rfl]
            refine ⟨_, rfl, _, hA, ?_, upd_same, fun y o e => (upd_ne (ne_of_none e nA)).trans (s2 _ _ e)⟩
            have h1 := List.length_filter_le (thB op (apB op world)) ((["home", "to", "other"] : List Str).take j)
            rw [List.length_take] at h1
            have h3 : (["home", "to", "other"] : List Str).length = 3 := rfl
            rw [List.length_map, sizeLine_eq]
            omega
          | false =>
            refine no rfl ?_
            rw [show (Option.some l).toList.filter (thB op (apB op world)) = [] by
              show List.filter _ [l] = []
              rw [List.filter_cons, if_neg (by rw [hb]; decide)]
              rfl, List.map_nil, List.append_nil]
            exact ⟨hA, s2⟩
        · rintro G2 ⟨hA, s2⟩
          have ha := s2 _ _ ha
          refine ⟨A, _, rfl, .inl ⟨SqL.of hA, fun T nT => ?_⟩⟩
          have nTa : T ≠ a := (ne_of_none ha nT).symm
          generalize e_G3 : upd _ T _ = G3
          have s_T := new_same e_G3 nT
          have f_T := new_at e_G3
          clear e_G3
          have ha := ha.mv s_T
          have s2 := s2.mv s_T
          refine ⟨_, rfl, a, _, dx, _, rfl, ha, C.cls, C.noat _ (by decide), (by decide), ?_⟩
          exact nxt _ _ ⟨T, _, _, rfl, fun x o n e => (upd_ne n).trans (s2 _ _ (sf x o n e)), upd_same, length_putF _ _ _, lkE, (upd_ne nTa).trans f_T⟩
    · refine ⟨_, rfl, _, _, rfl, .inr (hN H), rfl, rfl, _, rfl, ?_⟩
      rw [if_neg Bool.false_ne_true, inV_str]
      by_cases c : op ∈ newL
      · refine yes (decide_eq_true c) ?_
        exact nxt _ _ ⟨by unfold apB; rw [decide_eq_true c]; rfl, rfl⟩
      · refine no (decide_eq_false c) ?_
        refine ⟨_, rfl, rfl, nxt _ _ ⟨?_, rfl⟩⟩
        unfold apB
        rw [decide_eq_false c]
        by_cases c2 : world = "apart"
        · rw [decide_eq_true (congrArg V.str c2), decide_eq_true c2]; rfl
        · rw [decide_eq_false (fun e : V.str world = V.str "apart" => c2 (by injection e)), decide_eq_false c2]; rfl
end
end K33

set_option Elab.async false
set_option maxRecDepth 100000
set_option maxHeartbeats 2000000
namespace K33
open PySem PySem.Spec PyProof.Rows L2 He KX StX
abbrev sHpl : Stmt := top 16
abbrev sKin : Stmt := top 23
def hasX (op : Str) : Bool := !decide (op ∈ newL)
def hasY (op world : Str) : Bool := decide (op = "swap") && !decide (world = "itself")
def kinS (op world : Str) : List Str := (if hasY op world = true then (["x", "y"] : List Str) else ["x"]) ++ lsS op world
theorem hm_y {op world : Str} : (valV (hmS op world) (.inr "y")).isSome = hasY op world := by
  unfold hmS hasY
  by_cases c : op ∈ newL
  · have c1 : op ≠ "swap" := by rintro rfl; revert c; decide
    rw [if_pos c, if_neg (fun e => c1 e.1), decide_eq_false c1]
    rfl
  · rw [if_neg c]
    by_cases c1 : op = "swap"
    · by_cases c2 : world = "itself"
      · rw [if_neg (fun e => e.2 c2), decide_eq_true c1, decide_eq_true c2]; rfl
      · rw [if_pos ⟨c1, c2⟩, decide_eq_true c1, decide_eq_false c2]; rfl
    · rw [if_neg (fun e => c1 e.1), decide_eq_false c1]; rfl
theorem hm_x {op world : Str} : (valV (hmS op world) (.inr "x")).isSome = hasX op := by
  unfold hmS hasX
  by_cases c : op ∈ newL
  · have c1 : op ≠ "swap" := by rintro rfl; revert c; decide
    rw [if_pos c, if_neg (fun e => c1 e.1), decide_eq_true c]
    rfl
  · rw [if_neg c, decide_eq_false c]
    rfl
def hplS (op : Str) : Bool := decide (op ∈ (["put", "move"] : List Str))
def spHpl : Sp := fun vs H Q _ => ∃ op : Str, vs = [.str op] ∧ ∀ G, Same H G → Q (.bl (hplS op)) G
theorem wor_shaped : ∀ z ∈ ops, SeqAt.shaped (.tuple ((wor z).map PyData.str)) = true := by decide +kernel
section
variable {P : Program} {w : World} {K : PySem.W.Frag} {mg : Str → Option Value} {base : Heap}
theorem scHpl : FnScope ["op"] ["op"] (defScope sHpl) := ⟨rfl, rfl, rfl, by decide +kernel, rfl, by decide +kernel, by decide +kernel⟩
theorem ok_hpl {f : Addr} {fd : FuncData} (F : FnP K "has_place" sHpl f fd) : FnOk P w K mg base CX0 1 f fd ["op"] spHpl := by
  refine F.ok scHpl (fun vs H Q E h => ?_) (fun cdv A outer s H vs Q E hr h => ?_)
  · obtain ⟨op, rfl, _⟩ := h
    rfl
  · obtain ⟨op, rfl, k⟩ := h
    have nd := scHpl.nd
    refine ⟨_, PSs.nox (pss_one (ps_ret (pe_cmpR op_in_seq (pv 0) (pe_tup (pa_cons pe_str (pa_cons pe_str pa_nil))) rfl))), ?_⟩
    refine ⟨_, rfl, (by show 2 ≤ sizeLine; decide), fun T nT => ?_⟩
    generalize e_G1 : upd _ T _ = G1
    have s_T := new_same e_G1 nT
    have f_T := new_at e_G1
    clear e_G1
    refine ⟨T, (["put", "move"] : List Str).map V.str, rfl, .inr (SqT.of f_T), rfl, rfl, ?_⟩
    rw [if_neg Bool.false_ne_true, inV_str]
    exact k _ s_T
/-- kinds_of -/
def spKin (K : PySem.W.Frag) : Sp := fun vs H Q E => ∃ v d u e, vs = [v, u] ∧ Dp K H v d ∧ SeqAt.shaped d = true ∧ Dp K H u e ∧ SeqAt.shaped e = true ∧ (inS ops d = false → Raised (ga K "BadOperation") H [("op", v)] E) ∧
  (∀ z ∈ ops, d = .str z → inS (wor z) e = false → Raised (ga K "BadWorld") H [("world", u)] E) ∧ ∀ z ∈ ops, d = .str z → ∀ wd ∈ wor z, e = .str wd → ∀ T G, H T = none → Same H G → G T = some (.tup ((kinS z wd).map V.str)) → Q (.ref T) G
theorem scKin : FnScope ["op", "world", "cast", "rows"] ["op", "world"] (defScope sKin) := ⟨rfl, rfl, rfl, by decide +kernel, rfl, by decide +kernel, by decide +kernel⟩
theorem ok_kin {f fW : Addr} {fd fdW fdE fdC : FuncData} (F : FnP K "kinds_of" sKin f fd) (C : CastK K) (BW : ErBW K) (gBW : mg "BadWorld" = some (.ref (ga K "BadWorld")))
    (FE : FunD K "__init__" "BadWorld.__init__" (defArgs sBWI) (defBody sBWI) (defScope sBWI) [] [] (ma K (ga K "BadWorld") "__init__") fdE)
    (GW : FnOk P w K mg base (L2N.CX P w) 4 fW fdW ["op"] (spWor K)) (bW : Binds K fdW ["op"] []) (kW : PySem.W.keepIn K (.ref fW) = true) (gW : mg "worlds_of" = some (.ref fW))
    (GC : FnOk P w K mg base CX0 2 (ma K (ga K "Cast") "__init__") fdC ["self", "op", "world"] (spCastI K)) (bC : Binds K fdC ["self", "op", "world"] []) (gCa : mg "Cast" = some (.ref (ga K "Cast"))) : FnOk P w K mg base (L2N.CX P w) 5 f fd ["op", "world"] (spKin K) := by
  have GE : FnOk P w K mg base CX0 1 (ma K (ga K "BadWorld") "__init__") fdE ["self", "world"] (spX1 (ga K "BadWorld") "world") := ok_bwi FE BW
  have bE : Binds K fdE ["self", "world"] [] := FE.bindsN fun _ _ _ _ _ _ us hl => match us, hl with | [_, _], _ => rfl
  refine F.ok scKin (fun vs H Q E h => ?_) (fun cdv A outer s H vs Q E hr h => ?_)
  · obtain ⟨v, d, u, e, rfl, _⟩ := h
    rfl
  · obtain ⟨v, d, u, e, rfl, hd, hds, he, hes, k1, k2, k3⟩ := h
    have nd := scKin.nd
    have hr4 := hr.mono (j := 4) (by decide)
    have hr3 := hr.mono (j := 3) (by decide)
    have hr2 := hr.mono (j := 2) (by decide)
    have hu65 : (A.deeper (envOfC "kinds_of" (defScope sKin) s.heap.objs.size f cdv)).units + 65 < cLine := by have := hr.un; omega
    have hu := Nat.lt_of_le_of_lt (Nat.add_le_add_left (by decide : 1 ≤ 64) _) hr.units
    refine ⟨_, (by exact (pss_cons (ps_if (pt_cmpR (op_notInDT hu65) (pv 1) (pe_callS GW hr4 (by rfl) gW kW bW (fun σ => L2N.passAt (L2N.takes_of rfl rfl rfl rfl) σ) (pa_cons (pv 0) pa_nil)) rfl)
(pss_one (L2N.ps_raise rfl (L2N.takes_of rfl rfl rfl rfl) (by exact (pmk_x BW.T BW.ty bsV BW.iC BW.fn GE hr2 bE pass0 rfl gBW (pa_cons (pv 1) pa_nil)))))
pss_nil)
(pss_cons (ps_set (i := 2) nd rfl (Or.inl rfl) (pe_make C.made GC hr3 (by rfl) gCa bC .nil pass0 (pa_cons (pv 0) (pa_cons (pv 1) pa_nil))))
(pss_cons (ps_set (i := 3) nd rfl (Or.inl rfl) (pe_ifExp (pt_cmp (pc_din hu pe_str (pe_fld (pv 2) rfl))) (pe_tup (pa_cons pe_str (pa_cons pe_str pa_nil))) (pe_tup (pa_cons pe_str pa_nil))))
(pss_one (ps_ret (pe_tup (pa_star (pv 3) (pa_star (pe_fld (pv 2) rfl) pa_nil))))))))), ?_⟩
    refine ⟨_, rfl, _, rfl, v, d, rfl, hd, hds, fun z hz ez T nT => ?_, k1⟩
    generalize e_G1 : upd _ T _ = G1
    have s_T := new_same e_G1 nT
    have f_T := new_at e_G1
    clear e_G1
    have he := he.mv s_T
    refine ⟨e, (wor z).map PyData.str, he, .tup (SqT.of f_T) (strs_dp _), hes, wor_shaped z hz, _, rfl, ?_⟩
    rw [if_pos rfl]
    show if (!inS (wor z) e) = true then _ else _
    cases hi : inS (wor z) e with
    | false => exact yes rfl ⟨_, rfl, (by show 1 ≤ 1000; decide), fun e he => ⟨e, _, G1, rfl, rfl, he, fun d' H' hd' hde h1 h2 h3 => ⟨rfl, d', _, h1, h2, hd', raised_at ((k2 z hz ez hi).mv s_T) he hd' hde h3⟩⟩⟩
    | true =>
      refine no rfl ?_
      obtain ⟨wd, hwd, rfl⟩ := inS_true hi
      obtain rfl := dp_str he
      subst ez
      obtain rfl := dp_str hd
      have k3 := k3 z hz rfl wd hwd rfl
      refine ⟨_, rfl, _, rfl, fun x dx nx ndx hne => ⟨x, dx, z, wd, rfl, upd_same, fun G T2 D fs sf ha hfT hfD hT hD => ⟨rfl, ?_⟩⟩⟩
      dsimp only [gName, List.set]
      have sG : Same H G := fun y o e' => sf y o (ne_of_none (s_T _ _ e') nx) ((upd_ne (ne_of_none (s_T _ _ e') nx)).trans ((upd_ne (ne_of_none (s_T _ _ e') ndx)).trans (s_T _ _ e')))
      refine seq_by (fun σ G2 => ∃ R, σ = [some (.str z), some (.str wd), some (.ref x), some (.ref R)] ∧ Same G G2 ∧ G2 R = some (.tup ((if hasY z wd = true then (["x", "y"] : List Str) else ["x"]).map V.str))) ?_ (fun nxt => ?_)
      · rintro σ G2 ⟨R, rfl, s2, hR⟩
        refine ⟨_, rfl, R, _, rfl, .inl (SqT.of hR), _, rfl, x, _, dx, fs, _, rfl, s2 _ _ ha, C.cls, C.noat _ (by decide), hfT, T2, _, rfl, .inl (SqT.of (s2 _ _ hT)), ?_, fun P nP => ?_⟩
        · have h1 := List.length_filter_le (thB z (apB z wd)) (["home", "to", "other"] : List Str)
          have h3 : (["home", "to", "other"] : List Str).length = 3 := rfl
          have h2 : (if hasY z wd = true then (["x", "y"] : List Str) else ["x"]).length ≤ 2 := by split <;> decide
          unfold lsS
          rw [List.length_append, List.length_append, List.length_map, List.length_map, sizeLine_eq]
          show _ + (_ + 0) ≤ _
          omega
        · have nPH := (sG.trans s2).free nP
          generalize e_G3 : upd _ P _ = G3
          have s_P := new_same e_G3 nP
          have f_P := new_at e_G3
          clear e_G3
          have s2 := s2.mv s_P
          refine k3 P G3 nPH (sG.trans s2) ?_
          rw [f_P, List.append_nil, ← List.map_append]
          rfl
      · refine ⟨_, rfl, x, _, dx, fs, _, rfl, ha, C.cls, C.noat _ (by decide), hfD, D, _, rfl, .inl ⟨_, .inr "y", .inl hD, rfl, rfl⟩, _, rfl, ite2' (fun c => ?_) (fun c => ?_)⟩
        · refine ⟨(by show 2 ≤ sizeLine; decide), fun R nR => ?_⟩
          generalize e_G2 : upd _ R _ = G2
          have s_R := new_same e_G2 nR
          have f_R := new_at e_G2
          clear e_G2
          rw [hm_y] at c
          rw [if_pos c] at nxt
          exact nxt _ _ ⟨R, rfl, s_R, f_R⟩
        · refine ⟨(by show 1 ≤ sizeLine; decide), fun R nR => ?_⟩
          generalize e_G2 : upd _ R _ = G2
          have s_R := new_same e_G2 nR
          have f_R := new_at e_G2
          clear e_G2
          rw [hm_y] at c
          rw [if_neg (by rw [c]; decide)] at nxt
          exact nxt _ _ ⟨R, rfl, s_R, f_R⟩
end
end K33

set_option Elab.async false
set_option maxRecDepth 100000
set_option maxHeartbeats 2000000
namespace K33
open PySem PySem.Spec PyProof.Rows L2 He KX StX
abbrev sChk : Stmt := top 25
abbrev sNum : Stmt := top 24
theorem kin_shaped : ∀ z ∈ ops, ∀ wd ∈ wor z, SeqAt.shaped (.tuple ((kinS z wd).map PyData.str)) = true := by decide +kernel
/-- what is raised of an operation, a world, a kind -/
structure Bad3 (K : PySem.W.Frag) (H : Hp) (v : V) (d : PyData) (u : V) (e : PyData) (t : V) (g : PyData) (E : XK) : Prop where
  vd : Dp K H v d
  ds : SeqAt.shaped d = true
  ue : Dp K H u e
  es : SeqAt.shaped e = true
  tg : Dp K H t g
  gs : SeqAt.shaped g = true
  k1 : inS ops d = false → Raised (ga K "BadOperation") H [("op", v)] E
  k2 : ∀ z ∈ ops, d = .str z → inS (wor z) e = false → Raised (ga K "BadWorld") H [("world", u)] E
  k3 : ∀ z ∈ ops, d = .str z → ∀ wd ∈ wor z, e = .str wd → inS (kinS z wd) g = false → Raised (ga K "BadKind") H [("kind", t)] E
def spChk (K : PySem.W.Frag) : Sp := fun vs H Q E => ∃ v d u e t g, vs = [v, u, t] ∧ Bad3 K H v d u e t g E ∧ ∀ z ∈ ops, d = .str z → ∀ wd ∈ wor z, e = .str wd → inS (kinS z wd) g = true → ∀ G, Same H G → Q .non G
def numS (op world kind : Str) : List Str := lsS op world ++ ((["x", "y"] : List Str).filter (fun r : Str => if r = "x" then hasX op else hasY op world) ++ ((if hplS op = true then (["k"] : List Str) else []) ++ (if kind ∈ lsS op world then (["row"] : List Str) else [])))
def spNum (K : PySem.W.Frag) : Sp := fun vs H Q E => ∃ v d u e t g, vs = [v, u, t] ∧ Bad3 K H v d u e t g E ∧ ∀ z ∈ ops, d = .str z → ∀ wd ∈ wor z, e = .str wd → ∀ kd ∈ kinS z wd, g = .str kd → ∀ T G, H T = none → Same H G → G T = some (.tup ((numS z wd kd).map V.str)) → Q (.ref T) G
section
variable {P : Program} {w : World} {K : PySem.W.Frag} {mg : Str → Option Value} {base : Heap}
theorem scChk : FnScope ["op", "world", "kind"] ["op", "world", "kind"] (defScope sChk) := ⟨rfl, rfl, rfl, by decide +kernel, rfl, by decide +kernel, by decide +kernel⟩
theorem ok_chk {f fK : Addr} {fd fdK fdE : FuncData} (F : FnP K "check_kind" sChk f fd) (BK : ErBK K) (gBK : mg "BadKind" = some (.ref (ga K "BadKind")))
    (FE : FunD K "__init__" "BadKind.__init__" (defArgs sBKI) (defBody sBKI) (defScope sBKI) [] [] (ma K (ga K "BadKind") "__init__") fdE)
    (GK : FnOk P w K mg base (L2N.CX P w) 5 fK fdK ["op", "world"] (spKin K)) (bK : Binds K fdK ["op", "world"] []) (kK : PySem.W.keepIn K (.ref fK) = true) (gK : mg "kinds_of" = some (.ref fK)) : FnOk P w K mg base (L2N.CX P w) 6 f fd ["op", "world", "kind"] (spChk K) := by
  have GE : FnOk P w K mg base CX0 1 (ma K (ga K "BadKind") "__init__") fdE ["self", "kind"] (spX1 (ga K "BadKind") "kind") := ok_bki FE BK
  have bE : Binds K fdE ["self", "kind"] [] := FE.bindsN fun _ _ _ _ _ _ us hl => match us, hl with | [_, _], _ => rfl
  refine F.ok scChk (fun vs H Q E h => ?_) (fun cdv A outer s H vs Q E hr h => ?_)
  · obtain ⟨v, d, u, e, t, g, rfl, _⟩ := h
    rfl
  · obtain ⟨v, d, u, e, t, g, rfl, B, k⟩ := h
    have nd := scChk.nd
    have hr5 := hr.mono (j := 5) (by decide)
    have hr2 := hr.mono (j := 2) (by decide)
    have hu65 : (A.deeper (envOfC "check_kind" (defScope sChk) s.heap.objs.size f cdv)).units + 65 < cLine := by have := hr.un; omega
    refine ⟨_, (by exact (pss_one (ps_if (pt_cmpR (op_notInDT hu65) (pv 2) (pe_callS GK hr5 (by rfl) gK kK bK (fun σ => L2N.passAt (L2N.takes_of rfl rfl rfl rfl) σ) (pa_cons (pv 0) (pa_cons (pv 1) pa_nil))) rfl)
(pss_one (L2N.ps_raise rfl (L2N.takes_of rfl rfl rfl rfl) (by exact (pmk_x BK.T BK.ty bsV BK.iC BK.fn GE hr2 bE pass0 rfl gBK (pa_cons (pv 2) pa_nil)))))
pss_nil))), ?_⟩
    refine ⟨_, rfl, _, rfl, _, rfl, v, d, u, e, rfl, B.vd, B.ds, B.ue, B.es, B.k1, B.k2, fun z hz ez wd hwd ew T G1 nT s1 hT => ?_⟩
    refine ⟨g, (kinS z wd).map PyData.str, B.tg.mv s1, .tup (SqT.of hT) (strs_dp _), B.gs, kin_shaped z hz wd hwd, _, rfl, ?_⟩
    rw [if_pos rfl]
    show if (!inS (kinS z wd) g) = true then _ else _
    cases hi : inS (kinS z wd) g with
    | false => exact yes rfl ⟨_, rfl, (by show 1 ≤ 1000; decide), fun e he => ⟨e, _, G1, rfl, rfl, he, fun d' H' hd' hde h1 h2 h3 => ⟨rfl, d', _, h1, h2, hd', raised_at ((B.k3 z hz ez wd hwd ew hi).mv s1) he hd' hde h3⟩⟩⟩
    | true => exact no rfl (k z hz ez wd hwd ew hi G1 s1)
theorem scNum : FnScope ["op", "world", "kind", "cast", "named", "place", "spot", "row"] ["op", "world", "kind"] (defScope sNum) := ⟨rfl, rfl, rfl, by decide +kernel, rfl, by decide +kernel, by decide +kernel⟩
theorem ok_num {f fCk fH : Addr} {fd fdCk fdC fdH : FuncData} (F : FnP K "numbers_of" sNum f fd) (C : CastK K)
    (GCk : FnOk P w K mg base (L2N.CX P w) 6 fCk fdCk ["op", "world", "kind"] (spChk K)) (bCk : Binds K fdCk ["op", "world", "kind"] []) (kCk : PySem.W.keepIn K (.ref fCk) = true) (gCk : mg "check_kind" = some (.ref fCk))
    (GC : FnOk P w K mg base CX0 2 (ma K (ga K "Cast") "__init__") fdC ["self", "op", "world"] (spCastI K)) (bC : Binds K fdC ["self", "op", "world"] []) (gCa : mg "Cast" = some (.ref (ga K "Cast")))
    (GH : FnOk P w K mg base CX0 1 fH fdH ["op"] spHpl) (bH : Binds K fdH ["op"] []) (kH : PySem.W.keepIn K (.ref fH) = true) (gH : mg "has_place" = some (.ref fH)) : FnOk P w K mg base (L2N.CX P w) 7 f fd ["op", "world", "kind"] (spNum K) := by
  refine F.ok scNum (fun vs H Q E h => ?_) (fun cdv A outer s H vs Q E hr h => ?_)
  · obtain ⟨v, d, u, e, t, g, rfl, _⟩ := h
    rfl
  · obtain ⟨v, d, u, e, t, g, rfl, B, k⟩ := h
    have nd := scNum.nd
    have hr6 := hr.mono (j := 6) (by decide)
    have hr3 := hr.mono (j := 3) (by decide)
    have hr1 := hr.mono (j := 1) (by decide)
    have hu := Nat.lt_of_le_of_lt (Nat.add_le_add_left (by decide : 1 ≤ 64) _) hr.units
    refine ⟨_, (by exact (pss_cons (ps_expr (by exact (pe_callS GCk hr6 (by rfl) gCk kCk bCk (fun σ => L2N.passAt (L2N.takes_of rfl rfl rfl rfl) σ) (pa_cons (pv 0) (pa_cons (pv 1) (pa_cons (pv 2) pa_nil))))))
(pss_cons (ps_set (i := 3) nd rfl (Or.inr rfl) (pe_make C.made GC hr3 (by rfl) gCa bC .nil pass0 (pa_cons (pv 0) (pa_cons (pv 1) pa_nil))))
(pss_cons (ps_setLc (i := 4) (own := [("row", 7)]) (g := (gName 7))  rfl nd rfl rfl (sw_true rfl rfl rfl (by decide +kernel)) (pi_tup (pe_tup (pa_cons pe_str (pa_cons pe_str pa_nil)))) (blkOk_by (own := [("row", 7)]) (N := ["op", "world", "kind", "cast", "named", "place", "spot", "row"]) (sc := defScope sNum) (by decide +kernel)) (fun _ _ _ _ _ => (pg_name (i := 7) nd rfl (Or.inl rfl))) (fun _ _ _ _ _ => (pts_one ((pt_cmp (pc_din hu (pv 7) (show PE _ _ (tFld K (tVar 3) "homes") from pe_fld (pv 3) rfl)))))) (fun _ _ _ _ _ => (pv 7)))
(pss_cons (ps_set (i := 5) nd rfl (Or.inl rfl) (pe_ifExp (pt_val (pe_call GH hr1 (by rfl) gH kH bH .nil pass0 (pa_cons (pv 0) pa_nil))) (pe_lst (pa_cons pe_str pa_nil)) (pe_lst pa_nil)))
(pss_cons (ps_set (i := 6) nd rfl (Or.inl rfl) (pe_ifExp (pt_cmpR op_in_seq (pv 2) (pe_fld (pv 3) rfl) rfl) (pe_lst (pa_cons pe_str pa_nil)) (pe_lst pa_nil)))
(pss_one (ps_ret (pe_tup (pa_star (pe_fld (pv 3) rfl) (pa_star (pv 4) (pa_star (pv 5) (pa_star (pv 6) pa_nil))))))))))))), ?_⟩
    refine ⟨_, rfl, _, rfl, _, rfl, v, d, u, e, t, g, rfl, B, fun z hz ez wd hwd ew hi G1 s1 => ?_⟩
    obtain ⟨kd, hkd, rfl⟩ := inS_true hi
    subst ez ew
    obtain rfl := dp_str B.vd
    obtain rfl := dp_str B.ue
    obtain rfl := dp_str B.tg
    have k := k z hz rfl wd hwd rfl kd hkd rfl
    refine ⟨_, rfl, _, rfl, fun x dx nx ndx hne => ⟨x, dx, z, wd, rfl, upd_same, fun G T2 D fs sf ha hfT hfD hT hD => ⟨rfl, ?_⟩⟩⟩
    dsimp only [gName, List.set]
    have sG : Same H G := fun y o e' => sf y o (ne_of_none (s1 _ _ e') nx) ((upd_ne (ne_of_none (s1 _ _ e') nx)).trans ((upd_ne (ne_of_none (s1 _ _ e') ndx)).trans (s1 _ _ e')))
    clear sf nx ndx s1 hne
    have fl : ∀ l : List Str, (l.map V.str).all flatV = true := fun l => List.all_eq_true.mpr fun y hy => by
      obtain ⟨z, _, rfl⟩ := List.mem_map.mp hy
      rfl
    -- named
    refine seq_by (fun σ G2 => ∃ (A : Addr) (v7 : Option V), σ = [some (.str z), some (.str wd), some (.str kd), some (.ref x), some (.ref A), none, none, v7] ∧ Same G G2 ∧ G2 A = some (.lst (((["x", "y"] : List Str).filter (fun r : Str => if r = "x" then hasX z else hasY z wd)).map V.str))) ?_ (fun nxt => ?_)
    · rintro σ G2 ⟨A, v7, rfl, s2, hA⟩
      have sG := sG.mv s2
      have ha := ha.mv s2
      have hT := hT.mv s2
      clear s2
      -- place
      refine seq_by (fun σ G2' => ∃ Pl : Addr, σ = [some (.str z), some (.str wd), some (.str kd), some (.ref x), some (.ref A), some (.ref Pl), none, v7] ∧ Same G2 G2' ∧ G2' Pl = some (.lst ((if hplS z = true then (["k"] : List Str) else []).map V.str))) ?_ (fun nxt => ?_)
      · rintro σ G3 ⟨Pl, rfl, s3, hPl⟩
        have sG := sG.mv s3
        have ha := ha.mv s3
        have hT := hT.mv s3
        have hA := hA.mv s3
        clear s3
        -- spot
        refine seq_by (fun σ G3' => ∃ Sp : Addr, σ = [some (.str z), some (.str wd), some (.str kd), some (.ref x), some (.ref A), some (.ref Pl), some (.ref Sp), v7] ∧ Same G3 G3' ∧ G3' Sp = some (.lst ((if kd ∈ lsS z wd then (["row"] : List Str) else []).map V.str))) ?_ (fun nxt => ?_)
        · rintro σ G4 ⟨Sp, rfl, s4, hSp⟩
          have sG := sG.mv s4
          have ha := ha.mv s4
          have hT := hT.mv s4
          have hA := hA.mv s4
          have hPl := hPl.mv s4
          refine ⟨_, rfl, x, _, dx, fs, _, rfl, ha, C.cls, C.noat _ (by decide), hfT, T2, _, rfl, .inl (SqT.of hT), _, rfl, A, _, rfl, .inr (SqL.of hA), _, rfl, Pl, _, rfl, .inr (SqL.of hPl), _, rfl, Sp, _, rfl, .inr (SqL.of hSp), ?_, fun P nP => ?_⟩
          · have h1 := List.length_filter_le (thB z (apB z wd)) (["home", "to", "other"] : List Str)
            have h3 : (["home", "to", "other"] : List Str).length = 3 := rfl
            have h2 := List.length_filter_le (fun r : Str => if r = "x" then hasX z else hasY z wd) (["x", "y"] : List Str)
            have h4 : (["x", "y"] : List Str).length = 2 := rfl
            have h5 : (if hplS z = true then (["k"] : List Str) else []).length ≤ 1 := by split <;> decide
            have h6 : (if kd ∈ lsS z wd then (["row"] : List Str) else []).length ≤ 1 := by split <;> decide
            unfold lsS at h6 ⊢
            rw [List.length_append, List.length_append, List.length_append, List.length_append, List.length_map, List.length_map, List.length_map, List.length_map, sizeLine_eq]
            show _ + (_ + (_ + (_ + 0))) ≤ _
            omega
          · have nPH := sG.free nP
            generalize e_G5 : upd _ P _ = G5
            have s_P := new_same e_G5 nP
            have f_P := new_at e_G5
            clear e_G5
            have sG := sG.mv s_P
            refine k P G5 nPH sG ?_
            rw [f_P, List.append_nil]
            unfold numS
            rw [List.map_append, List.map_append, List.map_append]
        · refine ⟨_, rfl, _, rfl, x, _, dx, fs, _, rfl, ha, C.cls, C.noat _ (by decide), hfT, T2, _, rfl, .inr (SqT.of hT), rfl, fl _, _, rfl, ?_⟩
          rw [if_neg Bool.false_ne_true, inV_str]
          by_cases c : kd ∈ lsS z wd
          · refine yes (decide_eq_true c) ?_
            rw [if_pos c] at nxt
            refine ⟨(by show 1 ≤ sizeLine; decide), fun R nR => ?_⟩
            generalize e_G4 : upd _ R _ = G4
            have s_R := new_same e_G4 nR
            have f_R := new_at e_G4
            clear e_G4
            exact nxt _ _ ⟨R, rfl, s_R, f_R⟩
          · refine no (decide_eq_false c) ?_
            rw [if_neg c] at nxt
            refine ⟨(by show 0 ≤ sizeLine; decide), fun R nR => ?_⟩
            generalize e_G4 : upd _ R _ = G4
            have s_R := new_same e_G4 nR
            have f_R := new_at e_G4
            clear e_G4
            exact nxt _ _ ⟨R, rfl, s_R, f_R⟩
      · refine ⟨_, rfl, z, rfl, fun G3 s3 => ⟨_, rfl, ite2' (fun c => ?_) (fun c => ?_)⟩⟩
        · rw [if_pos c] at nxt
          refine ⟨(by show 1 ≤ sizeLine; decide), fun R nR => ?_⟩
          generalize e_G4 : upd _ R _ = G4
          have s_R := new_same e_G4 nR
          have f_R := new_at e_G4
          clear e_G4
          have s3 := s3.mv s_R
          exact nxt _ _ ⟨R, rfl, s3, f_R⟩
        · rw [if_neg (by rw [c]; decide)] at nxt
          refine ⟨(by show 0 ≤ sizeLine; decide), fun R nR => ?_⟩
          generalize e_G4 : upd _ R _ = G4
          have s_R := new_same e_G4 nR
          have f_R := new_at e_G4
          clear e_G4
          have s3 := s3.mv s_R
          exact nxt _ _ ⟨R, rfl, s3, f_R⟩
    · refine ⟨(by show 2 ≤ sizeLine; decide), fun T0 nT0 => ?_⟩
      generalize e_G1 : upd _ T0 _ = G1
      have s_T0 := new_same e_G1 nT0
      have f_T0 := new_at e_G1
      clear e_G1
      have ha := ha.mv s_T0
      have hD := hD.mv s_T0
      refine ⟨T0, rfl, ⟨_, SqT.of f_T0⟩, fun A nA => ?_⟩
      refine lc_it (walk_tup (K := K) (a := T0) (xs := (["x", "y"] : List Str).map V.str)) (fun j G2 => G2 A = some (.lst ((((["x", "y"] : List Str).take j).filter (fun r : Str => if r = "x" then hasX z else hasY z wd)).map V.str)) ∧ Same G1 G2) ?_ (fun i G _ h => SqT.of (h.2 _ _ f_T0)) ?_ ?_
      · skip
        generalize e_G2 : upd _ A _ = G2
        have s_A := new_same e_G2 nA
        have f_A := new_at e_G2
        clear e_G2
        exact ⟨f_A, s_A⟩
      · rintro j y G' G2 hj ⟨hA, s2⟩ ⟨rfl, hx⟩
        obtain ⟨r, hr0, rfl⟩ := Option.map_eq_some_iff.mp ((List.getElem?_map ..).symm.trans hx)
        have hrm := List.mem_of_getElem? hr0
        refine ⟨rfl, ?_⟩
        refine ⟨_, rfl, _, rfl, x, _, dx, fs, _, rfl, s2 _ _ ha, C.cls, C.noat _ (by decide), hfD, D, _, rfl, .inl ⟨_, .inr r, .inl (s2 _ _ hD), rfl, rfl⟩, _, rfl, ?_⟩
        have ev : (valV (hmS z wd) (.inr r)).isSome = (if r = "x" then hasX z else hasY z wd) := by
          rcases List.mem_cons.mp hrm with rfl | h
          · rw [if_pos rfl]; exact hm_x
          · rw [List.mem_singleton.mp h, if_neg (by decide)]; exact hm_y
        rw [ev, List.take_succ, hr0, List.filter_append, List.map_append]
        cases hb : (if r = "x" then hasX z else hasY z wd) with
        | true =>
          refine yes rfl ?_
          rw [show (Option.some r).toList.filter (fun r : Str => if r = "x" then hasX z else hasY z wd) = [r] by
            show List.filter _ [r] = [r]
            rw [List.filter_cons, if_pos hb]
            rfl]
          refine ⟨_, rfl, _, hA, ?_, upd_same, fun y o e => (upd_ne (ne_of_none e nA)).trans (s2 _ _ e)⟩
          have h1 := List.length_filter_le (fun r : Str => if r = "x" then hasX z else hasY z wd) ((["x", "y"] : List Str).take j)
          rw [List.length_take] at h1
          have h3 : (["x", "y"] : List Str).length = 2 := rfl
          rw [List.length_map, sizeLine_eq]
          omega
        | false =>
          refine no rfl ?_
          rw [show (Option.some r).toList.filter (fun r : Str => if r = "x" then hasX z else hasY z wd) = [] by
            show List.filter _ [r] = []
            rw [List.filter_cons, if_neg (by rw [hb]; decide)]
            rfl, List.map_nil, List.append_nil]
          exact ⟨hA, s2⟩
      · rintro G2 ⟨hA, s2⟩
        exact nxt _ _ ⟨A, _, rfl, s_T0.trans s2, hA⟩
end
end K33

set_option Elab.async false
set_option maxRecDepth 100000
set_option maxHeartbeats 2000000
/-! sorted(xs) and min(xs) of a list of alike data (numbers, texts, tuples of these). -/
namespace KX
open PySem PySem.Spec PySem.W PyProof.Rows L2
theorem dp_all {K : PySem.W.Frag} {H : Hp} {d : V → PyData} : ∀ {xs : List V}, (∀ x ∈ xs, Dp K H x (d x)) → DpAll K H xs (xs.map d)
  | [], _ => .nil
  | x :: xs, h => .cons (h x List.mem_cons_self) (dp_all fun y hy => h y (List.mem_cons_of_mem _ hy))
theorem each_rel : ∀ {xs : List V} {us : List Value}, Vals xs us → EachIs (fun u x => RelV x u) us xs
  | _, _, .nil => .nil
  | _, _, .cons h t => .cons h (each_rel t)
theorem rel_each : ∀ {xs : List V} {us : List Value}, EachIs (fun u x => RelV x u) us xs → Vals xs us
  | _, _, .nil => .nil
  | _, _, .cons h t => .cons h (rel_each t)
/-- what sorted makes of xs, by their data -/
abbrev srtD (d : V → PyData) (xs : List V) : List V := xs.mergeSort (dataLe false d)
def rSortDp (K : PySem.W.Frag) : List V → Hp → VK → Prop := fun vs H Q => ∃ (a : Addr) (xs : List V) (d : V → PyData), vs = [V.ref a] ∧ SqL K H a xs ∧ (∀ x ∈ xs, Dp K H x (d x)) ∧ AllAlike (xs.map d) ∧ Sortable (xs.map d) ∧ (∀ x ∈ xs, (d x).depth ≤ 60) ∧
  ∀ p, H p = none → Q (.ref p) (upd H p (.lst (srtD d xs)))
def rMinDp (K : PySem.W.Frag) : List V → Hp → VK → Prop := fun vs H Q => ∃ (a : Addr) (x : V) (xs : List V) (d : V → PyData), vs = [V.ref a] ∧ SqL K H a (x :: xs) ∧ (∀ y ∈ x :: xs, Dp K H y (d y)) ∧ AlikeAll ((x :: xs).map d) ∧ PyData.depthAll ((x :: xs).map d) ≤ 60 ∧
  ∀ y ∈ x :: xs, d y = minD (d x) (xs.map d) → Q y H
section
variable {X : Cx}
theorem cr_sortedDp (hu : X.A.units + 64 < cLine) : CallR X (.builtin "sorted") (rSortDp X.K) := by
  intro pins s σ H vs us Q I r h
  obtain ⟨a, xs, d, rfl, hs, hd, hal, hk, hdp, q⟩ := h
  obtain ⟨its, rv, hl, hlen⟩ := I.list hs
  rw [Vals.ref1 r]
  obtain ⟨as, ra⟩ := Dp.readsAll I (xs.map d) xs its (dp_all hd) rv
  refine sorted_data (bs := xs) (enc := d) (R := fun u x => RelV x u) hl.isList (each_rel rv) (readsAll_each d ra) hal hk ?_ (fun b hb => by have := hdp b hb; omega) fun out h1 h2 => ?_
  · first | exact hlen | (have := rv.length; omega)
  obtain ⟨ep, he'⟩ := PyProof.Rows.sortedAll_at s.heap its out.toArray
  have hL : (srtD d xs).length ≤ sizeLine := by
    rw [List.length_mergeSort]
    first | exact hlen | (have := rv.length; omega)
  exact ⟨.ref _, upd H (s.heap.objs.size + 1) (.lst (srtD d xs)), I.laid (t' := s.toks) (fun _ _ => PyProof.Rows.sortedAll_old) (Nat.le_succ _) ⟨hL, out.toArray.toList, ep, rel_each (by simpa using h2), by simpa using he'⟩, rfl, q _ (I.hok.fresh (Nat.le_succ _))⟩
theorem cr_minDp (hc : X.calm = true) (hu : X.A.units + 64 < cLine) : CallR X (.builtin "min") (rMinDp X.K) := by
  intro pins s σ H vs us Q I r h
  obtain ⟨a, x, xs, d, rfl, hs, hd, hal, hdp, q⟩ := h
  obtain ⟨its, rv, hl, hlen⟩ := I.list hs
  rw [Vals.ref1 r]
  obtain ⟨as, ra⟩ := Dp.readsAll I ((x :: xs).map d) (x :: xs) its (dp_all hd) rv
  refine min_list_data (I.ok.hd hc) hl.isList (x := d x) (xs := xs.map d) (by simpa using ra) hal (by show _ + 1 + PyData.depthAll ((x :: xs).map d) < _; omega) fun i v h' tk bs hv hr kp => ?_
  have hv' : its[i]? = some v := by simpa using hv
  have hix : i < (x :: xs).length := by
    have := (List.getElem?_eq_some_iff.mp hv').1
    rw [rv.length]
    exact this
  obtain ⟨u, hu2, ru⟩ := rv.get (List.getElem?_eq_getElem hix)
  obtain rfl : u = v := Option.some.inj (hu2.symm.trans hv')
  have hm : (x :: xs)[i] ∈ x :: xs := List.getElem_mem hix
  obtain ⟨as2, r2⟩ := Dp.reads I _ _ u (hd _ hm) ru
  have e := (Reads.unique (PyProof.Rows.Reads.keeps kp r2) _ _ hr).1
  exact ⟨_, H, I.kept kp, ru, q _ hm e⟩
end
end KX

set_option Elab.async false
set_option maxRecDepth 100000
set_option maxHeartbeats 2000000
/-! Sets of texts: added to, and taken in some order. -/
namespace KX
open PySem PySem.Spec PyProof.Rows
def keyS (e : Int × Value) : Str := match e.2 with | .str x _ => x | _ => Str.empty
/-- a set of just the texts L -/
def SetX (P : Program) (w : World) (h : Heap) (a : Addr) (L : List Str) : Prop :=
  ∃ o es ep t, h.get? a = some o ∧ o.ExactSet ∧ o.data = .set es ep t ∧ ElemsOf (PySem.strKind P w) es.toList ∧ (es.toList.map keyS).Perm L ∧ es.size < scanBound ∧ t.fits es.size = true ∧ L2.Ris t.place.toList ∧ (w.params.followText "set-order" = true ∨ t.led = true)
theorem isStr_key {e : Int × Value} {k : Str} {P : Program} {w : World} (h : (PySem.strKind P w).is k e.2 = true) : keyS e = k := by
  obtain ⟨i, v⟩ := e
  have h' : Value.isStrOf k v = true := h
  cases v <;> simp [Value.isStrOf, Value.isStr] at h'
  exact h'
section
variable {P : Program} {w : World} {A : Around} {E : Value → Shared → Prop} {s : Shared} {a : Addr}
theorem elems_key {l : List (Int × Value)} (h : ElemsOf (PySem.strKind P w) l) (x : Str) : (∃ e ∈ l, (PySem.strKind P w).is x e.2 = true) ↔ x ∈ l.map keyS := by
  constructor
  · rintro ⟨e, he, hk⟩
    exact List.mem_map.mpr ⟨e, he, isStr_key hk⟩
  · intro hx
    obtain ⟨e, he, rfl⟩ := List.mem_map.mp hx
    obtain ⟨⟨k, hk, _⟩, _⟩ := h e he
    rw [isStr_key hk]
    exact ⟨e, he, hk⟩
theorem setX_tail {g : Bool → Sem Unit} (hg : ∀ (b : Bool) (s₁ : Shared) (Q' : Unit → Shared → Prop), Q' () s₁ → wpAny (model P w) A (g b) Q' E s₁) {o : Obj} {es : Array (Int × Value)} {ep : Nat} {t : SetTable}
    (ho : s.heap.get? a = some o) (hx : o.ExactSet) (hd : o.data = .set es ep t) {es1 : Array (Int × Value)} {t2 : SetTable} {L' : List Str} (hel : ElemsOf (PySem.strKind P w) es1.toList) (hk : (es1.toList.map keyS).Perm L') (hlt : es1.size < scanBound)
    (hf : t2.fits es1.size = true) (hr : L2.Ris t2.place.toList) (hl : w.params.followText "set-order" = true ∨ t2.led = true) {wasDummy : Bool} {R : Option Bool → Shared → Prop}
    (k : ∀ h', Heap.SameBut a s.heap h' → SetX P w h' a L' → R (some true) { s with heap := h' }) :
    wpAny (model P w) A (do
      storeSet a es1 t2
      if (!wasDummy && SetTable.tooFull t2) = true then do
        g (relayAll t2 es1 (SetTable.grown es1.size)).2.2
        storeSet a (relayAll t2 es1 (SetTable.grown es1.size)).1 (relayAll t2 es1 (SetTable.grown es1.size)).2.1
        pure (some true)
      else pure (some true)) R E s := by
  have h1 := L2.store_at (h := s.heap) (es' := es1) (t' := t2) ho hd
  have sb : Heap.SameBut a s.heap (s.heap.update a (Obj.putSet es1 t2)) := Heap.SameBut.update _ _ _
  refine wpAny_bind (wpAny_storeSet_of ho hd ?_ (fits_of_scanBound hlt))
  by_cases c : (!wasDummy && SetTable.tooFull t2) = true
  · rw [if_pos c]
    refine wpAny_bind (hg _ _ _ ?_)
    have hp := relayAll_perm t2 es1 (SetTable.grown es1.size)
    have hz : (relayAll t2 es1 (SetTable.grown es1.size)).1.size < scanBound := by
      have := hp.length_eq
      simp only [Array.length_toList] at this
      omega
    have h2 := L2.store_at (h := s.heap.update a (Obj.putSet es1 t2)) (es' := (relayAll t2 es1 (SetTable.grown es1.size)).1) (t' := (relayAll t2 es1 (SetTable.grown es1.size)).2.1) h1 rfl
    refine wpAny_bind (wpAny_storeSet_of h1 rfl (wpAny_pure (k _ (sb.trans (Heap.SameBut.update _ _ _)) ?_)) (fits_of_scanBound hz))
    exact ⟨_, _, _, _, h2, hx, rfl, hel.perm hp, (hp.map _).trans hk, hz, relayAll_fits _ _ _, L2.relayAll_ris _ _ _, hl.imp id fun e => (L2.relayAll_led _ _ _).trans e⟩
  · rw [if_neg c]
    exact wpAny_pure (k _ sb ⟨_, _, _, _, h1, hx, rfl, hel, hk, hlt, hf, hr, hl⟩)
theorem setX_add {L : List Str} {x : Str} {tk : Tok} {Q : Bool → Shared → Prop} (h : SetX P w s.heap a L) (hn : L.length + 1 < scanBound)
    (k : ∀ b h', Heap.SameBut a s.heap h' → SetX P w h' a (if x ∈ L then L else L ++ [x]) → Q b { s with heap := h' }) : wpAny (model P w) A (setAddHashed a (.str x tk) (hashStr w x)) Q E s := by
  obtain ⟨o, es, ep, t, ho, hx, hd, hel, hk, hlt, hf, hr, hl⟩ := h
  have his : (PySem.strKind P w).is x (.str x tk) = true := by
    show Value.isStrOf x (.str x tk) = true
    simp [Value.isStrOf, Value.isStr]
  have hsz : es.size = L.length := by rw [← hk.length_eq, List.length_map, Array.length_toList]
  unfold setAddHashed
  refine wpAny_holding ?_
  rw [show (100000 : Nat) = 99999 + 1 from rfl, setAddHashedIn.eq_def]
  refine wpAny_bind (wpAny_setState_of ho hd hf ?_)
  dsimp only
  rw [if_pos (byScan_of (knd := PySem.strKind P w) rfl hlt hel)]
  refine wpAny_bind ?_
  unfold setAddByScan
  refine wpAny_bind (wpAny_rule ?_)
  refine wpAny_bind (wpAny_setScan_of (knd := PySem.strKind P w) (k := x) his ho hd hf hel ?_)
  cases hfi : List.findIdx? (fun e => (PySem.strKind P w).is x e.2) es.toList with
  | some j =>
    have hm : x ∈ L := by
      obtain ⟨hj, hp, _⟩ := List.findIdx?_eq_some_iff_getElem.mp hfi
      exact hk.mem_iff.mp ((elems_key hel x).mp ⟨_, List.getElem_mem hj, hp⟩)
    refine wpAny_pure (wpAny_pure ?_)
    have := k false s.heap (Heap.SameBut.refl _ _) (by rw [if_pos hm]; exact ⟨o, es, ep, t, ho, hx, hd, hel, hk, hlt, hf, hr, hl⟩)
    exact this
  | none =>
    have hm : x ∉ L := fun hm => by
      obtain ⟨e, he, hke⟩ := (elems_key hel x).mpr (hk.mem_iff.mpr hm)
      have := List.findIdx?_eq_none_iff.mp hfi e he
      rw [hke] at this
      cases this
    rw [if_neg hm] at k
    dsimp only
    have hp := layNew_perm t es (hashStr w x) (.str x tk)
    have hel1 : ElemsOf (PySem.strKind P w) (layNew t es (hashStr w x) (.str x tk)).1.toList := (hel.push his rfl).perm (hp.trans (by rw [Array.toList_push]; exact .refl _))
    have hk1 : ((layNew t es (hashStr w x) (.str x tk)).1.toList.map keyS).Perm (L ++ [x]) := (hp.map _).trans (by rw [Array.toList_push, List.map_append]; exact hk.append_right _)
    have hz1 : (layNew t es (hashStr w x) (.str x tk)).1.size < scanBound := by
      have := hp.length_eq
      simp only [Array.length_toList, Array.size_push] at this
      omega
    have hf1 := layNew_fits t es (hashStr w x) (.str x tk)
    have hr1 := L2.layNew_ris t es (hashStr w x) (.str x tk) hr
    have hl1 : w.params.followText "set-order" = true ∨ (layNew t es (hashStr w x) (.str x tk)).2.1.led = true := hl.imp id fun e => (L2.layNew_led _ _ _ _).trans e
    generalize layNew t es (hashStr w x) (.str x tk) = R at hel1 hk1 hz1 hf1 hr1 hl1
    obtain ⟨es1, t1, wd, gave⟩ := R
    dsimp only at hel1 hk1 hz1 hf1 hr1 hl1 ⊢
    have fin : ∀ h', Heap.SameBut a s.heap h' → SetX P w h' a (L ++ [x]) → wpAny (model P w) A (pure true) Q E { s with heap := h' } :=
      fun h' sb hs => wpAny_pure (k true h' sb hs)
    refine wpAny_bind ?_
    cases gave
    · refine wpAny_pure ?_
      by_cases c : t1.plain = true
      · rw [if_pos c, hashByValue.eq_5]
        refine wpAny_bind (wpAny_pure ?_)
        exact setX_tail (fun b _ _ h => by cases b <;> first | exact wpAny_pure h | exact wpAny_rule h) ho hx hd hel1 hk1 hz1 (SetTable.fits_plain_off hf1) hr1 hl1 fin
      · rw [if_neg c]
        refine wpAny_bind (wpAny_pure ?_)
        exact setX_tail (fun b _ _ h => by cases b <;> first | exact wpAny_pure h | exact wpAny_rule h) ho hx hd hel1 hk1 hz1 hf1 hr1 hl1 fin
    · refine wpAny_rule ?_
      by_cases c : t1.plain = true
      · rw [if_pos c, hashByValue.eq_5]
        refine wpAny_bind (wpAny_pure ?_)
        exact setX_tail (fun b _ _ h => by cases b <;> first | exact wpAny_pure h | exact wpAny_rule h) ho hx hd hel1 hk1 hz1 (SetTable.fits_plain_off hf1) hr1 hl1 fin
      · rw [if_neg c]
        refine wpAny_bind (wpAny_pure ?_)
        exact setX_tail (fun b _ _ h => by cases b <;> first | exact wpAny_pure h | exact wpAny_rule h) ho hx hd hel1 hk1 hz1 hf1 hr1 hl1 fin
theorem SetX.typeIs {L : List Str} (h : SetX P w s.heap a L) : Shared.TypeIs s (.ref a) "set" := by
  obtain ⟨o, es, ep, t, ho, hx, _⟩ := h
  exact ⟨o, ho, hx.1⟩
theorem call_setX_add {L : List Str} {x : Str} {tk : Tok} {Q : Value → Shared → Prop} (h : SetX P w s.heap a L) (hn : L.length + 1 < scanBound)
    (k : ∀ h', Heap.SameBut a s.heap h' → SetX P w h' a (if x ∈ L then L else L ++ [x]) → Q .none { s with heap := h', toks := s.toks + 1 }) : wpAny (model P w) A (call (.builtin "set.add") [.ref a, .str x tk]) Q E s := by
  refine wpAny_call_entry F.slot_set_add h.typeIs F.entry_set_add ?_ (F.args_set_add_2 _ _)
  unfold Builtin.«set.add»
  refine wpAny_bind (m := Builtin.Frozenset.oneOther "add" _) (wpAny_bind (wpAny_pure (wpAny_pure ?_)))
  dsimp only
  refine wpAny_bind ?_
  unfold setAdd
  refine wpAny_holding (wpAny_bind (wpAny_pyHash_str (setX_add h hn fun b h' sb hs => ?_)))
  exact wpAny_pure ⟨_, rfl, k h' sb hs⟩
theorem sorted_setX {L : List Str} {Q : Value → Shared → Prop} (hA : A.handled = none) (hu : A.units + 64 < cLine) (h : SetX P w s.heap a L)
    (k : ∀ (s' : Shared) (p : Addr) (out : List Value) (c : Nat) (L' : List Str), (∀ b o, s.heap.get? b = some o → s'.heap.get? b = some o) → s'.gens = s.gens → s'.os = s.os → s.heap.objs.size ≤ p → s'.heap.get? p = some (seqObj "list" out.toArray c) →
      PySem.W.EachIs (fun v x => ∃ t, v = Value.str x t) out (L'.mergeSort (PySem.W.dataLe false PyData.str)) → L'.Perm L → Q (.ref p) s') : wpAny (model P w) A (call (.builtin "sorted") [.ref a]) Q E s := by
  obtain ⟨o, es, ep, t, ho, hx, hd, hel, hk, hlt, hf, hr, hl⟩ := h
  refine PyProof.Rows.call_function_entry_kw (kw := []) kind_sorted plain_sorted entry_sorted (args_sorted1 _) ?_
  unfold Builtin.«sorted»
  refine wpAny_bind (m := checkCount "sorted" 1 1 _) (wpAny_pure ?_)
  refine wpAny_bind (L2.collect_set hA ⟨o, ho, hx.1, hd⟩ hf hlt hr hl fun s1 out old hsz hg hos hp => ?_)
  have hz : out.length ≤ sizeLine := by
    have h1 := hp.length_eq
    rw [List.length_map, show es.toList.length = es.size from Array.length_toList] at h1
    exact Nat.le_trans (Nat.le_of_eq h1) (fits_of_scanBound hlt)
  refine wpAny_bind (wpAny_newList ?_ hz)
  have hstr : ∀ v ∈ out, ∃ x t, v = Value.str x t := by
    intro v hv
    obtain ⟨e, he, rfl⟩ := List.mem_map.mp (hp.mem_iff.mp hv)
    obtain ⟨⟨x, hk, _⟩, _⟩ := hel e he
    have h' : Value.isStrOf x e.2 = true := hk
    obtain ⟨i, v⟩ := e
    cases v <;> simp [Value.isStrOf, Value.isStr] at h'
    exact ⟨_, _, rfl⟩
  have hperm : (out.map fun v => keyS (0, v)).Perm L := (hp.map _).trans (by rw [List.map_map]; exact hk)
  have hL : (s1.heap.push (seqObj "list" out.toArray 0)).get? s1.heap.objs.size = some (seqObj "list" out.toArray 0) := Heap.get?_push_size _ rfl
  have each : ∀ l : List Value, (∀ v ∈ l, ∃ x t, v = Value.str x t) → PySem.W.EachIs (fun v x => ∃ t, v = Value.str x t) l (l.map fun v => keyS (0, v)) ∧
      PySem.W.EachIs (fun v x => ∃ as, Reads (s1.heap.push (seqObj "list" out.toArray 0)) v (PyData.str x) as ∧ s1.heap.objs.size ∉ as) l (l.map fun v => keyS (0, v)) := by
    intro l hl
    induction l with
    | nil => exact ⟨.nil, .nil⟩
    | cons v r ih =>
      obtain ⟨x, t, rfl⟩ := hl v List.mem_cons_self
      have := ih fun u hu => hl u (List.mem_cons_of_mem _ hu)
      exact ⟨.cons ⟨t, rfl⟩ this.1, .cons ⟨[], .str x t, by simp⟩ this.2⟩
  have hlen : (out.map fun v => keyS (0, v)).length ≤ sizeLine := by rw [List.length_map]; exact hz
  refine wpAny_bind (wpAny_holding (PySem.W.list_sort_data (bs := out.map fun v => keyS (0, v)) (enc := PyData.str) hL (each out hstr).1 (each out hstr).2 ?_ ?_ hlen ?_ fun out2 hl2 he2 => ?_))
  · intro d hd d' hd'
    obtain ⟨x, _, rfl⟩ := List.mem_map.mp hd
    obtain ⟨y, _, rfl⟩ := List.mem_map.mp hd'
    rfl
  · refine .inr fun d hd => ?_
    obtain ⟨x, _, rfl⟩ := List.mem_map.mp hd
    exact ⟨(fun e => by cases e), fun _ e => by cases e⟩
  · intro b _
    have e1 : (PyData.str b).depth = 0 := rfl
    have e2 : A.in1.units = A.units + 1 := rfl
    omega
  · obtain ⟨c, hc⟩ := sortedHeap_at (out := out2.toArray) hL
    refine wpAny_pure ⟨_, rfl, ?_⟩
    refine k _ _ out2 c (out.map fun v => keyS (0, v)) (fun b o e => ?_) hg hos hsz hc he2 hperm
    have e1 := old b o e
    have e2 : (s1.heap.push (seqObj "list" out.toArray 0)).get? b = some o := Heap.get?_push_of_some _ e1
    exact (sortedHeap_old (Nat.ne_of_lt (Heap.lt_size e1)) (Heap.lt_size e2)).trans e2
end
end KX

set_option Elab.async false
set_option maxRecDepth 100000
set_option maxHeartbeats 2000000
/-! sorted({t[0] for t in d.values()}): the first parts (texts) of the tuples that stand in a dict. -/
namespace KX
open PySem PySem.Spec PyProof.Rows
def uniqS (xs : List Str) : List Str := xs.foldl (fun L x => if x ∈ L then L else L ++ [x]) []
theorem uniqS_snoc (xs : List Str) (x : Str) : uniqS (xs ++ [x]) = if x ∈ uniqS xs then uniqS xs else uniqS xs ++ [x] := by
  unfold uniqS
  rw [List.foldl_append]
  rfl
theorem uniqS_len : ∀ (xs : List Str), (uniqS xs).length ≤ xs.length := by
  have : ∀ (xs L : List Str), (xs.foldl (fun L x => if x ∈ L then L else L ++ [x]) L).length ≤ L.length + xs.length := by
    intro xs
    induction xs with
    | nil => intro L; simp
    | cons x r ih =>
      intro L
      refine Nat.le_trans (ih _) ?_
      dsimp only [List.length_cons]
      split
      · omega
      · rw [List.length_append, List.length_singleton]; omega
  intro xs
  have := this xs []
  simpa [uniqS] using this
theorem uniqS_mem (x : Str) (xs : List Str) : x ∈ uniqS xs ↔ x ∈ xs := by
  have : ∀ (xs L : List Str), x ∈ xs.foldl (fun L x => if x ∈ L then L else L ++ [x]) L ↔ x ∈ L ∨ x ∈ xs := by
    intro xs
    induction xs with
    | nil => intro L; simp
    | cons y r ih =>
      intro L
      rw [List.foldl_cons, ih]
      split
      · rename_i h
        constructor
        · rintro (h1 | h1)
          · exact .inl h1
          · exact .inr (List.mem_cons_of_mem _ h1)
        · rintro (h1 | h1)
          · exact .inl h1
          · rcases List.mem_cons.mp h1 with rfl | h1
            · exact .inl h
            · exact .inr h1
      · rw [List.mem_append, List.mem_singleton, List.mem_cons]
        constructor
        · rintro ((h1 | h1) | h1)
          · exact .inl h1
          · exact .inr (.inl h1)
          · exact .inr (.inr h1)
        · rintro (h1 | h1 | h1)
          · exact .inl (.inl h1)
          · exact .inl (.inr h1)
          · exact .inr h1
  have := this xs []
  simpa [uniqS] using this
theorem uniqS_nodup (xs : List Str) : (uniqS xs).Nodup := by
  have : ∀ (xs L : List Str), L.Nodup → (xs.foldl (fun L x => if x ∈ L then L else L ++ [x]) L).Nodup := by
    intro xs
    induction xs with
    | nil => intro L h; exact h
    | cons y r ih =>
      intro L h
      rw [List.foldl_cons]
      refine ih _ ?_
      split
      · exact h
      · rename_i hn
        exact List.nodup_append.mpr ⟨h, by simp, by intro a ha b hb; rw [List.mem_singleton] at hb; rintro rfl; exact hn (hb ▸ ha)⟩
  exact this xs [] List.nodup_nil
theorem SetX.at {P : Program} {w : World} {h h' : Heap} {a : Addr} {L : List Str} (z : SetX P w h a L) (k : ∀ o, h.get? a = some o → h'.get? a = some o) : SetX P w h' a L := by
  obtain ⟨o, es, ep, t, ho, r⟩ := z
  exact ⟨o, es, ep, t, k o ho, r⟩
theorem setX_fresh {P : Program} {h : Heap} {a : Addr} (w : World) (e : h.get? a = some { cls := .type "set", data := .set #[] 0 (SetTable.fresh 0 0 !w.params.followText "set-order") }) : SetX P w h a [] := by
  refine ⟨_, _, _, _, e, ⟨rfl, rfl, rfl⟩, rfl, (fun e he => absurd he (by simp)), .refl _, by decide, rfl, List.Pairwise.nil, ?_⟩
  cases hf : w.params.followText "set-order"
  · exact .inr rfl
  · exact .inl rfl
section
variable {P : Program} {w : World} {A : Around} {E : Value → Shared → Prop} {s : Shared}
theorem setFst_pass {env : Env} {scope : Scope} {cl : List (Str × Addr)} {v d : Addr} {y : Str} {pt pe pc ps : Pos} {kk : Nat} {kvs : List (L2.Key × Value)} {ep : Nat} {xs : List Str} {Q : Value → Shared → Prop} (hh : A.handled = none) (hkind : scope.kind = .function) (hy : scope.names.lookup y = some .local) (hdb : (y == Str.ofString "__debug__") = false)
    (hv : s.heap.IsValuesView v d) (hd : Heap.DictAt (L2.mixKind P w) s.heap d kvs ep) (hx : ∀ (i : Nat) k u, kvs[i]? = some (k, u) → ∃ (t : Addr) (its : Array Value) (x : Str) (tk : Tok), u = Value.ref t ∧ IsTup s.heap t its ∧ its[0]? = some (Value.str x tk) ∧ xs[i]? = some x) (hlen : xs.length = kvs.length) (hlt : kvs.length + 1 < scanBound)
    (k : ∀ D h' tk, s.heap.objs.size ≤ D → SetX P w h' D (uniqS xs) → (∀ b o, s.heap.get? b = some o → h'.get? b = some o) → Q (.ref D) { s with heap := h', toks := tk }) :
    wpAny (model P w) A (pyIter (.ref v)) (ScGoes P w A E env scope cl (.Name y pt) [] (.Subscript (.Name y pe) (.Constant (.int 0) kk pc) ps) none Q) E s := by
  have hdl : d < s.heap.objs.size := by obtain ⟨o, _, ho, _⟩ := hd; exact Heap.lt_size ho
  refine wpAny_pyIter_values hv hd ?_
  refine ⟨_, _, _, _, _, _, rfl, Goes.dictValues (knd := L2.mixKind P w) hh s.heap.objs.size d (Nat.ne_of_lt hdl) kvs ep, ⟨⟨_, Heap.get?_push_size _ rfl, rfl, rfl⟩, ?_⟩, fun D C s₃ hB hDset => ?_⟩
  · obtain ⟨o, es, ho, r⟩ := hd
    exact ⟨o, es, Heap.get?_push_of_some _ ho, r⟩
  · obtain ⟨⟨h₃, tk₃, rfl⟩, old, nD, nC, hDC, hnm⟩ := hB
    have nC' : s.heap.objs.size + 1 ≤ C := by
      have := nC
      rwa [size_push'] at this
    have nD' : s.heap.objs.size + 1 ≤ D := by
      have := nD
      rwa [size_push'] at this
    have kinds : (compEnvC scope cl C env).kindOf y = some .local := lookup_relabel_local hy
    have hp : ((compEnvC scope cl C env).scope.kind == .class || ((compEnvC scope cl C env).scope.kind == .module && (compEnvC scope cl C env).locals != (compEnvC scope cl C env).globals)) = false := by
      show (scope.kind == .class || (scope.kind == .module && _)) = false
      rw [hkind]; rfl
    have offC : ∀ b : Addr, b < s.heap.objs.size → b ≠ C := fun b hb e => by
      subst e
      exact absurd (Nat.lt_of_lt_of_le (Nat.lt_succ_of_lt hb) nC') (Nat.lt_irrefl _)
    have offD : ∀ b : Addr, b < s.heap.objs.size → b ≠ D := fun b hb e => by
      subst e
      exact absurd (Nat.lt_of_lt_of_le (Nat.lt_succ_of_lt hb) nD') (Nat.lt_irrefl _)
    have CI : C ≠ s.heap.objs.size := fun e => by
      rw [e] at nC'
      exact Nat.not_succ_le_self _ nC'
    have DI : D ≠ s.heap.objs.size := fun e => by
      rw [e] at nD'
      exact Nat.not_succ_le_self _ nD'
    refine ⟨fun i s₁ => ∃ h' tk m, s₁ = { s with heap := h', toks := tk } ∧ h'.Ns C m ∧ SetX P w h' D (uniqS (xs.take i)) ∧ ∀ b o, s.heap.get? b = some o → h'.get? b = some o,
      ⟨h₃, tk₃, _, rfl, hnm, setX_fresh w hDset, fun b o e => old b o (Heap.get?_push_of_some _ e)⟩, ?_, ?_, ?_⟩
    · rintro i s₁ h' tk ⟨h₄, tk₄, m, rfl, n₄, x₄, k₄⟩ hk' _
      refine ⟨h', tk, m, rfl, n₄.at' fun o e => hk' _ o (by simpa using CI) e, x₄.at fun o e => hk' _ o (by simpa using DI) e, fun b o e => hk' b o ?_ (k₄ b o e)⟩
      rw [List.mem_singleton]
      exact Nat.ne_of_lt (Heap.lt_size e)
    · rintro i u s₁ hi ⟨kk', hu⟩ st ⟨h₄, tk₄, m, rfl, n₄, x₄, k₄⟩
      obtain ⟨t, its, x, tkx, rfl, hT, hx0, hxi⟩ := hx i kk' u hu
      refine wpAny_assign_Name (wpAny_storeName_local kinds n₄ (fun h₆ n₆ s₆ => ?_) hp)
      refine wpAny_tests_nil ?_
      dsimp only
      rw [if_pos rfl]
      have k6 : ∀ b o, s.heap.get? b = some o → h₆.get? b = some o := fun b o e => (s₆.2 b (offC b (Heap.lt_size e))).trans (k₄ b o e)
      refine Subscript_ (wpAny_Name (wpAny_loadName_local hkind kinds n₆ (if_pos rfl) ?_) hdb)
      refine wpAny_Constant_int ?_
      obtain ⟨oT, hoT, r⟩ := hT
      refine item_tuple ⟨oT, k6 _ _ hoT, r⟩ (by decide) (by decide) (j := 0) ?_ hx0 ?_
      · have hz : 0 < its.size := (Array.getElem?_eq_some_iff.mp hx0).1
        have h2 : (0 : Int) < (its.size : Int) := by omega
        simp [seqIndex?, hz]
      · refine call_setX_add (L := uniqS (xs.take i)) (x₄.at fun o e => (s₆.2 D hDC).trans e) ?_ fun h₇ sb₇ x₇ => ?_
        · have h1 := uniqS_len (xs.take i)
          rw [List.length_take] at h1
          omega
        · refine ⟨⟨h₇, _, _, rfl, n₆.at' fun o e => (sb₇.2 C (Ne.symm hDC)).trans e, ?_, fun b o e => (sb₇.2 b (offD b (Heap.lt_size e))).trans (k6 b o e)⟩, ?_⟩
          · rw [List.take_succ, hxi]
            exact (uniqS_snoc _ _) ▸ x₇
          · obtain ⟨⟨oI, hoI, rI⟩, oD, es, hoD, rD⟩ := st
            have mv : ∀ b o, b ≠ C → b ≠ D → h₄.get? b = some o → h₇.get? b = some o := fun b o e1 e2 e => (sb₇.2 b e2).trans ((s₆.2 b e1).trans e)
            exact ⟨⟨oI, mv _ _ CI.symm DI.symm hoI, rI⟩, oD, es, mv _ _ (offC d hdl) (offD d hdl) hoD, rD⟩
    · rintro s₁ ⟨h₄, tk₄, m, rfl, n₄, x₄, k₄⟩
      refine ⟨m, n₄, fun h' sb => ?_⟩
      refine k D h' tk₄ (Nat.le_of_succ_le nD') ?_ fun b o e => (sb.2 b (offC b (Heap.lt_size e))).trans (k₄ b o e)
      rw [show kvs.length = xs.length from hlen.symm, List.take_length] at x₄
      exact x₄.at fun o e => (sb.2 D hDC).trans e
end
open L2
/-- the view d.values() at v -/
def ViewO (v d : Addr) : HO := .ext fun h => h.IsValuesView v d
/-- a set of just the texts L at a -/
def SetXO (P : Program) (w : World) (a : Addr) (L : List Str) : HO := .ext fun h => SetX P w h a L
def rVals : V → List V → Hp → VK → Prop := fun x xs H Q => ∃ d kvs, x = V.ref d ∧ xs = [] ∧ H d = some (.dK kvs) ∧ ∀ v, H v = none → Q (.ref v) (upd H v (ViewO v d))
def tSetFst (P : Program) (w : World) (K : PySem.W.Frag) (td : TE) : TE := fun σ H Q => td σ H fun x H1 => tyV K "dict" x H1 ∧ rVals x [] H1 fun x2 H2 => ∃ (v d : Addr) (kvs : List (Key × V)) (xs : List Str), x2 = V.ref v ∧ H2 v = some (ViewO v d) ∧ H2 d = some (.dK kvs) ∧
  (∀ (i : Nat) k v, kvs[i]? = some (k, v) → ∃ (t : Addr) (x : Str) (rest : List V), v = V.ref t ∧ H2 t = some (.tup (V.str x :: rest)) ∧ xs[i]? = some x) ∧ xs.length = kvs.length ∧ kvs.length + 1 < scanBound ∧
  ∀ D, H2 D = none → Q (.ref D) (upd H2 D (SetXO P w D (uniqS xs)))
def rSortX (P : Program) (w : World) : List V → Hp → VK → Prop := fun vs H Q => ∃ (a : Addr) (L : List Str), vs = [V.ref a] ∧ H a = some (SetXO P w a L) ∧ ∀ (p : Addr) (L' : List Str), L'.Perm L → H p = none → Q (.ref p) (upd H p (.lst ((L'.mergeSort (PySem.W.dataLe false PyData.str)).map V.str)))
section
variable {X : Cx}
theorem mt_values : MtR X "dict.values" rVals := by
  intro pins s σ H x xs v us Q I rx rs h
  obtain ⟨d, kvs, rfl, rfl, hd, q⟩ := h
  obtain rfl : v = Value.ref d := rx
  cases rs
  obtain ⟨_, hsys, vs, _, hD⟩ := (I.hok d _ hd : ObjOk _ _ _ _ _ (.dK kvs))
  obtain ⟨o, es, ep, ho, hx, hdt, _⟩ := id hD
  refine call_meetsIn F.slot_dict_values hD.typeIs F.entry_dict_values (F.args_dict_values_1 _) (meets_dict_values_raw d hsys) ⟨⟨es, ep, o, ho, hx, hdt⟩, ?_⟩
  have e : (s.heap.push { cls := .type "dict_values", data := .fields #[.ref d] }).get? s.heap.objs.size = some { cls := .type "dict_values", data := .fields #[.ref d] } := Heap.get?_push_size _ rfl
  refine ⟨.ref _, upd H s.heap.objs.size (ViewO s.heap.objs.size d), I.laid (t' := s.toks) (fun b u z => Heap.get?_push_of_some _ z) (Nat.le_refl _) ⟨⟨_, e, rfl, rfl⟩, ⟨_, e⟩, fun h1 h2 z k => ?_⟩, rfl, q _ (I.hok.fresh (Nat.le_refl _))⟩
  obtain ⟨o, h3, h4⟩ := z
  exact ⟨o, k o h3, h4⟩
theorem cr_sortedX (hc : X.calm = true) (hu : X.A.units + 64 < cLine) : CallR X (.builtin "sorted") (rSortX X.prog X.w) := by
  intro pins s σ H vs us Q I r h
  obtain ⟨a, L, rfl, ha, q⟩ := h
  rw [Vals.ref1 r]
  obtain ⟨hS, _⟩ := (I.hok a _ ha : ObjOk _ _ _ _ _ (SetXO X.prog X.w a L))
  refine sorted_setX (I.ok.hd hc) hu hS fun s' p out c L' old hg hos hp hL he hperm => ?_
  obtain ⟨S0, rfl⟩ : ∃ z, z = s' := ⟨_, rfl⟩
  have vals : ∀ (out : List Value) (ys : List Str), PySem.W.EachIs (fun v x => ∃ t, v = Value.str x t) out ys → Vals (ys.map V.str) out := by
    intro out ys z
    induction z with
    | nil => exact .nil
    | cons h t ih =>
      obtain ⟨tk, rfl⟩ := h
      exact .cons ⟨tk, rfl⟩ ih
  have J : Inv X pins σ (upd H p (.lst ((L'.mergeSort (PySem.W.dataLe false PyData.str)).map V.str))) { heap := S0.heap, gens := s.gens, drawn := S0.drawn, toks := S0.toks, os := s.os } := by
    have hl : ((L'.mergeSort (PySem.W.dataLe false PyData.str)).map V.str).length ≤ sizeLine := by
      obtain ⟨o, es, ep, t, _, _, _, _, h1, h2, _⟩ := hS
      rw [List.length_map, List.length_mergeSort, hperm.length_eq, ← h1.length_eq, List.length_map, Array.length_toList]
      exact fits_of_scanBound h2
    have J := I.laid (h' := S0.heap) (a := p) (o := .lst ((L'.mergeSort (PySem.W.dataLe false PyData.str)).map V.str)) (t' := S0.toks) old hp ⟨hl, out, c, vals _ _ he, hL⟩
    exact ⟨J.ok, J.os, J.bare, J.base, J.loc, J.cell, J.free, J.freeC, J.pin, J.hok, J.len⟩
  have e : S0 = { heap := S0.heap, gens := s.gens, drawn := S0.drawn, toks := S0.toks, os := s.os } := by
    rw [← hg, ← hos]
  rw [e]
  exact ⟨.ref p, _, J, rfl, q p L' hperm (I.hok.fresh hp)⟩
theorem kv_at : ∀ {kvs : List (Key × V)} {vs : List (Key × Value)}, KV kvs vs → ∀ {i : Nat} {k : Key} {u : Value}, vs[i]? = some (k, u) → ∃ v, kvs[i]? = some (k, v) ∧ RelV v u
  | _, _, .nil, _, _, _, e => by simp at e
  | (k1, v1) :: _, _, .cons h t, 0, k, u, e => by
    obtain ⟨rfl, rfl⟩ := Prod.mk.inj (Option.some.inj e)
    obtain ⟨h1, h2⟩ := h
    cases h1
    exact ⟨v1, rfl, h2⟩
  | _ :: _, _, .cons h t, i + 1, k, u, e => kv_at t (i := i) e
theorem kv_len : ∀ {kvs : List (Key × V)} {vs : List (Key × Value)}, KV kvs vs → kvs.length = vs.length
  | _, _, .nil => rfl
  | _, _, .cons _ t => congrArg (· + 1) (kv_len t)
theorem pe_setFst (hc : X.calm = true) {e : Expr} {td : TE} {y : Str} {pt pe pc ps ap cp pos : Pos} {scope : Scope} {kk : Nat} (hk : scope.kind = .function) (hl : ∀ z ∈ scope.names, z.2 = .local ∧ scope.names.lookup z.1 = some .local) (hy : scope.names.lookup y = some .local) (hdb : (y == Str.ofString "__debug__") = false) (he : PE X e td)
    (hbase : attributeBase e (Str.ofString "values") X.env (eval e X.env) = eval e X.env := by first | rfl | (intros; rfl)) (hline : (ap.endLine == cp.line) = true := by rfl) (fold : ∀ x, foldedSetIterable (.Call (.Attribute e (Str.ofString "values") ap) [] [] cp) X.env x = pure x := by intro _; rfl) :
    PE X (.SetComp (.Subscript (.Name y pe) (.Constant (.int 0) kk pc) ps) [⟨.Name y pt, .Call (.Attribute e (Str.ofString "values") ap) [] [] cp, [], 0⟩] scope pos) (tSetFst X.prog X.w X.K td) := by
  refine ⟨fun pins s σ H Q I h => ?_⟩
  refine SetComp_goes (cl := cloFrom X.env.cells scope.names []) (closure_ok fun z hz e => ?_) (fun z hz => ?_) hk (fun z hz _ => (hl z hz).2) ?_ fold
  · rw [(hl z hz).1] at e
    cases e
  · rw [(hl z hz).1]
    decide
  refine wpAny_mono ((pe_bm0 F.plainAttrs_dict F.slot_dict_values F.type_dict_values mt_values he hbase hline).run pins s σ H _ I h) (fun u s1 z => ?_) (fun _ _ z => z)
  obtain ⟨x2, H2, I2, ru, v, d, kvs, xs, rfl, hv, hd, hx, hlen, hlt, q⟩ := z
  obtain rfl : u = Value.ref v := ru
  obtain ⟨hview, _⟩ := (I2.hok v _ hv : ObjOk _ _ _ _ _ (ViewO v d))
  obtain ⟨_, hsys, vs, hkv, hD⟩ := (I2.hok d _ hd : ObjOk _ _ _ _ _ (.dK kvs))
  obtain ⟨ep, hDA⟩ := hD.dictAt
  have hlv := kv_len hkv
  refine setFst_pass (xs := xs) (I.ok.hd hc) hk hy hdb hview hDA (fun i k u hu => ?_) (hlen.trans hlv) (by omega) fun D h' tk hD' hS old => ?_
  · obtain ⟨w1, hw, rw1⟩ := kv_at hkv hu
    obtain ⟨t, x, rest, rfl, ht, hxi⟩ := hx i k w1 hw
    obtain rfl : u = Value.ref t := rw1
    obtain ⟨_, its, hvs, hT⟩ := (I2.hok t _ ht : ObjOk _ _ _ _ _ (.tup _))
    cases hvs with
    | cons h1 h2 =>
      obtain ⟨tk, rfl⟩ := h1
      exact ⟨t, _, x, tk, rfl, hT, rfl, hxi⟩
  · obtain ⟨o, es, ep2, t, ho, r⟩ := id hS
    exact ⟨.ref D, upd H2 D (SetXO X.prog X.w D (uniqS xs)), I2.laid (t' := tk) old hD' ⟨hS, ⟨o, ho⟩, fun h1 h2 z k => z.at k⟩, rfl, q D (I2.hok.fresh hD')⟩
end
end KX

set_option Elab.async false
set_option maxRecDepth 100000
set_option maxHeartbeats 2000000
/-! dict displays with ** in them: {**d, k: v}, {**d, **e}. -/
namespace KX
open PySem PySem.Spec PyProof.Rows
section
variable {P : Program} {w : World} {A : Around} {E : Value → Shared → Prop} {s : Shared} {K : Type} [DecidableEq K] {knd : PySem.KeyKind P w K}
theorem wp_dictPut {d : Addr} {kvs : List (K × Value)} {k : K} {key v : Value} {Q : Unit → Shared → Prop} (hk : knd.is k key = true) (h : Heap.DictOf knd s.heap d kvs) (hsz : kvs.length ≤ sizeLine)
    (q : ∀ h', Heap.DictOf knd h' d (stored kvs k v) → Heap.SameBut d s.heap h' → Q () { s with heap := h' }) : wpAny (model P w) A (dictPut d (knd.hash k) key v) Q E s := by
  obtain ⟨o, es, ep, ho, hx, hd, hks, hp, hn⟩ := h
  have hz : es.size ≤ sizeLine := by
    have := hp.length
    rw [Array.length_toList] at this
    omega
  have hob : o = { cls := o.cls, dict := o.dict, data := .dict es ep, slots := o.slots } := by
    obtain ⟨c, di, da, sl⟩ := o
    cases hd
    rfl
  have fi : Array.findIdx? (fun e => knd.is k e.key) es = List.findIdx? (fun kv => decide (kv.1 = k)) kvs := by
    rw [← hp.findIdx k]
    obtain ⟨l⟩ := es
    simp
  unfold dictPut
  refine wpAny_bind (wpAny_dictFind_of hk ho hd hks ?_)
  rw [fi]
  cases hf : List.findIdx? (fun kv => decide (kv.1 = k)) kvs with
  | some i =>
    have hany : (kvs.any fun kv => decide (kv.1 = k)) = true := by
      obtain ⟨hi, hpi, _⟩ := List.findIdx?_eq_some_iff_getElem.mp hf
      exact List.any_eq_true.mpr ⟨_, List.getElem_mem hi, hpi⟩
    refine wpAny_updateDict ho hd (q _ ?_ (Heap.SameBut.update _ _ _)) (Nat.le_of_eq Array.size_modify)
    refine ⟨_, es.modify i fun e => { hash := e.hash, key := e.key, val := v }, ep, Heap.get?_update_self _ ho (by rw [hob]; rfl), ?_, by rw [hob]; rfl, hks.modify i v, ?_, ?_⟩
    · rw [hob]; exact hx
    · have := hp.modify hn ((hp.findIdx k).trans hf) v
      unfold stored
      rw [if_pos hany]
      rw [Array.toList_modify]
      exact this
    · unfold stored
      rw [if_pos hany, List.map_map]
      rw [show (Prod.fst ∘ fun kv : K × Value => if kv.1 = k then (kv.1, v) else kv) = Prod.fst from funext fun kv => by dsimp only [Function.comp]; split <;> rfl]
      exact hn
  | none =>
    have hany : (kvs.any fun kv => decide (kv.1 = k)) = false := by
      rw [List.any_eq_false]
      intro kv hkv
      have := List.findIdx?_eq_none_iff.mp hf kv hkv
      rw [this]
      simp
    refine wpAny_updateDictKeys ho hd (q _ ?_ (Heap.SameBut.update _ _ _)) hz (Nat.le_of_eq (Array.size_push _))
    refine ⟨_, es.push { hash := knd.hash k, key := key, val := v }, ep + 1, Heap.get?_update_self _ ho (by rw [hob]; rfl), ?_, by rw [hob]; rfl, hks.push hk v, ?_, ?_⟩
    · rw [hob]; exact hx
    · unfold stored
      rw [if_neg (by rw [hany]; simp), Array.toList_push]
      exact hp.append hk _ v
    · unfold stored
      rw [if_neg (by rw [hany]; simp), List.map_append]
      refine List.nodup_append.mpr ⟨hn, by simp, ?_⟩
      intro a ha b hb
      rw [List.map_cons, List.map_nil, List.mem_singleton] at hb
      rintro rfl
      obtain ⟨kv, hkv, e⟩ := List.mem_map.mp ha
      have := List.any_eq_false.mp hany kv hkv
      rw [e, hb] at this
      simp at this
theorem pairs_at : ∀ {es : List DictEntry} {kvs : List (K × Value)}, Pairs knd es kvs → ∀ {i : Nat} {e : DictEntry}, es[i]? = some e → ∃ kv, kvs[i]? = some kv ∧ knd.is kv.1 e.key = true ∧ e.val = kv.2
  | _, _, .nil, _, _, h => by simp at h
  | _, _, .cons h1 h2 t, 0, e, h => by
    cases h
    exact ⟨_, rfl, h1, h2⟩
  | _, _, .cons h1 h2 t, i + 1, e, h => pairs_at t (i := i) h
theorem mm_loop {f : Nat → PUnit → Sem (ForInStep PUnit)} {d a : Addr} {kvs more : List (K × Value)} {Q : PUnit → Shared → Prop} {o2 : Obj} {es2 : Array DictEntry} {ep2 : Nat} (hne : d ≠ a) (h : Heap.DictOf knd s.heap d kvs) (hsz : kvs.length + more.length ≤ sizeLine)
    (ho2 : s.heap.get? a = some o2) (hd2 : o2.data = .dict es2 ep2) (hks2 : PySem.KeysOf knd es2) (hp2 : Pairs knd es2.toList more)
    (hf : ∀ (i : Nat) (s1 : Shared) (e : DictEntry) (Q' : ForInStep PUnit → Shared → Prop), es2[i]? = some e → s1.heap.get? a = some o2 → wpAny (model P w) A (dictPut d e.hash e.key e.val) (fun _ s2 => s2.heap.get? a = some o2 ∧ Q' (.yield ⟨⟩) s2) E s1 → wpAny (model P w) A (f i ⟨⟩) Q' E s1)
    (q : ∀ h', Heap.DictOf knd h' d (merged kvs more) → Heap.SameBut d s.heap h' → Q ⟨⟩ { s with heap := h' }) : wpAny (model P w) A (forIn (List.range es2.size) (⟨⟩ : PUnit) f) Q E s := by
  have hlen : es2.size = more.length := by
    have := hp2.length
    rwa [Array.length_toList] at this
  refine wpAny_forIn_list f (fun l b s1 => ∃ i h', i ≤ es2.size ∧ l = (List.range es2.size).drop i ∧ s1 = { s with heap := h' } ∧ Heap.DictOf knd h' d (merged kvs (more.take i)) ∧ Heap.SameBut d s.heap h') Q ?_ ?_ _ _ ⟨0, s.heap, Nat.zero_le _, rfl, rfl, h, Heap.SameBut.refl _ _⟩
  · rintro x rest b s1 ⟨i, h', hi, hl, rfl, hD, hS⟩
    have hlt : i < es2.size := by
      rcases Nat.lt_or_ge i es2.size with h | h
      · exact h
      · rw [List.drop_eq_nil_of_le (by rw [List.length_range]; exact h)] at hl
        cases hl
    rw [List.drop_eq_getElem_cons (by rw [List.length_range]; exact hlt)] at hl
    obtain ⟨hx, hr⟩ := List.cons.inj hl
    rw [List.getElem_range] at hx
    subst hx
    have he : es2[x]? = some es2[x] := Array.getElem?_eq_getElem hlt
    generalize es2[x] = e at he
    have he' : es2.toList[x]? = some e := by rw [Array.getElem?_toList]; exact he
    obtain ⟨kv, hkv, hk1, hk2⟩ := pairs_at hp2 he'
    have hash : e.hash = knd.hash kv.1 := by
      obtain ⟨k', hk', hh⟩ := hks2 e (Array.mem_of_getElem? he)
      rw [hh, knd.inj _ _ _ hk' hk1]
    have ha1 : h'.get? a = some o2 := (hS.2 a (Ne.symm hne)).trans ho2
    refine hf x _ e _ he ha1 ?_
    rw [hash, hk2]
    have hml : (merged kvs (more.take x)).length ≤ sizeLine := by
      have h1 := merged_length_le kvs (more.take x)
      rw [List.length_take] at h1
      omega
    refine wp_dictPut hk1 hD hml fun h2 hD2 hS2 => ⟨(hS2.2 a (Ne.symm hne)).trans ha1, x + 1, h2, hlt, hr, rfl, ?_, hS.trans hS2⟩
    rw [merged_take_succ kvs more x kv hkv]
    exact hD2
  · rintro b s1 ⟨i, h', hi, hl, rfl, hD, hS⟩
    have hge : es2.size ≤ i := by
      rcases Nat.lt_or_ge i es2.size with h | h
      · rw [List.drop_eq_getElem_cons (by rw [List.length_range]; exact h)] at hl
        cases hl
      · exact h
    rw [List.take_of_length_le (by omega)] at hD
    exact q h' hD hS
theorem wp_mergeMapping {d a : Addr} {kvs more : List (K × Value)} {Q : Unit → Shared → Prop} (hne : d ≠ a) (hsys : (a == sysModules) = false) (h : Heap.DictOf knd s.heap d kvs) (h2 : Heap.DictOf knd s.heap a more) (hsz : kvs.length + more.length ≤ sizeLine)
    (q : ∀ h', Heap.DictOf knd h' d (merged kvs more) → Heap.SameBut d s.heap h' → Q () { s with heap := h' }) : wpAny (model P w) A (mergeMapping d (.ref a) false) Q E s := by
  unfold mergeMapping
  obtain ⟨o, es, ep, ho, hx, hd, hks, hp, hn⟩ := id h
  obtain ⟨o2, es2, ep2, ho2, hx2, hd2, hks2, hp2, hn2⟩ := id h2
  have hz2 : es2.size = more.length := by
    have := hp2.length
    rwa [Array.length_toList] at this
  refine wpAny_bind (wpAny_isInstance h2.typeIs (b := true) (by kernel_rfl) ?_)
  rw [if_pos rfl]
  refine wpAny_bind (wpAny_specialOf h2.typeIs (r := some (.builtin "dict.__iter__")) (by rw [typeLookup_type, builtinLookup_eq_fast]; kernel_rfl) ?_)
  refine wpAny_bind (wpAny_pure ?_)
  rw [show (some (Value.builtin "dict.__iter__") == some (Value.builtin "dict.__iter__")) = true from by decide +kernel]
  dsimp only
  rw [if_neg (by rw [hsys]; simp)]
  refine wpAny_bind (wpAny_dictEntries ho hd ?_)
  have body : ∀ (i : Nat) (s1 : Shared) (e : DictEntry), es2[i]? = some e → True := fun _ _ _ _ => trivial
  by_cases c : es.isEmpty = true
  · rw [if_pos c]
    refine wpAny_bind (wpAny_dictEntries ho2 hd2 ?_)
    refine wpAny_bind (wpAny_mono (Q := fun _ s1 => s1 = s) (wpAny_forIn_array' _ (fun l _ s1 => s1 = s ∧ ∀ e ∈ l, carriedByValue e.key = true) _ ?_ (fun _ _ z => z.1) _ _ ⟨rfl, fun e he => ?_⟩) (fun _ s1 z => ?_) (fun _ _ z => z))
    · rintro e rest b s1 ⟨rfl, hl⟩
      have hk := hl e List.mem_cons_self
      have hr : ∀ e ∈ rest, carriedByValue e.key = true := fun e he => hl e (List.mem_cons_of_mem _ he)
      cases hkey : e.key with
      | ref r => rw [hkey] at hk; cases hk
      | _ => exact wpAny_pure ⟨rfl, hr⟩
    · obtain ⟨k, hk, _⟩ := hks2 e (Array.mem_toList_iff.mp he)
      exact knd.byValue k _ hk
    subst z
    refine wpAny_bind (wpAny_dictEntries ho2 hd2 ?_)
    refine wpAny_bind (wpAny_dictEpoch ho2 hd2 ?_)
    refine wpAny_bind (mm_loop hne h hsz ho2 hd2 hks2 hp2 (fun i s1 e Q' he ha hq => ?_) fun h' h1 h2 => wpAny_pure (q h' h1 h2))
    refine wpAny_bind (wpAny_dictEntries ha hd2 ?_)
    rw [he]
    dsimp only
    refine wpAny_bind (wpAny_holding ?_)
    rw [if_neg (by simp)]
    refine wpAny_mono hq (fun _ s2 z => ?_) (fun _ _ z => z)
    refine wpAny_bind (wpAny_dictEpoch z.1 hd2 ?_)
    rw [if_neg (by simp)]
    exact wpAny_pure z.2
  · rw [if_neg c]
    refine wpAny_bind (wpAny_dictEntries ho2 hd2 ?_)
    refine wpAny_bind (wpAny_dictEpoch ho2 hd2 ?_)
    refine wpAny_bind (mm_loop hne h hsz ho2 hd2 hks2 hp2 (fun i s1 e Q' he ha hq => ?_) fun h' h1 h2 => wpAny_pure (q h' h1 h2))
    refine wpAny_bind (wpAny_dictEntries ha hd2 ?_)
    rw [he]
    dsimp only
    refine wpAny_bind (wpAny_holding ?_)
    rw [if_neg (by simp)]
    refine wpAny_mono hq (fun _ s2 z => ?_) (fun _ _ z => z)
    refine wpAny_bind (wpAny_dictEpoch z.1 hd2 ?_)
    rw [if_neg (by simp)]
    exact wpAny_pure z.2
end
open L2
section
variable {X : Cx}
theorem v_merge {pins : List (Addr × Obj)} {σ : List (Option V)} {H : Hp} {s : Shared} {d a : Addr} {kvs more : List (Key × V)} {A : Around} {E : Value → Shared → Prop} {Q : Unit → Shared → Prop} (I : Inv X pins σ H s) (hd : H d = some (.dK kvs)) (ha : H a = some (.dK more)) (hne : d ≠ a) (hsz : kvs.length + more.length ≤ sizeLine)
    (q : ∀ s', Inv X pins σ (upd H d (.dK (mergeK kvs more))) s' → Q () s') : wpAny (model X.prog X.w) A (mergeMapping d (.ref a) false) Q E s := by
  obtain ⟨_, hs1, vs, kv1, D1⟩ := dk_of I.hok hd
  obtain ⟨_, hs2, ws, kv2, D2⟩ := dk_of I.hok ha
  refine wp_mergeMapping (knd := mixKind X.prog X.w) hne hs2 D1 D2 (by rw [← kv1.length, ← kv2.length]; exact hsz) fun h' D' sb => q _ ?_
  refine I.write (x := d) (e := d) (o := .dK (mergeK kvs more)) (t' := s.toks) (by rw [hd]; exact trivial) (.inl rfl) (fun b u hb e => (sb.2 b hb).trans e) ?_ (dk_new (Nat.le_trans (length_mergeK _ _) hsz) hs1 (kv2.merge kv1) D')
  obtain ⟨o, _, _, ho, _⟩ := D'
  exact ⟨o, ho⟩
def tDispMM (t1 t2 : TE) : TE := fun σ H Q => ∀ p, H p = none → t1 σ (upd H p (.dK [])) fun x H1 => ∃ (a : Addr) (kvs : List (Key × V)), x = V.ref a ∧ p ≠ a ∧ H1 p = some (.dK []) ∧ H1 a = some (.dK kvs) ∧
  t2 σ (upd H1 p (.dK (mergeK [] kvs))) fun y H2 => ∃ (b : Addr) (more : List (Key × V)), y = V.ref b ∧ p ≠ b ∧ H2 p = some (.dK (mergeK [] kvs)) ∧ H2 b = some (.dK more) ∧ (mergeK [] kvs).length + more.length ≤ sizeLine ∧ Q (.ref p) (upd H2 p (.dK (mergeK (mergeK [] kvs) more)))
theorem pe_dispMM {e1 e2 : Expr} {t1 t2 : TE} {pos : Pos} (h1 : PE X e1 t1) (h2 : PE X e2 t2) : PE X (.Dict [none, none] [e1, e2] pos) (tDispMM t1 t2) := by
  refine ⟨fun pins s σ H Q I h => ?_⟩
  rw [arm_eval_Dict]
  refine wpAny_bind (wpAny_standAt ?_)
  show wpAny _ _ (dictDisplay [(none, do let x ← eval e1 X.env; standAt pos; pure x), (none, do let x ← eval e2 X.env; standAt pos; pure x)]) _ _ _
  unfold dictDisplay
  simp only [List.forIn_cons, List.forIn_nil]
  refine wpAny_bind (wpAny_bind (wpAny_bind ?_))
  refine wp_if_pos (by rfl) (wpAny_pure ?_)
  dsimp only
  refine wpAny_bind (wpAny_alloc ?_)
  have big := I.big
  have I0 : Inv X pins σ (upd H s.heap.objs.size (.dK [])) { s with heap := s.heap.push { cls := .type "dict", data := .dict #[] } } := I.laid (t' := s.toks) (fun b u z => Heap.get?_push_of_some _ z) (Nat.le_refl _) (dk_empty _ big)
  have nP := I.hok.fresh (Nat.le_refl s.heap.objs.size)
  have h := h _ nP
  refine wpAny_bind (wpAny_holding (wpAny_bind (wpAny_mono (h1.run pins _ σ _ _ I0 h) (fun u s1 z => ?_) (fun _ _ z => z))))
  obtain ⟨x, H1, I1, rx, a, kvs, rfl, hne, hp, ha, h⟩ := z
  obtain rfl : u = Value.ref a := rx
  refine wpAny_bind (wpAny_standAt (wpAny_pure ?_))
  have hl : kvs.length ≤ sizeLine := (dk_of I1.hok ha).1
  refine wpAny_bind (wpAny_onRaise (wpAny_tryCatch (wpAny_onRaise (wpAny_holding (v_merge I1 hp ha hne (by simpa using hl) fun s2 I2 => ?_)))))
  refine wpAny_pure ?_
  dsimp only
  refine wpAny_bind (wpAny_bind ?_)
  refine wp_if_pos (by rfl) (wpAny_pure ?_)
  dsimp only
  refine wpAny_bind (wpAny_pure ?_)
  refine wpAny_bind (wpAny_holding (wpAny_bind (wpAny_mono (h2.run pins _ σ _ _ I2 h) (fun u s3 z => ?_) (fun _ _ z => z))))
  obtain ⟨x, H3, I3, rx, b, more, rfl, hne2, hp2, hb, hsz, h⟩ := z
  obtain rfl : u = Value.ref b := rx
  refine wpAny_bind (wpAny_standAt (wpAny_pure ?_))
  refine wpAny_bind (wpAny_onRaise (wpAny_tryCatch (wpAny_onRaise (wpAny_holding (v_merge I3 hp2 hb hne2 hsz fun s4 I4 => ?_)))))
  refine wpAny_pure ?_
  dsimp only
  refine wpAny_pure ?_
  refine wpAny_bind (wp_if_pos (by rfl) (wpAny_pure ?_))
  dsimp only
  exact wpAny_pure ⟨.ref _, _, I4, rfl, h⟩
def tDispMK (t1 tk tv : TE) : TE := fun σ H Q => ∀ p, H p = none → t1 σ (upd H p (.dK [])) fun x H1 => ∃ (a : Addr) (kvs : List (Key × V)), x = V.ref a ∧ p ≠ a ∧ H1 p = some (.dK []) ∧ H1 a = some (.dK kvs) ∧
  ∀ q, upd H1 p (.dK (mergeK [] kvs)) q = none → tk σ (upd (upd H1 p (.dK (mergeK [] kvs))) q (.dK [])) fun y H2 => tv σ H2 fun z H3 => ∃ k, y = kV k ∧ p ≠ q ∧ H3 p = some (.dK (mergeK [] kvs)) ∧ H3 q = some (.dK []) ∧ (mergeK [] kvs).length + 1 ≤ sizeLine ∧
    Q (.ref p) (upd (upd H3 q (.dK [(k, z)])) p (.dK (mergeK (mergeK [] kvs) [(k, z)])))
theorem pe_dispMK {e1 kx vx : Expr} {t1 tk tv : TE} {pos : Pos} (h1 : PE X e1 t1) (hk : PE X kx tk) (hv : PE X vx tv) : PE X (.Dict [none, some kx] [e1, vx] pos) (tDispMK t1 tk tv) := by
  refine ⟨fun pins s σ H Q I h => ?_⟩
  rw [arm_eval_Dict]
  refine wpAny_bind (wpAny_standAt ?_)
  show wpAny _ _ (dictDisplay [(none, do let x ← eval e1 X.env; standAt pos; pure x), (some (eval kx X.env), do let x ← eval vx X.env; standAt pos; pure x)]) _ _ _
  unfold dictDisplay
  simp only [List.forIn_cons, List.forIn_nil]
  refine wpAny_bind (wpAny_bind (wpAny_bind ?_))
  refine wp_if_pos (by rfl) (wpAny_pure ?_)
  dsimp only
  refine wpAny_bind (wpAny_alloc ?_)
  have big := I.big
  have I0 : Inv X pins σ (upd H s.heap.objs.size (.dK [])) { s with heap := s.heap.push { cls := .type "dict", data := .dict #[] } } := I.laid (t' := s.toks) (fun b u z => Heap.get?_push_of_some _ z) (Nat.le_refl _) (dk_empty _ big)
  have nP := I.hok.fresh (Nat.le_refl s.heap.objs.size)
  have h := h _ nP
  refine wpAny_bind (wpAny_holding (wpAny_bind (wpAny_mono (h1.run pins _ σ _ _ I0 h) (fun u s1 z => ?_) (fun _ _ z => z))))
  obtain ⟨x, H1, I1, rx, a, kvs, rfl, hne, hp, ha, h⟩ := z
  obtain rfl : u = Value.ref a := rx
  refine wpAny_bind (wpAny_standAt (wpAny_pure ?_))
  have hl : kvs.length ≤ sizeLine := (dk_of I1.hok ha).1
  refine wpAny_bind (wpAny_onRaise (wpAny_tryCatch (wpAny_onRaise (wpAny_holding (v_merge I1 hp ha hne (by simpa using hl) fun s2 I2 => ?_)))))
  refine wpAny_pure ?_
  dsimp only
  refine wpAny_bind (wpAny_pure ?_)
  dsimp only
  refine wpAny_pure ?_
  refine wpAny_bind ?_
  dsimp only
  refine wpAny_bind (wpAny_holding (wpAny_subDict_any (by show 1 ≤ 15; decide) ?_))
  have I3 : Inv X pins σ (upd (upd H1 s.heap.objs.size (.dK (mergeK [] kvs))) s2.heap.objs.size (.dK [])) { s2 with heap := s2.heap.push { cls := .type "dict", data := .dict #[] } } := I2.laid (t' := s2.toks) (fun b u z => Heap.get?_push_of_some _ z) (Nat.le_refl _) (dk_empty _ I2.big)
  have h := h _ (I2.hok.fresh (Nat.le_refl s2.heap.objs.size))
  rw [List.nil_append]
  simp only [evalPairs, storeAll, List.forIn_cons, List.forIn_nil]
  refine wpAny_bind (wpAny_mono (hk.run pins _ σ _ _ I3 h) (fun uk s4 z => ?_) (fun _ _ z => z))
  obtain ⟨y, H4, I4, ry, h⟩ := z
  refine wpAny_bind (wpAny_holding (wpAny_bind (wpAny_mono (hv.run pins _ σ _ _ I4 h) (fun uv s5 z => ?_) (fun _ _ z => z))))
  obtain ⟨zz, H5, I5, rz, k, rfl, hpq, hp5, hq5, hsz, h⟩ := z
  refine wpAny_bind (wpAny_standAt (wpAny_pure ?_))
  refine wpAny_bind (wpAny_holding (wpAny_pure (wpAny_pure ?_)))
  simp only [List.forIn_cons, List.forIn_nil]
  refine wpAny_bind (wpAny_bind (d_dictSet I5 hq5 (by show 0 < sizeLine; decide) ry rz fun s6 I6 => wpAny_pure ?_))
  dsimp only
  refine wpAny_pure ?_
  have hp6 : upd H5 s2.heap.objs.size (.dK (putK [] k zz)) s.heap.objs.size = some (.dK (mergeK [] kvs)) := by rw [upd_ne hpq]; exact hp5
  refine wpAny_bind (wpAny_onRaise (wpAny_holding (v_merge I6 hp6 upd_same hpq (by show (mergeK [] kvs).length + 1 ≤ sizeLine; exact hsz) fun s7 I7 => ?_)))
  refine wpAny_pure ?_
  dsimp only
  exact wpAny_pure ⟨.ref _, _, I7, rfl, h⟩
end
end KX

set_option Elab.async false
set_option maxRecDepth 100000
set_option maxHeartbeats 2000000
/-! [e for a in xs for b in ys]: the two walks. -/
namespace KX
open PySem PySem.Spec PyProof.Rows L2
section
variable {J : It} {n : Nat} {G : Hp → Prop} {Y : Nat → Hp → V → Hp → Prop} {g g1 : TG} {tt tt1 : TT} {te : TE} {wi1 : TI} {vs vs1 : List Nat} {σ : L2.St} {H1 : Hp} {D : Addr} {Qd : Hp → Prop}
/-- what the inner walk asks -/
def Inn (J1 : It) (g1 : TG) (tt1 : TT) (te : TE) (vs1 : List Nat) (σ2 : L2.St) (D : Addr) (Nx : Hp → Prop) (H4 : Hp) : Prop := ∃ W1 : Nat → Nat → Hp → Prop, (∃ m, W1 0 m H4) ∧ ∀ j k H, W1 j k H →
  (J1.stop j H ∧ Nx H) ∨ (J1.go j H ∧ ∃ Nx1 : Hp → Prop, (∀ H', Nx1 H' → ∃ k', k' < k ∧ W1 (j + 1) k' H') ∧ ∀ x H', J1.yld j H x H' → g1 x (wipe σ2 vs1) H' fun σ3 H5 => wipe σ3 vs1 = wipe σ2 vs1 ∧ tt1 σ3 H5 fun b H6 =>
    if b = true then te σ3 H6 fun y H7 => ∃ acc, H7 D = some (.lst acc) ∧ acc.length < sizeLine ∧ Nx1 (upd H7 D (.lst (acc ++ [y]))) else Nx1 H6)
theorem in_it {Nx : Hp → Prop} (w : Walk J n G Y) (Pv : Nat → Hp → Prop) (h0 : Pv 0 H1) (hG : ∀ i H, i ≤ n → Pv i H → G H)
    (hs : ∀ i x H H', i < n → Pv i H → Y i H x H' → g1 x (wipe σ vs1) H' fun σ3 H5 => wipe σ3 vs1 = wipe σ vs1 ∧ tt1 σ3 H5 fun b H6 =>
      if b = true then te σ3 H6 fun y H7 => ∃ acc, H7 D = some (.lst acc) ∧ acc.length < sizeLine ∧ Pv (i + 1) (upd H7 D (.lst (acc ++ [y]))) else Pv (i + 1) H6) (hd : ∀ H, Pv n H → Nx H) : Inn J g1 tt1 te vs1 σ D Nx H1 := by
  refine ⟨fun i m H => i + m = n ∧ Pv i H, ⟨n, Nat.zero_add n, h0⟩, fun i m H h => ?_⟩
  obtain ⟨hm, p⟩ := h
  have q := hG i H (by omega) p
  rcases Nat.lt_or_ge i n with hi | hi
  · exact .inr ⟨w.goes i H hi q, Pv (i + 1), fun H' p' => ⟨m - 1, by omega, by omega, p'⟩, fun x H' y => hs i x H H' hi p (w.yields i H x H' hi q y)⟩
  · obtain rfl : i = n := by omega
    exact .inl ⟨w.stops H q, hd H p⟩
theorem lc2_it (w : Walk J n G Y) (Pv : Nat → Hp → Prop) (h0 : Pv 0 (upd H1 D (.lst []))) (hG : ∀ i H, i ≤ n → Pv i H → G H)
    (hs : ∀ i x H H', i < n → Pv i H → Y i H x H' → g x (wipe σ vs) H' fun σ2 H2 => wipe σ2 vs = wipe σ vs ∧ tt σ2 H2 fun b H3 =>
      if b = true then wi1 σ2 H3 fun J1 H4 => Inn J1 g1 tt1 te vs1 σ2 D (Pv (i + 1)) H4 else Pv (i + 1) H3) (hd : ∀ H, Pv n H → Qd H) :
    ∃ W : Nat → Nat → Hp → Prop, (∃ m, W 0 m (upd H1 D (.lst []))) ∧ ∀ i m H, W i m H →
      (J.stop i H ∧ Qd H) ∨ (J.go i H ∧ ∃ Nx : Hp → Prop, (∀ H', Nx H' → ∃ m', m' < m ∧ W (i + 1) m' H') ∧ ∀ x H', J.yld i H x H' → g x (wipe σ vs) H' fun σ2 H2 => wipe σ2 vs = wipe σ vs ∧ tt σ2 H2 fun b H3 =>
        if b = true then wi1 σ2 H3 fun J1 H4 => Inn J1 g1 tt1 te vs1 σ2 D Nx H4 else Nx H3) := by
  refine ⟨fun i m H => i + m = n ∧ Pv i H, ⟨n, Nat.zero_add n, h0⟩, fun i m H h => ?_⟩
  obtain ⟨hm, p⟩ := h
  have q := hG i H (by omega) p
  rcases Nat.lt_or_ge i n with hi | hi
  · exact .inr ⟨w.goes i H hi q, Pv (i + 1), fun H' p' => ⟨m - 1, by omega, by omega, p'⟩, fun x H' y => hs i x H H' hi p (w.yields i H x H' hi q y)⟩
  · obtain rfl : i = n := by omega
    exact .inl ⟨w.stops H q, hd H p⟩
end
theorem dc_it {J : It} {n : Nat} {Gd : Hp → Prop} {Y : Nat → Hp → V → Hp → Prop} (w : Walk J n Gd Y) {g : TG} {tt : TT} {tk tv : TE} {vs : List Nat} {σ : L2.St} {H1 : Hp} {D : Addr} {Qd : Hp → Prop} (Pv : Nat → Hp → Prop) (h0 : Pv 0 (upd H1 D (.dK []))) (hl : ∀ i H, i ≤ n → Pv i H → Gd H)
    (hs : ∀ (i : Nat) (x : V) (H H' : Hp), i < n → Pv i H → Y i H x H' → g x (wipe σ vs) H' fun σ2 H2 => wipe σ2 vs = wipe σ vs ∧ tt σ2 H2 fun b H3 => if b = true then tk σ2 H3 fun y H4 => tv σ2 H4 fun z H5 => ∃ (kvs : List (Key × V)) (k : Key), y = kV k ∧ H5 D = some (.dK kvs) ∧ kvs.length < sizeLine ∧ Pv (i + 1) (upd H5 D (.dK (putK kvs k z))) else Pv (i + 1) H3)
    (hd : ∀ H, Pv n H → Qd H) :
    ∃ W : Nat → Nat → Hp → Prop, (∃ m, W 0 m (upd H1 D (.dK []))) ∧ ∀ i m H, W i m H →
      (J.stop i H ∧ Qd H) ∨ (J.go i H ∧ ∃ Nx : Hp → Prop, (∀ H', Nx H' → ∃ m', m' < m ∧ W (i + 1) m' H') ∧ ∀ x H', J.yld i H x H' → g x (wipe σ vs) H' fun σ2 H2 => wipe σ2 vs = wipe σ vs ∧ tt σ2 H2 fun b H3 => if b = true then tk σ2 H3 fun y H4 => tv σ2 H4 fun z H5 =>
        ∃ (kvs : List (Key × V)) (k : Key), y = kV k ∧ H5 D = some (.dK kvs) ∧ kvs.length < sizeLine ∧ Nx (upd H5 D (.dK (putK kvs k z))) else Nx H3) := by
  refine ⟨fun i m H => i + m = n ∧ Pv i H, ⟨n, Nat.zero_add _, h0⟩, fun i m H h => ?_⟩
  obtain ⟨hm, hp⟩ := h
  rcases Nat.lt_or_ge i n with hi | hi
  · refine .inr ⟨w.goes i H hi (hl i H (Nat.le_of_lt hi) hp), fun H' => Pv (i + 1) H', fun H' hp' => ⟨m - 1, by omega, by omega, hp'⟩, fun x H' hy => ?_⟩
    exact hs i x H H' hi hp (w.yields i H x H' hi (hl i H (Nat.le_of_lt hi) hp) hy)
  · have e : i = n := by omega
    subst e
    exact .inl ⟨w.stops H (hl i H (Nat.le_refl _) hp), hd H hp⟩
end KX

set_option Elab.async false
set_option maxRecDepth 100000
set_option maxHeartbeats 2000000
namespace K33
open PySem PySem.Spec PyProof.Rows L2 He KX StX
abbrev sPbd : Stmt := top 18
abbrev sHom : Stmt := top 15
theorem walk_zipT {K : PySem.W.Frag} {a b : Addr} {xs ys : List V} {n : Nat} (hn : n = min xs.length ys.length) : Walk (RZ.ItzT K a b) n (fun H => SqT K H a xs ∧ SqT K H b ys) (YPair (fun i => xs[i]?) (fun i => ys[i]?)) := by
  subst hn
  refine ⟨fun i _ hi q => ?_, fun _ q => ⟨xs, ys, q.1, q.2, by omega⟩, fun i H v H' _ q y => ?_⟩
  · have h1 : i < xs.length := by omega
    have h2 : i < ys.length := by omega
    exact ⟨xs, ys, xs[i], ys[i], q.1, q.2, by simp [h1], by simp [h2]⟩
  · obtain ⟨T, x, z, h1, h2, h3, h4, h5⟩ := y
    exact ⟨T, x, z, h1, h2, h3, h4 xs q.1, h5 ys q.2⟩
/-- an entry of texts -/
def TxE (p : Key × V) : Prop := ∃ r l : Str, p = (.inr r, .str l)
theorem txe_put {kvs : List (Key × V)} {r l : Str} (h : ∀ p ∈ kvs, TxE p) : ∀ p ∈ putK kvs (.inr r) (.str l), TxE p := by
  unfold putK
  split
  · intro p hp
    obtain ⟨q, hq, rfl⟩ := List.mem_map.mp hp
    split
    · obtain ⟨r2, l2, e⟩ := h q hq
      exact ⟨r2, l, by rw [e]⟩
    · exact h q hq
  · intro p hp
    rcases List.mem_append.mp hp with hp | hp
    · exact h p hp
    · exact ⟨r, l, List.mem_singleton.mp hp⟩
theorem txe_merge : ∀ {more kvs : List (Key × V)}, (∀ p ∈ kvs, TxE p) → (∀ p ∈ more, TxE p) → (∀ p ∈ mergeK kvs more, TxE p) ∧ (mergeK kvs more).length ≤ kvs.length + more.length
  | [], kvs, h, _ => ⟨h, Nat.le_refl _⟩
  | q :: r, kvs, h, h2 => by
    obtain ⟨a, b, e⟩ := h2 q List.mem_cons_self
    have ih := txe_merge (more := r) (kvs := putK kvs q.1 q.2) (by rw [e]; exact txe_put h) (fun p hp => h2 p (List.mem_cons_of_mem _ hp))
    have hl := length_putK kvs q.1 q.2
    refine ⟨ih.1, Nat.le_trans ih.2 ?_⟩
    rw [List.length_cons]
    omega
theorem hm_tx (op world : Str) : (∀ p ∈ hmS op world, TxE p) ∧ (hmS op world).length ≤ 2 := by
  unfold hmS
  constructor
  · intro p hp
    rcases List.mem_append.mp hp with hp | hp
    · split at hp
      · cases hp
      · exact ⟨_, _, List.mem_singleton.mp hp⟩
    · split at hp
      · exact ⟨_, _, List.mem_singleton.mp hp⟩
      · cases hp
  · rw [List.length_append]
    split <;> split <;> (show _ + _ ≤ 2; first | exact Nat.le_refl _ | (simp))
def spPbd : Sp := fun vs H Q _ => ∃ wd : Str, vs = [.str wd] ∧ ∀ v G, Same H G → Q v G
/-- homes_of -/
def spHom (K : PySem.W.Frag) : Sp := fun vs H Q _ => ∃ (x kt dx D : Addr) (fs : List (Str × V)) (hs : List (Key × V)) (ks : List Str), vs = [.ref x, .ref kt] ∧ H x = some (.ins (ga K "Cast") dx fs) ∧ fs.lookup ("homes" : Str) = some (V.ref D) ∧ H D = some (.dK hs) ∧ (∀ p ∈ hs, TxE p) ∧ hs.length ≤ 2 ∧ SqT K H kt (ks.map V.str) ∧ ks.length ≤ 2 ∧
  ∀ R kvs G, H R = none → Same H G → G R = some (.dK kvs) → (∀ p ∈ kvs, TxE p) → kvs.length ≤ 4 → Q (.ref R) G
section
variable {P : Program} {w : World} {K : PySem.W.Frag} {mg : Str → Option Value} {base : Heap}
theorem scPbd : FnScope ["world"] ["world"] (defScope sPbd) := ⟨rfl, rfl, rfl, by decide +kernel, rfl, by decide +kernel, by decide +kernel⟩
theorem ok_pbd {f : Addr} {fd : FuncData} (F : FnP K "place_bound" sPbd f fd) : FnOk P w K mg base CX0 1 f fd ["world"] spPbd := by
  refine F.ok scPbd (fun vs H Q E h => ?_) (fun cdv A outer s H vs Q E hr h => ?_)
  · obtain ⟨op, rfl, _⟩ := h
    rfl
  · obtain ⟨wd, rfl, k⟩ := h
    have nd := scPbd.nd
    refine ⟨_, PSs.nox (pss_one (ps_ret (pe_ifExp (pt_cmpR op_eq (pv 0) pe_str (nomark _)) (pe_tup (pa_cons pe_str (pa_cons pe_str (pa_cons pe_int pa_nil)))) (pe_tup (pa_cons pe_str (pa_cons pe_str (pa_cons pe_int pa_nil))))))), ?_⟩
    refine ⟨_, rfl, rfl, _, rfl, ite2' (fun _ => ?_) (fun _ => ?_)⟩
    · refine ⟨(by show 3 ≤ sizeLine; decide), fun T nT => ?_⟩
      generalize e_G1 : upd _ T _ = G1
      have s_T := new_same e_G1 nT
      have f_T := new_at e_G1
      clear e_G1
      exact k _ _ s_T
    · refine ⟨(by show 3 ≤ sizeLine; decide), fun T nT => ?_⟩
      generalize e_G1 : upd _ T _ = G1
      have s_T := new_same e_G1 nT
      have f_T := new_at e_G1
      clear e_G1
      exact k _ _ s_T
theorem scHom : FnScope ["cast", "kinds", "row", "lst"] ["cast", "kinds"] (defScope sHom) := ⟨rfl, rfl, rfl, by decide +kernel, rfl, by decide +kernel, by decide +kernel⟩
theorem ok_hom {f : Addr} {fd : FuncData} (F : FnP K "homes_of" sHom f fd) (C : CastK K) (hS : ∀ H, SqT K H (ga K "SOME") ((["row", "next"] : List Str).map V.str)) (gSOME : mg "SOME" = some (.ref (ga K "SOME"))) (n_zip : mg "zip" = none) : FnOk P w K mg base CX0 1 f fd ["cast", "kinds"] (spHom K) := by
  refine F.ok scHom (fun vs H Q E h => ?_) (fun cdv A outer s H vs Q E hr h => ?_)
  · obtain ⟨x, kt, dx, D, fs, hs, ks, rfl, _⟩ := h
    rfl
  · obtain ⟨x, kt, dx, D, fs, hs, ks, rfl, hx, hfD, hD, htx, hsl, hkt, hkl, k⟩ := h
    have nd := scHom.nd
    refine ⟨_, PSs.nox (pss_one (ps_ret (pe_dispMM (pe_fld (pv 0) rfl) (pe_dc (own := [("row", 2), ("lst", 3)]) (g := (gTup K 2 (gCons (gName 2) (gCons (gName 3) gNil)))) (tt := tYes) rfl nd (RZ.pi_zipA (by rfl) n_zip (pa_cons (pe_glob (v := .ref (ga K "SOME")) rfl gSOME rfl) (pa_cons (pv 1) pa_nil))) (blkOk_by (own := [("row", 2), ("lst", 3)]) (N := ["cast", "kinds", "row", "lst"]) (sc := defScope sHom) (by decide +kernel)) (fun _ _ _ _ _ => (pg_tup rfl (pgs_cons (pg_name (i := 2) nd rfl (Or.inl rfl) (.inr rfl)) (pgs_cons (pg_name (i := 3) nd rfl (Or.inl rfl) (.inr rfl)) pgs_nil)))) (fun _ _ _ _ _ => pts_nil) (fun _ _ _ _ _ => (pv 2)) (fun _ _ _ _ _ => (pv 3)))))), ?_⟩
    refine fun p np => ⟨_, rfl, x, _, dx, fs, _, rfl, same_put np _ _ hx, C.cls, C.noat _ (by decide), hfD, D, hs, rfl, (ne_of_none hD np).symm, upd_same, same_put np _ _ hD, ?_⟩
    have sHp : Same H (upd (upd H p (.dK [])) p (.dK (mergeK [] hs))) := fun y o e => by rw [upd_ne (ne_of_none e np), upd_ne (ne_of_none e np)]; exact e
    have hp0 : upd (upd H p (.dK [])) p (.dK (mergeK [] hs)) p = some (.dK (mergeK [] hs)) := upd_same
    generalize upd (upd H p (.dK [])) p (.dK (mergeK [] hs)) = G0 at sHp hp0 ⊢
    obtain ⟨m1, m2⟩ := txe_merge (kvs := []) (more := hs) (fun _ z => nomatch z) htx
    have m2 : (mergeK [] hs).length ≤ 2 := Nat.le_trans m2 (by show 0 + hs.length ≤ 2; omega)
    refine ⟨_, rfl, ga K "SOME", kt, _, _, rfl, .inr ⟨hS G0, hkt.mv sHp, fun D2 nD2 => ?_⟩⟩
    refine dc_it (walk_zipT (K := K) (a := ga K "SOME") (b := kt) (xs := (["row", "next"] : List Str).map V.str) (ys := ks.map V.str) (n := min 2 ks.length) (by rw [List.length_map, List.length_map]; rfl)) (fun i G => (∃ kvs, G D2 = some (.dK kvs) ∧ (∀ p ∈ kvs, TxE p) ∧ kvs.length ≤ i) ∧ Same G0 G) ?_ (fun i G _ h => ⟨hS G, hkt.mv (sHp.trans h.2)⟩) ?_ ?_
    · exact ⟨⟨[], upd_same, (fun _ z => nomatch z), Nat.le_refl _⟩, same_put nD2⟩
    · rintro i v G G' hi ⟨⟨kvs, hD2, ht2, hl2⟩, s2⟩ ⟨T, a, b, rfl, nT, rfl, ha, hb⟩
      obtain ⟨r, _, rfl⟩ := Option.map_eq_some_iff.mp ((List.getElem?_map ..).symm.trans ha)
      obtain ⟨l, _, rfl⟩ := Option.map_eq_some_iff.mp ((List.getElem?_map ..).symm.trans hb)
      generalize e_G2 : upd _ T _ = G2
      have s_T := new_same e_G2 nT
      have f_T := new_at e_G2
      clear e_G2
      have hD2 := hD2.mv s_T
      have s2 := s2.mv s_T
      refine ⟨_, _, rfl, SqT.of f_T, rfl, _, _, rfl, _, _, rfl, rfl, rfl, ?_⟩
      dsimp only [tYes]
      rw [if_pos rfl]
      refine ⟨_, rfl, _, rfl, kvs, .inr r, rfl, hD2, by rw [sizeLine_eq]; omega, ⟨_, upd_same, txe_put ht2, ?_⟩, fun y o e => (upd_ne (ne_of_none e nD2)).trans (s2 _ _ e)⟩
      have := length_putK kvs (Sum.inr r : Key) (V.str l)
      omega
    · rintro G ⟨⟨kvs, hD2, ht2, hl2⟩, s2⟩
      have npD : p ≠ D2 := ne_of_none hp0 nD2
      obtain ⟨m3, m4⟩ := txe_merge (kvs := mergeK [] hs) (more := kvs) m1 ht2
      refine ⟨D2, kvs, rfl, npD, s2 _ _ hp0, hD2, by rw [sizeLine_eq]; omega, ?_⟩
      refine k p _ _ np (fun y o e => (upd_ne (ne_of_none e np)).trans (s2 _ _ (sHp _ _ e))) upd_same m3 (Nat.le_trans m4 (by omega))
end
end K33

set_option Elab.async false
set_option maxRecDepth 100000
set_option maxHeartbeats 2000000
namespace K33
open PySem PySem.Spec PyProof.Rows L2 He KX StX
abbrev sStb : Stmt := top 17
abbrev sStd : Stmt := top 27
theorem val_some {kvs : List (Key × V)} {k : Key} {v : V} {j : Nat} (h : kvs[j]? = some (k, v)) : ∃ u, valV kvs k = some u := by
  have hm := List.mem_of_getElem? h
  unfold valV
  cases e : kvs.find? fun kv => decide (kv.1 = k) with
  | some q => exact ⟨q.2, by rfl⟩
  | none => exact absurd (decide_eq_true rfl) (List.find?_eq_none.mp e _ hm)
theorem sqT_lock {K : PySem.W.Frag} {H : Hp} {N D : Addr} {xs : List V} {kvs : List (Key × V)} {o : HO} (h : SqT K H N xs) (hD : H D = some (.dK kvs)) : SqT K (upd H D o) N xs := by
  rcases h with (h | ⟨o2, h⟩) | h
  · exact .inl (.inl ((upd_ne (by rintro rfl; rw [hD] at h; cases h)).trans h))
  · exact .inl (.inr ⟨o2, (upd_ne (by rintro rfl; rw [hD] at h; cases h)).trans h⟩)
  · exact .inr h
theorem unlock {d : Addr} {od : Obj} {u : HO} {H G : Hp} (hd : H d = some u) (s : Same (upd H d (.frz od u)) G) : Same H (upd G d u) := fun x o e => by
  by_cases hx : x = d
  · subst hx
    rw [upd_same, ← hd]
    exact e
  · rw [upd_ne hx]
    exact s _ _ ((upd_ne hx).trans e)
def spStb (K : PySem.W.Frag) : Sp := fun vs H Q _ => ∃ (wd : Str) (D N : Addr) (kvs : List (Key × V)) (ns : List Str), vs = [.str wd, .ref D, .ref N] ∧ H D = some (.dK kvs) ∧ (∀ p ∈ kvs, TxE p) ∧ kvs.length ≤ 4 ∧ SqT K H N (ns.map V.str) ∧ ns.length ≤ 20 ∧ ∀ v G, Same H G → Q v G
section
variable {P : Program} {w : World} {K : PySem.W.Frag} {mg : Str → Option Value} {base : Heap}
theorem scStb : FnScope ["world", "homes", "names", "found", "name", "row"] ["world", "homes", "names"] (defScope sStb) := ⟨rfl, rfl, rfl, by decide +kernel, rfl, by decide +kernel, by decide +kernel⟩
theorem ok_stb {f fP : Addr} {fd fdP : FuncData} (F : FnP K "standing_bounds" sStb f fd) (GP : FnOk P w K mg base CX0 1 fP fdP ["world"] spPbd) (bP : Binds K fdP ["world"] []) (kP : PySem.W.keepIn K (.ref fP) = true) (gP : mg "place_bound" = some (.ref fP)) : FnOk P w K mg base CX0 2 f fd ["world", "homes", "names"] (spStb K) := by
  refine F.ok scStb (fun vs H Q E h => ?_) (fun cdv A outer s H vs Q E hr h => ?_)
  · obtain ⟨wd, D, N, kvs, ns, rfl, _⟩ := h
    rfl
  · obtain ⟨wd, D, N, kvs, ns, rfl, hD, htx, hkl, hN, hnl, k⟩ := h
    have nd := scStb.nd
    have hr1 := hr.mono (j := 1) (by decide)
    have hu := Nat.lt_of_le_of_lt (Nat.add_le_add_left (by decide : 1 ≤ 64) _) hr.units
    have fl : ∀ l : List Str, (l.map V.str).all flatV = true := fun l => List.all_eq_true.mpr fun y hy => by
      obtain ⟨z, _, rfl⟩ := List.mem_map.mp hy
      rfl
    refine ⟨_, PSs.nox (pss_cons (ps_set (i := 3) nd rfl (Or.inl rfl) (pe_lst pa_nil))
(pss_cons (ps_for PassesOwn.never rfl (pi_tup (pv 2)) (pg_name (i := 4) nd rfl (Or.inl rfl))
(pss_one (ps_if (pt_cmpR op_in_seq (pv 4) (pe_tup (pa_cons pe_str (pa_cons pe_str (pa_cons pe_str pa_nil)))) rfl)
(pss_one (ps_expr (pe_bm PySem.F.plainAttrs_list PySem.F.slot_list_append PySem.F.type_list_append mt_append (pv 3) (pa_cons (pe_tup (pa_cons pe_str (pa_cons (pv 4) (pa_cons pe_int pa_nil)))) pa_nil))))
(pss_one (ps_if (PW.pt (pw_or (pt_cmp (pc_din hu (pv 4) (pv 1))) (pw_or1 (pt_cmpR op_eq (pv 4) pe_str (nomark _)))))
(pss_one (ps_expr (pe_bm PySem.F.plainAttrs_list PySem.F.slot_list_append PySem.F.type_list_append mt_append (pv 3) (pa_cons (pe_tup (pa_cons pe_str (pa_cons (pv 4) (pa_cons (pe_un un_neg pe_int) pa_nil)))) pa_nil))))
pss_nil)))))
(pss_cons (ps_expr (pe_bm PySem.F.plainAttrs_list PySem.F.slot_list_extend PySem.F.type_list_extend mt_extend (pv 3) (pa_cons (pe_lock (pe_lc (own := [("row", 5)]) (g := (gName 5))  rfl nd (pi_keys (pv 1)) (blkOk_by (own := [("row", 5)]) (N := ["world", "homes", "names", "found", "name", "row"]) (sc := defScope sStb) (by decide +kernel)) (fun _ _ _ _ _ => (pg_name (i := 5) nd rfl (Or.inl rfl))) (fun _ _ _ _ _ => (pts_one (pt_cmpR (show OpR _ _ (rIn K false) from op_in_seq) (pv 5) (pv 2) rfl))) (fun _ _ _ _ _ => (pe_tup (pa_cons (pv 5) (pa_cons (pe_dget hu (pv 1) (pv 5) (fun _ _ => rfl)) (pa_cons pe_int pa_nil))))))) pa_nil)))
(pss_one (ps_ret (pe_ifExp (pt_cmpR op_in_seq pe_str (pv 2) rfl) (pe_lst (pa_star (pv 3) (pa_cons (pe_call GP hr1 (by rfl) gP kP bP .nil pass0 (pa_cons (pv 0) pa_nil)) pa_nil))) (pv 3))))))), ?_⟩
    refine ⟨by decide, fun F0 nF => ?_⟩
    have nFD : D ≠ F0 := ne_of_none hD nF
    generalize e_G1 : upd _ F0 _ = G1
    have s_F0 := new_same e_G1 nF
    have f_F0 := new_at e_G1
    clear e_G1
    dsimp only [gName, List.set]
    refine ⟨_, rfl, N, rfl, ⟨_, hN.mv s_F0⟩, ?_⟩
    refine for_it (walk_tup (K := K) (a := N) (xs := ns.map V.str)) (fun j σ G => ∃ (v4 v5 : Option V) (xs : List V), σ = [some (.str wd), some (.ref D), some (.ref N), some (.ref F0), v4, v5] ∧ Same H G ∧ G F0 = some (.lst xs) ∧ xs.length ≤ j) ⟨none, none, [], rfl, s_F0, f_F0, Nat.le_refl _⟩ (fun _ _ _ _ h => by obtain ⟨_, _, _, _, q, _⟩ := h; exact hN.mv q) ?_ ?_
    · clear s_F0 f_F0
      rintro j x σ G' G hj ⟨v4, v5, xs, rfl, sG, hF, hxl⟩ ⟨rfl, hx⟩
      obtain ⟨z, hz, rfl⟩ := Option.map_eq_some_iff.mp ((List.getElem?_map ..).symm.trans hx)
      rw [List.length_map] at hj
      dsimp only [gName, List.set]
      have add : ∀ (i : Int) (T : Addr) (G2 : Hp), G T = none → Same G G2 → G2 F0 = some (.lst xs) → (∃ (v4 v5' : Option V) (ys : List V), [some (.str wd), some (.ref D), some (.ref N), some (.ref F0), some (.str z), v5] = [some (.str wd), some (.ref D), some (.ref N), some (.ref F0), v4, v5'] ∧ Same H (upd G2 F0 (.lst (xs ++ [.ref T]))) ∧ upd G2 F0 (.lst (xs ++ [.ref T])) F0 = some (.lst ys) ∧ ys.length ≤ j + 1) := fun i T G2 nT s2 hF2 =>
        ⟨_, _, _, rfl, fun y o e => (upd_ne (ne_of_none e nF)).trans (s2 _ _ (sG _ _ e)), upd_same, by rw [List.length_append]; show xs.length + 1 ≤ _; omega⟩
      refine ⟨_, rfl, (by show 3 ≤ sizeLine; decide), fun T1 nT1 => ?_⟩
      generalize e_G2 : upd _ T1 _ = G2
      have s_T1 := new_same e_G2 nT1
      have f_T1 := new_at e_G2
      clear e_G2
      have hF := hF.mv s_T1
      refine ⟨T1, (["home", "to", "other"] : List Str).map V.str, rfl, .inr (SqT.of f_T1), rfl, fl _, _, rfl, ite2' (fun _ => ?_) (fun _ => ?_)⟩
      · refine ⟨_, rfl, .inl ⟨rfl, _, SqL.of hF⟩, _, rfl, (by show 3 ≤ sizeLine; decide), fun T nT => ?_⟩
        have nTG : G T = none := s_T1.free nT
        generalize e_G3 : upd _ T _ = G3
        have s_T := new_same e_G3 nT
        have f_T := new_at e_G3
        clear e_G3
        have hF := hF.mv s_T
        have s_T1 := s_T1.mv s_T
        refine ⟨F0, xs, _, rfl, rfl, hF, by rw [sizeLine_eq]; omega, ?_⟩
        exact add 0 T G3 nTG s_T1 hF
      · refine ⟨_, rfl, _, rfl, D, _, rfl, .inl ⟨kvs, .inr z, .inl (s_T1 _ _ (sG _ _ hD)), rfl, rfl⟩, _, rfl, ?_⟩
        have body : ∀ (b : Bool), (if b = true then True else True) → True := fun _ _ => trivial
        clear body
        cases (valV kvs (.inr z)).isSome with
        | true =>
          refine yes rfl ?_
          refine ⟨_, rfl, .inl ⟨rfl, _, SqL.of hF⟩, _, rfl, _, rfl, (by show 3 ≤ sizeLine; decide), fun T nT => ?_⟩
          have nTG : G T = none := s_T1.free nT
          generalize e_G3 : upd _ T _ = G3
          have s_T := new_same e_G3 nT
          have f_T := new_at e_G3
          clear e_G3
          have hF := hF.mv s_T
          have s_T1 := s_T1.mv s_T
          refine ⟨F0, xs, _, rfl, rfl, hF, by rw [sizeLine_eq]; omega, ?_⟩
          exact add 0 T G3 nTG s_T1 hF
        | false =>
          refine no rfl ?_
          refine ⟨_, rfl, rfl, _, rfl, ite2' (fun _ => ?_) (fun _ => ?_)⟩
          · refine ⟨_, rfl, .inl ⟨rfl, _, SqL.of hF⟩, _, rfl, _, rfl, (by show 3 ≤ sizeLine; decide), fun T nT => ?_⟩
            have nTG : G T = none := s_T1.free nT
            generalize e_G3 : upd _ T _ = G3
            have s_T := new_same e_G3 nT
            have f_T := new_at e_G3
            clear e_G3
            have hF := hF.mv s_T
            have s_T1 := s_T1.mv s_T
            refine ⟨F0, xs, _, rfl, rfl, hF, by rw [sizeLine_eq]; omega, ?_⟩
            exact add 0 T G3 nTG s_T1 hF
          · exact ⟨_, _, xs, rfl, sG.trans s_T1, hF, by omega⟩
    · rintro σ G ⟨v4, v5, xs, rfl, sG, hF, hxl⟩
      rw [List.length_map] at hxl
      have hDG := sG _ _ hD
      have hNG := hN.mv sG
      -- the rows
      refine ⟨_, rfl, .inl ⟨rfl, _, SqL.of hF⟩, ?_⟩
      refine ⟨D, _, hDG, trivial, fun od => ?_⟩
      have hNf : SqT K (upd G D (.frz od (.dK kvs))) N (ns.map V.str) := sqT_lock hNG hDG
      have fD : upd G D (.frz od (.dK kvs)) D = some (.frz od (.dK kvs)) := upd_same
      have ul := fun G2 => unlock (G := G2) (od := od) hDG
      generalize upd G D (.frz od (.dK kvs)) = Gf at hNf fD ul ⊢
      refine ⟨_, rfl, D, od, rfl, .inl ⟨_, fD, fun A nA => ?_⟩⟩
      refine lc_it (walk_keys (d := D) (o := od) (kvs := kvs)) (fun j G2 => (∃ ys, G2 A = some (.lst ys) ∧ ys.length ≤ j) ∧ Same Gf G2) ?_ (fun i G _ h => h.2 _ _ fD) ?_ ?_
      · skip
        generalize e_G4 : upd _ A _ = G4
        have s_A := new_same e_G4 nA
        have f_A := new_at e_G4
        clear e_G4
        exact ⟨⟨[], f_A, Nat.le_refl _⟩, s_A⟩
      · rintro j x G' G2 hj ⟨⟨ys, hA, hyl⟩, s4⟩ ⟨rfl, key, val, hkv, rfl⟩
        obtain ⟨r, l, ekv⟩ := htx _ (List.mem_of_getElem? hkv)
        injection ekv with ek ev
        subst ek
        obtain ⟨u, hu2⟩ := val_some hkv
        refine ⟨rfl, ?_⟩
        refine ⟨_, rfl, _, rfl, N, _, rfl, .inr (hNf.mv s4), rfl, fl ns, _, rfl, ite2' (fun _ => ?_) (fun _ => ?_)⟩
        · refine ⟨_, rfl, _, rfl, _, rfl, D, u, rfl, .inl ⟨kvs, .inr r, .inr ⟨od, s4 _ _ fD⟩, rfl, hu2.symm⟩, (by show 3 ≤ sizeLine; decide), fun T nT => ?_⟩
          generalize e_G5 : upd _ T _ = G5
          have s_T := new_same e_G5 nT
          have f_T := new_at e_G5
          clear e_G5
          have hA := hA.mv s_T
          have s4 := s4.mv s_T
          refine ⟨ys, hA, by rw [sizeLine_eq]; omega, ⟨_, upd_same, by rw [List.length_append]; show ys.length + 1 ≤ _; omega⟩, fun y o e => (upd_ne (ne_of_none e nA)).trans (s4 _ _ e)⟩
        · exact ⟨⟨ys, hA, by omega⟩, s4⟩
      rintro G4 ⟨⟨ys, hA, hyl⟩, s4⟩
      refine ⟨s4 _ _ fD, ?_⟩
      have hAD : A ≠ D := (ne_of_none fD nA).symm
      have hA := (upd_ne (o := .dK kvs) hAD).trans hA
      have s5 := ul _ s4
      generalize upd G4 D (.dK kvs) = G5 at s5 hA ⊢
      have hF := s5 _ _ hF
      refine ⟨F0, A, xs, ys, rfl, rfl, hF, hA, by rw [sizeLine_eq]; omega, ?_⟩
      have sG6 : Same H (upd G5 F0 (.lst (xs ++ ys))) := fun y o e => (upd_ne (ne_of_none e nF)).trans (s5 _ _ (sG _ _ e))
      have hF6 : upd G5 F0 (.lst (xs ++ ys)) F0 = some (.lst (xs ++ ys)) := upd_same
      generalize upd G5 F0 (.lst (xs ++ ys)) = G6 at sG6 hF6 ⊢
      refine ⟨_, rfl, N, _, rfl, .inr (hN.mv sG6), rfl, fl ns, _, rfl, ite2' (fun _ => ?_) (fun _ => ?_)⟩
      · refine ⟨_, rfl, F0, _, rfl, .inr (SqL.of hF6), _, rfl, wd, rfl, fun v G7 s7 => ⟨?_, fun P nP => ?_⟩⟩
        · rw [List.length_append, List.length_append, sizeLine_eq]
          show _ + _ + 1 ≤ _
          omega
        · exact k _ _ ((sG6.trans s7).trans (same_put nP))
      · exact ⟨_, rfl, k _ _ sG6⟩
def spStd (K : PySem.W.Frag) : Sp := fun vs H Q E => ∃ v d u e t g, vs = [v, u, t] ∧ Bad3 K H v d u e t g E ∧ ∀ z ∈ ops, d = .str z → ∀ wd ∈ wor z, e = .str wd → ∀ kd ∈ kinS z wd, g = .str kd → ∀ r G, Same H G → Q r G
theorem num_len (op world kind : Str) : (numS op world kind).length ≤ 20 := by
  have h1 := List.length_filter_le (thB op (apB op world)) (["home", "to", "other"] : List Str)
  have h3 : (["home", "to", "other"] : List Str).length = 3 := rfl
  have h2 := List.length_filter_le (fun r : Str => if r = "x" then hasX op else hasY op world) (["x", "y"] : List Str)
  have h4 : (["x", "y"] : List Str).length = 2 := rfl
  have h5 : (if hplS op = true then (["k"] : List Str) else []).length ≤ 1 := by split <;> decide
  have h6 : (if kind ∈ lsS op world then (["row"] : List Str) else []).length ≤ 1 := by split <;> decide
  unfold numS
  unfold lsS at h6 ⊢
  rw [List.length_append, List.length_append, List.length_append]
  omega
theorem scStd : FnScope ["op", "world", "kind", "names", "kinds"] ["op", "world", "kind"] (defScope sStd) := ⟨rfl, rfl, rfl, by decide +kernel, rfl, by decide +kernel, by decide +kernel⟩
theorem ok_std {f fN fB fH : Addr} {fd fdN fdB fdH fdC : FuncData} (F : FnP K "standing" sStd f fd)
    (GN : FnOk P w K mg base (L2N.CX P w) 7 fN fdN ["op", "world", "kind"] (spNum K)) (bN : Binds K fdN ["op", "world", "kind"] []) (kN : PySem.W.keepIn K (.ref fN) = true) (gN : mg "numbers_of" = some (.ref fN))
    (GC : FnOk P w K mg base CX0 2 (ma K (ga K "Cast") "__init__") fdC ["self", "op", "world"] (spCastI K)) (bC : Binds K fdC ["self", "op", "world"] []) (gCa : mg "Cast" = some (.ref (ga K "Cast"))) (C : CastK K)
    (GB : FnOk P w K mg base CX0 2 fB fdB ["world", "homes", "names"] (spStb K)) (bB : Binds K fdB ["world", "homes", "names"] []) (kB : PySem.W.keepIn K (.ref fB) = true) (gB : mg "standing_bounds" = some (.ref fB))
    (GH : FnOk P w K mg base CX0 1 fH fdH ["cast", "kinds"] (spHom K)) (bH : Binds K fdH ["cast", "kinds"] []) (kH : PySem.W.keepIn K (.ref fH) = true) (gH : mg "homes_of" = some (.ref fH)) : FnOk P w K mg base (L2N.CX P w) 8 f fd ["op", "world", "kind"] (spStd K) := by
  refine F.ok scStd (fun vs H Q E h => ?_) (fun cdv A outer s H vs Q E hr h => ?_)
  · obtain ⟨v, d, u, e, t, g, rfl, _⟩ := h
    rfl
  · obtain ⟨v, d, u, e, t, g, rfl, B, k⟩ := h
    have nd := scStd.nd
    have hr7 := hr.mono (j := 7) (by decide)
    have hr3 := hr.mono (j := 3) (by decide)
    have hr2 := hr.mono (j := 2) (by decide)
    have hr1 := hr.mono (j := 1) (by decide)
    have fl : ∀ l : List Str, (l.map V.str).all flatV = true := fun l => List.all_eq_true.mpr fun y hy => by
      obtain ⟨z, _, rfl⟩ := List.mem_map.mp hy
      rfl
    refine ⟨_, (by exact (pss_cons (ps_set (i := 3) nd rfl (Or.inl rfl) (pe_callS GN hr7 (by rfl) gN kN bN (fun σ => L2N.passAt (L2N.takes_of rfl rfl rfl rfl) σ) (pa_cons (pv 0) (pa_cons (pv 1) (pa_cons (pv 2) pa_nil)))))
(pss_cons (ps_set (i := 4) nd rfl (Or.inl rfl) (pe_ifExp (pt_cmpR op_in_seq pe_str (pv 3) rfl) (pe_tup (pa_cons (pv 2) pa_nil)) (pe_tup pa_nil)))
(pss_one (ps_ret (pe_call GB hr2 (by rfl) gB kB bB .nil pass0 (pa_cons (pv 1) (pa_cons (pe_call GH hr1 (by rfl) gH kH bH .nil pass0 (pa_cons (pe_make C.made GC hr3 (by rfl) gCa bC .nil pass0 (pa_cons (pv 0) (pa_cons (pv 1) pa_nil))) (pa_cons (pv 4) pa_nil))) (pa_cons (pv 3) pa_nil))))))))), ?_⟩
    refine ⟨_, rfl, _, rfl, _, rfl, v, d, u, e, t, g, rfl, B, fun z hz ez wd hwd ew kd hkd eg N G1 nN s1 hN => ?_⟩
    subst ez ew eg
    obtain rfl := dp_str B.vd
    obtain rfl := dp_str B.ue
    obtain rfl := dp_str B.tg
    have k := k z hz rfl wd hwd rfl kd hkd rfl
    dsimp only [gName, List.set]
    refine seq_by (fun σ G => ∃ (kt : Addr) (ks : List Str), σ = [some (.str z), some (.str wd), some (.str kd), some (.ref N), some (.ref kt)] ∧ Same G1 G ∧ G kt = some (.tup (ks.map V.str)) ∧ ks.length ≤ 2) ?_ (fun nxt => ?_)
    · rintro σ G ⟨kt, ks, rfl, s2, hkt, hkl⟩
      refine ⟨_, rfl, _, rfl, _, rfl, fun x dx nx ndx hne => ⟨x, dx, z, wd, rfl, upd_same, fun G2 T2 D fs sf ha hfT hfD hT hD => ⟨rfl, ?_⟩⟩⟩
      have sG : Same G G2 := fun y o e' => sf y o (ne_of_none e' nx) ((upd_ne (ne_of_none e' nx)).trans ((upd_ne (ne_of_none e' ndx)).trans e'))
      obtain ⟨q1, q2⟩ := hm_tx z wd
      refine ⟨_, rfl, x, kt, dx, D, fs, _, ks, rfl, ha, hfD, hD, q1, q2, SqT.of (sG _ _ hkt), hkl, fun R kvs G3 nR s3 hR ht hl => ?_⟩
      refine ⟨_, rfl, wd, R, N, kvs, _, rfl, hR, ht, hl, SqT.of (s3 _ _ (sG _ _ (s2 _ _ hN))), num_len z wd kd, fun v G4 s4 => ?_⟩
      exact k v G4 (s1.trans (s2.trans (sG.trans (s3.trans s4))))
    · refine ⟨_, rfl, N, _, rfl, .inr (SqT.of hN), rfl, fl _, _, rfl, ite2' (fun _ => ?_) (fun _ => ?_)⟩
      · refine ⟨_, rfl, (by show 1 ≤ sizeLine; decide), fun T nT => ?_⟩
        generalize e_G2 : upd _ T _ = G2
        have s_T := new_same e_G2 nT
        have f_T := new_at e_G2
        clear e_G2
        exact nxt _ _ ⟨T, [kd], rfl, s_T, f_T, by show 1 ≤ 2; omega⟩
      · refine ⟨(by show 0 ≤ sizeLine; decide), fun T nT => ?_⟩
        generalize e_G2 : upd _ T _ = G2
        have s_T := new_same e_G2 nT
        have f_T := new_at e_G2
        clear e_G2
        exact nxt _ _ ⟨T, [], rfl, s_T, f_T, by decide⟩
end
end K33

set_option Elab.async false
set_option maxRecDepth 100000
set_option maxHeartbeats 2000000
namespace K33
open PySem PySem.Spec PyProof.Rows L2 He KX
abbrev sLWo : Stmt := top 31
abbrev sLTh : Stmt := top 32
abbrev sLKi : Stmt := top 33
abbrev sLNu : Stmt := top 34
/-- a list of texts is told -/
def LstOf (H : Hp) (l : List Str) (Q : VK) : Prop := ∀ L G, H L = none → Same H G → G L = some (.lst (l.map V.str)) → Q (.ref L) G
def spLWo : Sp := fun vs H Q _ => ∃ op : Str, vs = [.str op] ∧ LstOf H (wor op) Q
def rp (b : Bool) (z : Str) : List Str := if b = true then [z] else []
def lTh (op world : Str) : List Str := if op ∈ newL then (["to", "other"] : List Str) else (["home"] : List Str) ++ rp (decide (world = "apart")) "to" ++ (["other"] : List Str)
def lKi (op world : Str) : List Str := ((["x"] : List Str) ++ rp (hasY op world) "y") ++ lTh op world
def lNu (op world kind : Str) : List Str := lTh op world ++ rp (hasX op) "x" ++ rp (hasY op world) "y" ++ rp (hplS op) "k" ++ rp (decide (kind ∈ (["home", "to", "other"] : List Str))) "row"
def spLTh : Sp := fun vs H Q _ => ∃ op wd : Str, vs = [.str op, .str wd] ∧ LstOf H (lTh op wd) Q
def spLKi : Sp := fun vs H Q _ => ∃ op wd : Str, vs = [.str op, .str wd] ∧ LstOf H (lKi op wd) Q
def spLNu : Sp := fun vs H Q _ => ∃ op wd kd : Str, vs = [.str op, .str wd, .str kd] ∧ LstOf H (lNu op wd kd) Q
theorem lki_eq : ∀ z ∈ ops, ∀ wd ∈ wor z, lKi z wd = kinS z wd := by decide +kernel
theorem lnu_eq : ∀ z ∈ ops, ∀ wd ∈ wor z, ∀ kd ∈ kinS z wd, lNu z wd kd = numS z wd kd := by decide +kernel
theorem rep_rp (b : Bool) (z : Str) : (List.replicate (Int.toNat (if b = true then 1 else 0)) [V.str z]).flatten = (rp b z).map V.str := by cases b <;> rfl
theorem b63 (b : Bool) : -(2 ^ 63) ≤ (if b = true then (1 : Int) else 0) ∧ (if b = true then (1 : Int) else 0) < 2 ^ 63 := by cases b <;> decide
theorem rp_le (b : Bool) (z : Str) : (rp b z).length ≤ 1 := by
  cases b
  · exact Nat.zero_le _
  · exact Nat.le_refl 1
theorem dstr (a b : Str) : decide (V.str a = V.str b) = decide (a = b) := by
  by_cases h : a = b
  · rw [decide_eq_true h, decide_eq_true (congrArg V.str h)]
  · rw [decide_eq_false h, decide_eq_false (fun e : V.str a = V.str b => h (by injection e))]
theorem sw_it {σ : L2.St} {H : Hp} {Q : VK} {i j : Nat} {op wd : Str} (hi : σ[i]? = some (some (.str op))) (hj : σ[j]? = some (some (.str wd))) (k : Q (.bl (hasY op wd)) H) : tAndV (tOp rEq (tVar i) (tC (V.str "swap"))) (tOp rNe (tVar j) (tC (V.str "itself"))) σ H Q := by
  unfold hasY at k
  refine ⟨_, hi, rfl, _, rfl, ?_⟩
  by_cases c : op = "swap"
  · refine yes (decide_eq_true (congrArg V.str c)) ?_
    rw [decide_eq_true c] at k
    refine ⟨_, hj, rfl, ?_⟩
    rw [dstr]
    exact k
  · refine no (decide_eq_false fun e => c (by injection e)) ?_
    rw [decide_eq_false c] at k
    exact k
theorem lth_le (op world : Str) : (lTh op world).length ≤ 3 := by
  unfold lTh
  split
  · decide
  · have := rp_le (decide (world = "apart")) "to"
    rw [List.length_append, List.length_append]
    show 1 + _ + 1 ≤ 3
    omega
section
variable {P : Program} {w : World} {K : PySem.W.Frag} {mg : Str → Option Value} {base : Heap}
theorem scLWo : FnScope ["op"] ["op"] (defScope sLWo) := ⟨rfl, rfl, rfl, by decide +kernel, rfl, by decide +kernel, by decide +kernel⟩
theorem ok_lwo {f : Addr} {fd : FuncData} (F : FnP K "_law_worlds" sLWo f fd) : FnOk P w K mg base CX0 1 f fd ["op"] spLWo := by
  refine F.ok scLWo (fun vs H Q E h => ?_) (fun cdv A outer s H vs Q E hr h => ?_)
  · obtain ⟨op, rfl, _⟩ := h
    rfl
  · obtain ⟨op, rfl, k⟩ := h
    have nd := scLWo.nd
    refine ⟨_, PSs.nox (pss_cons (ps_if (pt_cmpR op_eq (pv 0) pe_str (nomark _))
(pss_one (ps_ret (pe_lst (pa_cons pe_str (pa_cons pe_str (pa_cons pe_str pa_nil))))))
pss_nil)
(pss_one (ps_ret (pe_ifExp (pt_cmpR op_in_seq (pv 0) (pe_tup (pa_cons pe_str (pa_cons pe_str pa_nil))) rfl) (pe_lst (pa_cons pe_str (pa_cons pe_str pa_nil))) (pe_lst (pa_cons pe_str pa_nil)))))), ?_⟩
    unfold wor at k
    refine ⟨_, rfl, rfl, _, rfl, ?_⟩
    by_cases c : op = "swap"
    · refine yes (decide_eq_true (congrArg V.str c)) ?_
      rw [if_pos c] at k
      refine ⟨(by show 3 ≤ sizeLine; decide), fun T nT => ?_⟩
      generalize e_G1 : upd _ T _ = G1
      have s_T := new_same e_G1 nT
      have f_T := new_at e_G1
      clear e_G1
      exact k _ _ nT s_T f_T
    · refine no (decide_eq_false fun e => c (by injection e)) ?_
      rw [if_neg c] at k
      refine ⟨_, rfl, (by show 2 ≤ sizeLine; decide), fun T nT => ?_⟩
      generalize e_G1 : upd _ T _ = G1
      have s_T := new_same e_G1 nT
      have f_T := new_at e_G1
      clear e_G1
      refine ⟨T, (["move", "send"] : List Str).map V.str, rfl, .inr (SqT.of f_T), rfl, rfl, _, rfl, ?_⟩
      rw [if_neg Bool.false_ne_true, inV_str]
      have e : (op ∈ (["move", "send"] : List Str)) ↔ op ∈ (["move", "send", "swap"] : List Str) := by
        constructor
        · intro h
          rcases List.mem_cons.mp h with rfl | h
          · decide
          · rw [List.mem_singleton.mp h]; decide
        · intro h
          rcases List.mem_cons.mp h with rfl | h
          · decide
          rcases List.mem_cons.mp h with rfl | h
          · decide
          · exact absurd (List.mem_singleton.mp h) c
      by_cases c2 : op ∈ (["move", "send"] : List Str)
      · refine yes (decide_eq_true c2) ?_
        rw [if_pos (e.mp c2)] at k
        refine ⟨(by show 2 ≤ sizeLine; decide), fun L nL => ?_⟩
        have nLH := s_T.free nL
        generalize e_G2 : upd _ L _ = G2
        have s_L := new_same e_G2 nL
        have f_L := new_at e_G2
        clear e_G2
        have s_T := s_T.mv s_L
        exact k _ _ nLH s_T f_L
      · refine no (decide_eq_false c2) ?_
        rw [if_neg (fun h => c2 (e.mpr h))] at k
        refine ⟨(by show 1 ≤ sizeLine; decide), fun L nL => ?_⟩
        have nLH := s_T.free nL
        generalize e_G2 : upd _ L _ = G2
        have s_L := new_same e_G2 nL
        have f_L := new_at e_G2
        clear e_G2
        have s_T := s_T.mv s_L
        exact k _ _ nLH s_T f_L
theorem scLTh : FnScope ["op", "world"] ["op", "world"] (defScope sLTh) := ⟨rfl, rfl, rfl, by decide +kernel, rfl, by decide +kernel, by decide +kernel⟩
theorem ok_lth {f : Addr} {fd : FuncData} (F : FnP K "_law_there" sLTh f fd) (n_int : mg "int" = none) : FnOk P w K mg base CX0 1 f fd ["op", "world"] spLTh := by
  refine F.ok scLTh (fun vs H Q E h => ?_) (fun cdv A outer s H vs Q E hr h => ?_)
  · obtain ⟨op, wd, rfl, _⟩ := h
    rfl
  · obtain ⟨op, wd, rfl, k⟩ := h
    have nd := scLTh.nd
    refine ⟨_, PSs.nox (pss_cons (ps_if (pt_cmpR op_in_seq (pv 0) (pe_tup (pa_cons pe_str (pa_cons pe_str pa_nil))) rfl)
(pss_one (ps_ret (pe_lst (pa_cons pe_str (pa_cons pe_str pa_nil)))))
pss_nil)
(pss_one (ps_ret (pe_op op_cat (pe_op op_cat (pe_lst (pa_cons pe_str pa_nil)) (pe_op op_rep (pe_lst (pa_cons pe_str pa_nil)) (pe_callTy call_int1 (by rfl) n_int (by decide +kernel) (pa_cons (pe_cmpR op_eq (pv 1) pe_str (nomark _)) pa_nil)))) (pe_lst (pa_cons pe_str pa_nil)))))), ?_⟩
    unfold lTh at k
    refine ⟨_, rfl, (by show 2 ≤ sizeLine; decide), fun T nT => ?_⟩
    generalize e_G1 : upd _ T _ = G1
    have s_T := new_same e_G1 nT
    have f_T := new_at e_G1
    clear e_G1
    refine ⟨T, newL.map V.str, rfl, .inr (SqT.of f_T), rfl, rfl, _, rfl, ?_⟩
    rw [if_neg Bool.false_ne_true, inV_str]
    by_cases c : op ∈ newL
    · refine yes (decide_eq_true c) ?_
      rw [if_pos c] at k
      refine ⟨(by show 2 ≤ sizeLine; decide), fun L nL => ?_⟩
      have nLH := s_T.free nL
      generalize e_G2 : upd _ L _ = G2
      have s_L := new_same e_G2 nL
      have f_L := new_at e_G2
      clear e_G2
      have s_T := s_T.mv s_L
      exact k _ _ nLH s_T f_L
    · refine no (decide_eq_false c) ?_
      rw [if_neg c] at k
      refine ⟨(by show 1 ≤ sizeLine; decide), fun A nA => ?_⟩
      have nAH := s_T.free nA
      generalize e_G2 : upd _ A _ = G2
      have s_A := new_same e_G2 nA
      have f_A := new_at e_G2
      clear e_G2
      have s_T := s_T.mv s_A
      refine ⟨(by show 1 ≤ sizeLine; decide), fun B nB => ?_⟩
      generalize e_G3 : upd _ B _ = G3
      have s_B := new_same e_G3 nB
      have f_B := new_at e_G3
      clear e_G3
      have s_T := s_T.mv s_B
      have f_A := f_A.mv s_B
      refine ⟨_, rfl, rfl, .inr ⟨_, rfl, B, _, _, rfl, rfl, f_B, (b63 _).1, (b63 _).2, ?_, fun C nC => ?_⟩⟩
      · rw [sizeLine_eq]; split <;> decide
      rw [dstr, rep_rp]
      generalize e_G4 : upd _ C _ = G4
      have s_C := new_same e_G4 nC
      have f_C := new_at e_G4
      clear e_G4
      have s_T := s_T.mv s_C
      have f_A := f_A.mv s_C
      have r1 := rp_le (decide (wd = "apart")) "to"
      refine ⟨A, C, _, _, rfl, rfl, f_A, f_C, by rw [List.length_map, sizeLine_eq]; show 1 + _ ≤ _; omega, fun D nD => ?_⟩
      generalize e_G5 : upd _ D _ = G5
      have s_D := new_same e_G5 nD
      have f_D := new_at e_G5
      clear e_G5
      have s_T := s_T.mv s_D
      refine ⟨(by show 1 ≤ sizeLine; decide), fun O nO => ?_⟩
      generalize e_G6 : upd _ O _ = G6
      have s_O := new_same e_G6 nO
      have f_O := new_at e_G6
      clear e_G6
      have s_T := s_T.mv s_O
      have f_D := f_D.mv s_O
      refine ⟨D, O, _, _, rfl, rfl, f_D, f_O, by rw [List.length_append, List.length_map, sizeLine_eq]; show 1 + _ + 1 ≤ _; omega, fun R nR => ?_⟩
      have nRH := s_T.free nR
      generalize e_G7 : upd _ R _ = G7
      have s_R := new_same e_G7 nR
      have f_R := new_at e_G7
      clear e_G7
      have s_T := s_T.mv s_R
      refine k R G7 nRH s_T ?_
      rw [f_R, List.map_append, List.map_append]
      rfl
theorem scLKi : FnScope ["op", "world", "kinds"] ["op", "world"] (defScope sLKi) := ⟨rfl, rfl, rfl, by decide +kernel, rfl, by decide +kernel, by decide +kernel⟩
theorem ok_lki {f fT : Addr} {fd fdT : FuncData} (F : FnP K "_law_kinds" sLKi f fd) (GT : FnOk P w K mg base CX0 1 fT fdT ["op", "world"] spLTh) (bT : Binds K fdT ["op", "world"] []) (kT : PySem.W.keepIn K (.ref fT) = true) (gT : mg "_law_there" = some (.ref fT)) (n_int : mg "int" = none) : FnOk P w K mg base CX0 2 f fd ["op", "world"] spLKi := by
  refine F.ok scLKi (fun vs H Q E h => ?_) (fun cdv A outer s H vs Q E hr h => ?_)
  · obtain ⟨op, wd, rfl, _⟩ := h
    rfl
  · obtain ⟨op, wd, rfl, k⟩ := h
    have nd := scLKi.nd
    have hr1 := hr.mono (j := 1) (by decide)
    refine ⟨_, PSs.nox (pss_cons (ps_set (i := 2) nd rfl (Or.inl rfl) (pe_op op_cat (pe_lst (pa_cons pe_str pa_nil)) (pe_op op_rep (pe_lst (pa_cons pe_str pa_nil)) (pe_callTy call_int1 (by rfl) n_int (by decide +kernel) (pa_cons (pe_and (pe_cmpR op_eq (pv 0) pe_str (nomark _)) (pe_one (pe_cmpR op_ne (pv 1) pe_str (nomark _)))) pa_nil)))))
(pss_one (ps_ret (pe_op op_cat (pv 2) (pe_call GT hr1 (by rfl) gT kT bT .nil pass0 (pa_cons (pv 0) (pa_cons (pv 1) pa_nil))))))), ?_⟩
    refine ⟨(by show 1 ≤ sizeLine; decide), fun A nA => ?_⟩
    generalize e_G2 : upd _ A _ = G2
    have s_A := new_same e_G2 nA
    have f_A := new_at e_G2
    clear e_G2
    refine ⟨(by show 1 ≤ sizeLine; decide), fun B nB => ?_⟩
    generalize e_G3 : upd _ B _ = G3
    have s_B := new_same e_G3 nB
    have f_B := new_at e_G3
    clear e_G3
    have s_A := s_A.mv s_B
    have f_A := f_A.mv s_B
    refine sw_it rfl rfl (.inr ⟨_, rfl, B, _, _, rfl, rfl, f_B, (b63 _).1, (b63 _).2, ?_, fun C nC => ?_⟩)
    · rw [sizeLine_eq]; split <;> decide
    rw [rep_rp]
    generalize e_G4 : upd _ C _ = G4
    have s_C := new_same e_G4 nC
    have f_C := new_at e_G4
    clear e_G4
    have s_A := s_A.mv s_C
    have f_A := f_A.mv s_C
    have r1 := rp_le (hasY op wd) "y"
    refine ⟨A, C, _, _, rfl, rfl, f_A, f_C, by rw [List.length_map, sizeLine_eq]; show 1 + _ ≤ _; omega, fun D nD => ?_⟩
    generalize e_G5 : upd _ D _ = G5
    have s_D := new_same e_G5 nD
    have f_D := new_at e_G5
    clear e_G5
    have s_A := s_A.mv s_D
    dsimp only [gName, List.set]
    refine ⟨_, rfl, _, rfl, _, rfl, op, wd, rfl, fun L G6 nL s6 hL => ?_⟩
    have h3 := lth_le op wd
    refine ⟨D, L, _, _, rfl, rfl, s6 _ _ f_D, hL, by rw [List.length_append, List.length_map, List.length_map, sizeLine_eq]; show 1 + _ + _ ≤ _; omega, fun R nR => ?_⟩
    have sA := s_A.trans s6
    have nRH := sA.free nR
    generalize e_G7 : upd _ R _ = G7
    have s_R := new_same e_G7 nR
    have f_R := new_at e_G7
    clear e_G7
    have sA := sA.mv s_R
    refine k R G7 nRH sA ?_
    rw [f_R]
    unfold lKi
    rw [List.map_append, List.map_append]
    rfl
theorem scLNu : FnScope ["op", "world", "kind", "numbers"] ["op", "world", "kind"] (defScope sLNu) := ⟨rfl, rfl, rfl, by decide +kernel, rfl, by decide +kernel, by decide +kernel⟩
theorem ok_lnu {f fT : Addr} {fd fdT : FuncData} (F : FnP K "_law_numbers" sLNu f fd) (GT : FnOk P w K mg base CX0 1 fT fdT ["op", "world"] spLTh) (bT : Binds K fdT ["op", "world"] []) (kT : PySem.W.keepIn K (.ref fT) = true) (gT : mg "_law_there" = some (.ref fT)) (n_int : mg "int" = none) : FnOk P w K mg base CX0 2 f fd ["op", "world", "kind"] spLNu := by
  refine F.ok scLNu (fun vs H Q E h => ?_) (fun cdv A outer s H vs Q E hr h => ?_)
  · obtain ⟨op, wd, kd, rfl, _⟩ := h
    rfl
  · obtain ⟨op, wd, kd, rfl, k⟩ := h
    have nd := scLNu.nd
    have hr1 := hr.mono (j := 1) (by decide)
    refine ⟨_, PSs.nox (pss_cons (ps_set (i := 3) nd rfl (Or.inl rfl) (pe_op op_cat (pe_call GT hr1 (by rfl) gT kT bT .nil pass0 (pa_cons (pv 0) (pa_cons (pv 1) pa_nil))) (pe_op op_rep (pe_lst (pa_cons pe_str pa_nil)) (pe_callTy call_int1 (by rfl) n_int (by decide +kernel) (pa_cons (pe_cmpR op_notIn_seq (pv 0) (pe_tup (pa_cons pe_str (pa_cons pe_str pa_nil))) rfl) pa_nil)))))
(pss_cons (ps_set (i := 3) nd rfl (Or.inl rfl) (pe_op op_cat (pv 3) (pe_op op_rep (pe_lst (pa_cons pe_str pa_nil)) (pe_callTy call_int1 (by rfl) n_int (by decide +kernel) (pa_cons (pe_and (pe_cmpR op_eq (pv 0) pe_str (nomark _)) (pe_one (pe_cmpR op_ne (pv 1) pe_str (nomark _)))) pa_nil)))))
(pss_cons (ps_set (i := 3) nd rfl (Or.inl rfl) (pe_op op_cat (pv 3) (pe_op op_rep (pe_lst (pa_cons pe_str pa_nil)) (pe_callTy call_int1 (by rfl) n_int (by decide +kernel) (pa_cons (pe_cmpR op_in_seq (pv 0) (pe_tup (pa_cons pe_str (pa_cons pe_str pa_nil))) rfl) pa_nil)))))
(pss_one (ps_ret (pe_op op_cat (pv 3) (pe_op op_rep (pe_lst (pa_cons pe_str pa_nil)) (pe_callTy call_int1 (by rfl) n_int (by decide +kernel) (pa_cons (pe_cmpR op_in_seq (pv 2) (pe_tup (pa_cons pe_str (pa_cons pe_str (pa_cons pe_str pa_nil)))) rfl) pa_nil))))))))), ?_⟩
    have h3 := lth_le op wd
    have r1 := rp_le (hasX op) "x"
    have r2 := rp_le (hasY op wd) "y"
    have r3 := rp_le (hplS op) "k"
    have r4 := rp_le (decide (kd ∈ (["home", "to", "other"] : List Str))) "row"
    have mulB : ∀ (b : Bool) (z : Str), [V.str z].length * Int.toNat (if b = true then 1 else 0) ≤ sizeLine := fun b z => by rw [sizeLine_eq]; split <;> (show _ ≤ _; simp)
    refine ⟨_, rfl, _, rfl, op, wd, rfl, fun L G1 nL s1 hL => ?_⟩
    refine ⟨(by show 1 ≤ sizeLine; decide), fun A nA => ?_⟩
    generalize e_G2 : upd _ A _ = G2
    have s_A := new_same e_G2 nA
    have f_A := new_at e_G2
    clear e_G2
    have s1 := s1.mv s_A
    have hL := hL.mv s_A
    refine ⟨_, rfl, (by show 2 ≤ sizeLine; decide), fun T nT => ?_⟩
    generalize e_G3 : upd _ T _ = G3
    have s_T := new_same e_G3 nT
    have f_T := new_at e_G3
    clear e_G3
    have s1 := s1.mv s_T
    have hL := hL.mv s_T
    have f_A := f_A.mv s_T
    refine ⟨T, newL.map V.str, rfl, .inr (SqT.of f_T), rfl, rfl, .inr ⟨_, rfl, A, _, _, rfl, rfl, f_A, (b63 _).1, (b63 _).2, mulB _ _, fun C nC => ?_⟩⟩
    rw [if_pos rfl, inV_str, show (!decide (op ∈ newL)) = hasX op from rfl, rep_rp]
    generalize e_G4 : upd _ C _ = G4
    have s_C := new_same e_G4 nC
    have f_C := new_at e_G4
    clear e_G4
    have s1 := s1.mv s_C
    have hL := hL.mv s_C
    refine ⟨L, C, _, _, rfl, rfl, hL, f_C, by rw [List.length_map, List.length_map, sizeLine_eq]; omega, fun D nD => ?_⟩
    generalize e_G5 : upd _ D _ = G5
    have s_D := new_same e_G5 nD
    have f_D := new_at e_G5
    clear e_G5
    have s1 := s1.mv s_D
    dsimp only [gName, List.set]
    -- y
    refine ⟨_, rfl, (by show 1 ≤ sizeLine; decide), fun B nB => ?_⟩
    generalize e_G6 : upd _ B _ = G6
    have s_B := new_same e_G6 nB
    have f_B := new_at e_G6
    clear e_G6
    have s1 := s1.mv s_B
    have f_D := f_D.mv s_B
    refine sw_it rfl rfl (.inr ⟨_, rfl, B, _, _, rfl, rfl, f_B, (b63 _).1, (b63 _).2, mulB _ _, fun C2 nC2 => ?_⟩)
    rw [rep_rp]
    generalize e_G7 : upd _ C2 _ = G7
    have s_C2 := new_same e_G7 nC2
    have f_C2 := new_at e_G7
    clear e_G7
    have s1 := s1.mv s_C2
    have f_D := f_D.mv s_C2
    refine ⟨D, C2, _, _, rfl, rfl, f_D, f_C2, by rw [List.length_append, List.length_map, List.length_map, List.length_map, sizeLine_eq]; omega, fun D2 nD2 => ?_⟩
    generalize e_G8 : upd _ D2 _ = G8
    have s_D2 := new_same e_G8 nD2
    have f_D2 := new_at e_G8
    clear e_G8
    have s1 := s1.mv s_D2
    dsimp only [gName, List.set]
    -- k
    refine ⟨_, rfl, (by show 1 ≤ sizeLine; decide), fun B2 nB2 => ?_⟩
    generalize e_G9 : upd _ B2 _ = G9
    have s_B2 := new_same e_G9 nB2
    have f_B2 := new_at e_G9
    clear e_G9
    have s1 := s1.mv s_B2
    have f_D2 := f_D2.mv s_B2
    refine ⟨_, rfl, (by show 2 ≤ sizeLine; decide), fun T2 nT2 => ?_⟩
    generalize e_G10 : upd _ T2 _ = G10
    have s_T2 := new_same e_G10 nT2
    have f_T2 := new_at e_G10
    clear e_G10
    have s1 := s1.mv s_T2
    have f_D2 := f_D2.mv s_T2
    have f_B2 := f_B2.mv s_T2
    refine ⟨T2, (["put", "move"] : List Str).map V.str, rfl, .inr (SqT.of f_T2), rfl, rfl, .inr ⟨_, rfl, B2, _, _, rfl, rfl, f_B2, (b63 _).1, (b63 _).2, mulB _ _, fun C3 nC3 => ?_⟩⟩
    rw [if_neg Bool.false_ne_true, inV_str, show decide (op ∈ (["put", "move"] : List Str)) = hplS op from rfl, rep_rp]
    generalize e_G11 : upd _ C3 _ = G11
    have s_C3 := new_same e_G11 nC3
    have f_C3 := new_at e_G11
    clear e_G11
    have s1 := s1.mv s_C3
    have f_D2 := f_D2.mv s_C3
    refine ⟨D2, C3, _, _, rfl, rfl, f_D2, f_C3, by rw [List.length_append, List.length_append, List.length_map, List.length_map, List.length_map, List.length_map, sizeLine_eq]; omega, fun D3 nD3 => ?_⟩
    generalize e_G12 : upd _ D3 _ = G12
    have s_D3 := new_same e_G12 nD3
    have f_D3 := new_at e_G12
    clear e_G12
    have s1 := s1.mv s_D3
    dsimp only [gName, List.set]
    -- row
    refine ⟨_, rfl, (by show 1 ≤ sizeLine; decide), fun B3 nB3 => ?_⟩
    generalize e_G13 : upd _ B3 _ = G13
    have s_B3 := new_same e_G13 nB3
    have f_B3 := new_at e_G13
    clear e_G13
    have s1 := s1.mv s_B3
    have f_D3 := f_D3.mv s_B3
    refine ⟨_, rfl, (by show 3 ≤ sizeLine; decide), fun T3 nT3 => ?_⟩
    generalize e_G14 : upd _ T3 _ = G14
    have s_T3 := new_same e_G14 nT3
    have f_T3 := new_at e_G14
    clear e_G14
    have s1 := s1.mv s_T3
    have f_D3 := f_D3.mv s_T3
    have f_B3 := f_B3.mv s_T3
    refine ⟨T3, (["home", "to", "other"] : List Str).map V.str, rfl, .inr (SqT.of f_T3), rfl, rfl, .inr ⟨_, rfl, B3, _, _, rfl, rfl, f_B3, (b63 _).1, (b63 _).2, mulB _ _, fun C4 nC4 => ?_⟩⟩
    rw [if_neg Bool.false_ne_true, inV_str, rep_rp]
    generalize e_G15 : upd _ C4 _ = G15
    have s_C4 := new_same e_G15 nC4
    have f_C4 := new_at e_G15
    clear e_G15
    have s1 := s1.mv s_C4
    have f_D3 := f_D3.mv s_C4
    refine ⟨D3, C4, _, _, rfl, rfl, f_D3, f_C4, by rw [List.length_append, List.length_append, List.length_append, List.length_map, List.length_map, List.length_map, List.length_map, List.length_map, sizeLine_eq]; omega, fun R nR => ?_⟩
    have nRH := s1.free nR
    generalize e_G16 : upd _ R _ = G16
    have s_R := new_same e_G16 nR
    have f_R := new_at e_G16
    clear e_G16
    have s1 := s1.mv s_R
    refine k R G16 nRH s1 ?_
    rw [f_R]
    unfold lNu
    rw [List.map_append, List.map_append, List.map_append, List.map_append]
end
end K33

set_option Elab.async false
set_option maxRecDepth 100000
set_option maxHeartbeats 2000000
/-! repr of data of any form; things: drawn odd objects, names and whole numbers. -/
namespace KX
open PySem PySem.Spec PyProof.Rows L2
def rReprD (K : PySem.W.Frag) : List V → Hp → VK → Prop := fun xs H Q => ∃ (v : V) (d : PyData), xs = [v] ∧ Dp K H v d ∧ Small d 8 sizeLine ∧ Q (.str d.shown) H
theorem call_reprD {X : Cx} (hg : X.A.guards = some []) (hu : X.A.units + 10 < cLine) : CallR X (.builtin "repr") (rReprD X.K) := by
  intro pins s σ H xs us Q I r h
  obtain ⟨v, d, rfl, hd, hs, q⟩ := h
  cases hd with
  | lst a b => exact call_repr hg hu pins s σ H _ us Q I r ⟨_, _, rfl, .lst a b, hs.sh, hs.nd, hs.dp, hs.ln, q⟩
  | tup a b => exact call_repr hg hu pins s σ H _ us Q I r ⟨_, _, rfl, .tup a b, hs.sh, hs.nd, hs.dp, hs.ln, q⟩
  | non =>
    obtain ⟨u, rfl, ru⟩ := vals1 r
    cases ru
    exact PySem.P.repr_of_none ⟨.str _, H, I.tok _, ⟨_, rfl⟩, q⟩
  | bl b =>
    obtain ⟨u, rfl, ru⟩ := vals1 r
    cases ru
    exact PySem.P.repr_of_bool ⟨.str _, H, I.tok _, ⟨_, by cases b <;> rfl⟩, q⟩
  | int i =>
    obtain ⟨u, rfl, t, rfl⟩ := vals1 r
    exact PySem.P.repr_of_int (of_decide_eq_true hs.sh) ⟨.str _, H, I.tok _, ⟨_, rfl⟩, q⟩
  | str x =>
    obtain ⟨u, rfl, t, rfl⟩ := vals1 r
    exact PySem.P.repr_of_str (hsz := hs.ln) ⟨.str _, H, I.tok _, ⟨_, rfl⟩, q⟩
/-- a thing: a scalar, or one of the odd lists and tuples -/
def ThV (m : Nat) (H : Hp) : V → PyData → Prop := fun v d =>
  (ScD m d ∧ ((v = .non ∧ d = .none) ∨ (∃ b, v = .bl b ∧ d = .bool b) ∨ (∃ i, v = .int i ∧ d = .int i) ∨ ∃ z, v = .str z ∧ d = .str z)) ∨
  (∃ p, v = .ref p ∧ H p = some (.lst [.str "a"]) ∧ d = .list [.str "a"]) ∨ (∃ p, v = .ref p ∧ H p = some (.tup [.str "a", .int 1]) ∧ d = .tuple [.str "a", .int 1]) ∨
  (∃ p, v = .ref p ∧ H p = some (.lst []) ∧ d = .list []) ∨ (∃ p, v = .ref p ∧ H p = some (.tup []) ∧ d = .tuple []) ∨
  (∃ p q, v = .ref p ∧ H p = some (.lst [.ref q]) ∧ H q = some (.lst [.int 1]) ∧ d = .list [.list [.int 1]])
/-- what odd lists and tuples are on the heap -/
def OddO (o : HO) : Prop := o = .lst [.str "a"] ∨ o = .tup [.str "a", .int 1] ∨ o = .lst [] ∨ o = .tup [] ∨ o = .lst [.int 1] ∨ ∃ q, o = .lst [.ref q]
section
variable {m : Nat} {K : PySem.W.Frag} {H G : Hp} {v : V} {d : PyData}
theorem ThV.keep (h : ThV m H v d) (k : ∀ p o, OddO o → H p = some o → G p = some o) : ThV m G v d := by
  rcases h with h | ⟨p, e, hp, ed⟩ | ⟨p, e, hp, ed⟩ | ⟨p, e, hp, ed⟩ | ⟨p, e, hp, ed⟩ | ⟨p, q, e, hp, hq, ed⟩
  · exact .inl h
  · exact .inr (.inl ⟨p, e, k _ _ (.inl rfl) hp, ed⟩)
  · exact .inr (.inr (.inl ⟨p, e, k _ _ (.inr (.inl rfl)) hp, ed⟩))
  · exact .inr (.inr (.inr (.inl ⟨p, e, k _ _ (.inr (.inr (.inl rfl))) hp, ed⟩)))
  · exact .inr (.inr (.inr (.inr (.inl ⟨p, e, k _ _ (.inr (.inr (.inr (.inl rfl)))) hp, ed⟩))))
  · exact .inr (.inr (.inr (.inr (.inr ⟨p, q, e, k _ _ (.inr (.inr (.inr (.inr (.inr ⟨q, rfl⟩))))) hp, k _ _ (.inr (.inr (.inr (.inr (.inl rfl))))) hq, ed⟩))))
theorem ThV.same (h : ThV m H v d) (s : Same H G) : ThV m G v d := h.keep fun p o _ e => s p o e
/-- all but one object stands, and that is none of them -/
theorem ThV.but {b : Addr} (h : ThV m H v d) (k : Kept b H G) (hb : ∀ o, OddO o → H b ≠ some o) : ThV m G v d :=
  h.keep fun p o ho e => k p o (fun z => hb o ho (z ▸ e)) e
theorem ThV.mono {m' : Nat} (h : ThV m H v d) (hm : m ≤ m') : ThV m' H v d := by
  rcases h with ⟨h1, h2⟩ | h
  · exact .inl ⟨h1.mono hm, h2⟩
  · exact .inr h
theorem ThV.dp (h : ThV m H v d) : Dp K H v d := by
  rcases h with ⟨_, ⟨rfl, rfl⟩ | ⟨b, rfl, rfl⟩ | ⟨i, rfl, rfl⟩ | ⟨z, rfl, rfl⟩⟩ | ⟨p, rfl, hp, rfl⟩ | ⟨p, rfl, hp, rfl⟩ | ⟨p, rfl, hp, rfl⟩ | ⟨p, rfl, hp, rfl⟩ | ⟨p, q, rfl, hp, hq, rfl⟩
  · exact .non
  · exact .bl b
  · exact .int i
  · exact .str z
  · exact .lst (SqL.of hp) (.cons (.str _) .nil)
  · exact .tup (SqT.of hp) (.cons (.str _) (.cons (.int _) .nil))
  · exact .lst (SqL.of hp) .nil
  · exact .tup (SqT.of hp) .nil
  · exact .lst (SqL.of hp) (.cons (.lst (SqL.of hq) (.cons (.int _) .nil)) .nil)
theorem ThV.small (h : ThV m H v d) (hm : m < 10 ^ 40) : Small d 8 2000 := by
  rcases h with ⟨h, _⟩ | ⟨_, _, _, rfl⟩ | ⟨_, _, _, rfl⟩ | ⟨_, _, _, rfl⟩ | ⟨_, _, _, rfl⟩ | ⟨_, _, _, _, _, rfl⟩
  · exact (sc_small hm h).mono (by decide) (by decide)
  all_goals exact ⟨by decide +kernel, by decide +kernel, by decide +kernel, by decide +kernel⟩
theorem ThV.okN (h : ThV m H v d) : okN d := by
  rcases h with ⟨h, _⟩ | ⟨_, _, _, rfl⟩ | ⟨_, _, _, rfl⟩ | ⟨_, _, _, rfl⟩ | ⟨_, _, _, rfl⟩ | ⟨_, _, _, _, _, rfl⟩
  · exact sc_okN h
  all_goals exact fun z e => nomatch e
theorem ThV.shaped (h : ThV m H v d) : SeqAt.shaped d = true := by
  rcases h with ⟨h, _⟩ | ⟨_, _, _, rfl⟩ | ⟨_, _, _, rfl⟩ | ⟨_, _, _, rfl⟩ | ⟨_, _, _, rfl⟩ | ⟨_, _, _, _, _, rfl⟩
  · obtain ⟨h1, h2⟩ := sc_lay h
    exact Bool.and_eq_true_iff.mpr ⟨h1, decide_eq_true (Nat.le_trans h2 (by decide))⟩
  all_goals decide +kernel
end
end KX

set_option Elab.async false
set_option maxRecDepth 100000
set_option maxHeartbeats 1000000
/-! The text of a thing is a text that may stand in data. -/
namespace KX
open PySem PySem.Spec PyProof.Rows L2
theorem char_lt (c : Char) : c.toNat < 0x110000 := by
  have h := c.valid
  show c.val.toNat < 0x110000
  rcases h with h | ⟨_, h⟩
  · exact Nat.lt_trans h (by decide)
  · exact h
theorem hex_lt (w c : Nat) : ∀ x ∈ List.replicate (w - ((Nat.toDigits 16 c).map Char.toNat).length) 48 ++ (Nat.toDigits 16 c).map Char.toNat, x < 0x110000 := by
  intro x hx
  rcases List.mem_append.mp hx with hx | hx
  · rw [List.eq_of_mem_replicate hx]
    decide
  · obtain ⟨d, _, rfl⟩ := List.mem_map.mp hx
    exact char_lt d
theorem reprChar_lt {q c : Nat} (hc : c < 0x110000) : ∀ x ∈ PySem.Builtin.Str.reprChar q c, x < 0x110000 := by
  have two : ∀ a b : Nat, a < 0x110000 → b < 0x110000 → ∀ x ∈ [a, b], x < 0x110000 := fun a b ha hb x hx => by
    rcases List.mem_cons.mp hx with rfl | hx
    · exact ha
    · rw [List.mem_singleton.mp hx]; exact hb
  have app : ∀ {xs ys : List Nat}, (∀ x ∈ xs, x < 0x110000) → (∀ x ∈ ys, x < 0x110000) → ∀ x ∈ xs ++ ys, x < 0x110000 := fun h1 h2 x hx => (List.mem_append.mp hx).elim (h1 x) (h2 x)
  unfold PySem.Builtin.Str.reprChar
  dsimp only
  split
  · exact two _ _ (by decide) hc
  split
  · exact two _ _ (by decide) (by decide)
  split
  · exact two _ _ (by decide) (by decide)
  split
  · exact two _ _ (by decide) (by decide)
  split
  · exact fun x hx => by rw [List.mem_singleton.mp hx]; exact hc
  split
  · exact app (two _ _ (by decide) (by decide)) (hex_lt _ _)
  split
  · exact app (two _ _ (by decide) (by decide)) (hex_lt _ _)
  · exact app (two _ _ (by decide) (by decide)) (hex_lt _ _)
theorem fold_lt (q : Nat) : ∀ (l : List Nat) (acc : Array Nat), (∀ c ∈ l, c < 0x110000) → (∀ c ∈ acc.toList, c < 0x110000) → ∀ c ∈ (l.foldl (fun out c => out ++ (PySem.Builtin.Str.reprChar q c).toArray) acc).toList, c < 0x110000
  | [], _, _, h => h
  | c :: r, acc, hl, h => fold_lt q r _ (fun d hd => hl d (List.mem_cons_of_mem _ hd)) fun d hd => by
    rw [Array.toList_append] at hd
    rcases List.mem_append.mp hd with hd | hd
    · exact h d hd
    · exact reprChar_lt (hl c List.mem_cons_self) d hd
theorem repr_ok {x : Str} (hx : ∀ c ∈ tlc x, c < 1000) : PyData.strOk (reprText x) = true := by
  have hq : reprQuote x < 0x110000 := by unfold reprQuote; split <;> decide
  unfold PyData.strOk reprText
  rw [← Array.all_toList, List.all_eq_true]
  intro c hc
  refine decide_eq_true ?_
  rw [Array.toList_push] at hc
  rcases List.mem_append.mp hc with hc | hc
  · rw [← Array.foldl_toList] at hc
    exact fold_lt _ _ _ (fun c hc => Nat.lt_trans (hx c hc) (by decide)) (fun c hc => by rw [List.mem_singleton.mp (show c ∈ [reprQuote x] from hc)]; exact hq) c hc
  · rw [List.mem_singleton.mp hc]
    exact hq
theorem int_ok (i : Int) : PyData.strOk (PyData.int i).shown = true := by
  unfold PyData.strOk
  rw [← Array.all_toList, List.all_eq_true]
  intro c hc
  refine decide_eq_true ?_
  by_cases d : 127 < c
  · exact absurd hc (shown_int_free' ⟨by omega, .inr (by omega)⟩ i)
  · omega
theorem ThV.text {m : Nat} {H : Hp} {v : V} {d : PyData} (h : ThV m H v d) : PyData.strOk d.shown = true := by
  rcases h with ⟨h, ⟨_, rfl⟩ | ⟨b, _, rfl⟩ | ⟨i, _, rfl⟩ | ⟨z, _, rfl⟩⟩ | ⟨_, _, _, rfl⟩ | ⟨_, _, _, rfl⟩ | ⟨_, _, _, rfl⟩ | ⟨_, _, _, rfl⟩ | ⟨_, _, _, _, _, rfl⟩
  · decide +kernel
  · cases b <;> decide +kernel
  · exact int_ok i
  · exact repr_ok h.2
  all_goals decide +kernel
end KX

set_option Elab.async false
set_option maxRecDepth 100000
set_option maxHeartbeats 2000000
namespace K33
open PySem PySem.Spec PyProof.Rows L2 He KX
abbrev sLOdd : Stmt := top 36
abbrev big : Nat := 10 ^ 31
def wordsL : List Str := ops ++ (["apart", "within", "itself", "alone", "home", "to", "other", "x", "y"] : List Str)
def scB (z : Str) : Bool := decide (z.length ≤ 100) && (tlc z).all fun c => decide (c < 1000)
theorem sc_of {m : Nat} {z : Str} (h : scB z = true) : ScD m (.str z) := by
  obtain ⟨h1, h2⟩ := Bool.and_eq_true_iff.mp h
  exact ⟨of_decide_eq_true h1, fun c hc => of_decide_eq_true (List.all_eq_true.mp h2 c hc)⟩
theorem up_sc : ∀ z ∈ wordsL, scB (Txt.upper z) = true ∧ scB z = true ∧ scB (z ++ " ") = true ∧ z.length ≤ 100 := by decide +kernel
theorem wt_ok : ∀ z ∈ wordsL, (PyData.strOk (PyData.tuple [.str z]).shown = true ∧ (PyData.tuple [.str z]).showable = true ∧ (PyData.tuple [.str z]).hasDict = false ∧ (PyData.tuple [.str z]).depth ≤ 8 ∧ (PyData.tuple [.str z]).shown.length ≤ 2000) ∧ (PyData.strOk (PyData.list [.str z]).shown = true ∧ (PyData.list [.str z]).showable = true ∧ (PyData.list [.str z]).hasDict = false ∧ (PyData.list [.str z]).depth ≤ 8 ∧ (PyData.list [.str z]).shown.length ≤ 2000) := by decide +kernel
def oddsL (z : Str) : List Str := ["", Txt.upper z, z ++ " ", "home", "to", "other", "x", "y", "k", "row", "alone", "apart", "within", "itself", "zero"]
theorem odd_op : ∀ z ∈ ops, ∀ y ∈ oddsL z, y ∉ ops := by decide +kernel
/-- a drawn odd thing -/
def OdV (p g : Addr) (G : Hp) (v : V) (d : PyData) : Prop :=
  (ScD big d ∧ ((v = .non ∧ d = .none) ∨ (∃ b, v = .bl b ∧ d = .bool b) ∨ (∃ i, v = .int i ∧ d = .int i) ∨ ∃ z, v = .str z ∧ d = .str z)) ∨
  (∃ a z, v = .ref a ∧ G a = some (.tup [.str z]) ∧ d = .tuple [.str z] ∧ z ∈ wordsL) ∨
  (∃ a z, v = .ref a ∧ a ≠ p ∧ a ≠ g ∧ G a = some (.lst [.str z]) ∧ d = .list [.str z] ∧ z ∈ wordsL)
section
variable {K : PySem.W.Frag} {p g : Addr} {H G : Hp} {v : V} {d : PyData}
theorem OdV.mv (h : OdV p g H v d) (s : Same H G) : OdV p g G v d := by
  rcases h with h | ⟨a, z, e, ha, r⟩ | ⟨a, z, e, n1, n2, ha, r⟩
  · exact .inl h
  · exact .inr (.inl ⟨a, z, e, s _ _ ha, r⟩)
  · exact .inr (.inr ⟨a, z, e, n1, n2, s _ _ ha, r⟩)
theorem OdV.mp (h : OdV p g H v d) (hB : Pool H p g) (k : KeptP p g H G) : OdV p g G v d := by
  rcases h with h | ⟨a, z, e, ha, r⟩ | ⟨a, z, e, n1, n2, ha, r⟩
  · exact .inl h
  · obtain ⟨n1, n2⟩ := hB.nt ha nofun
    exact .inr (.inl ⟨a, z, e, k _ _ n1 n2 ha, r⟩)
  · exact .inr (.inr ⟨a, z, e, n1, n2, k _ _ n1 n2 ha, r⟩)
theorem OdV.dp (h : OdV p g G v d) : Dp K G v d := by
  rcases h with ⟨_, ⟨rfl, rfl⟩ | ⟨b, rfl, rfl⟩ | ⟨i, rfl, rfl⟩ | ⟨z, rfl, rfl⟩⟩ | ⟨a, z, rfl, ha, rfl, _⟩ | ⟨a, z, rfl, _, _, ha, rfl, _⟩
  · exact .non
  · exact .bl b
  · exact .int i
  · exact .str z
  · exact .tup (SqT.of ha) (.cons (.str _) .nil)
  · exact .lst (SqL.of ha) (.cons (.str _) .nil)
theorem OdV.small (h : OdV p g G v d) : Small d 8 2000 := by
  rcases h with ⟨h, _⟩ | ⟨_, z, _, _, rfl, hz⟩ | ⟨_, z, _, _, _, _, rfl, hz⟩
  · exact (sc_small (by decide) h).mono (by decide) (by decide)
  · obtain ⟨_, h2, h3, h4, h5⟩ := (wt_ok z hz).1; exact ⟨h2, h3, h4, h5⟩
  · obtain ⟨_, h2, h3, h4, h5⟩ := (wt_ok z hz).2; exact ⟨h2, h3, h4, h5⟩
theorem OdV.text (h : OdV p g G v d) : PyData.strOk d.shown = true := by
  rcases h with ⟨h, ⟨_, rfl⟩ | ⟨b, _, rfl⟩ | ⟨i, _, rfl⟩ | ⟨z, _, rfl⟩⟩ | ⟨_, z, _, _, rfl, hz⟩ | ⟨_, z, _, _, _, _, rfl, hz⟩
  · decide +kernel
  · cases b <;> decide +kernel
  · exact int_ok i
  · exact repr_ok h.2
  · exact (wt_ok z hz).1.1
  · exact (wt_ok z hz).2.1
theorem OdV.shaped (h : OdV p g G v d) : SeqAt.shaped d = true := by
  rcases h with ⟨h, _⟩ | ⟨_, z, _, _, rfl, hz⟩ | ⟨_, z, _, _, _, _, rfl, hz⟩
  · obtain ⟨h1, h2⟩ := sc_lay h
    exact Bool.and_eq_true_iff.mpr ⟨h1, decide_eq_true (Nat.le_trans h2 (by decide))⟩
  · exact tupSh (k := 8) (by decide) fun d hd => by rw [List.mem_singleton.mp hd]; obtain ⟨h1, h2⟩ := sc_lay (sc_of (m := big) (up_sc z hz).2.1); exact ⟨h1, Nat.le_trans h2 (by decide)⟩
  · exact listSh (k := 8) (by decide) fun d hd => by rw [List.mem_singleton.mp hd]; obtain ⟨h1, h2⟩ := sc_lay (sc_of (m := big) (up_sc z hz).2.1); exact ⟨h1, Nat.le_trans h2 (by decide)⟩
end
def spLOdd : Sp := fun vs H Q _ => ∃ (p g : Addr) (z : Str), vs = [.ref p, .str z] ∧ Pool H p g ∧ z ∈ wordsL ∧ ∀ v d G, KeptP p g H G → Pool G p g → OdV p g G v d → (∀ y, d = .str y → y ∈ oddsL z) → Q v G
section
variable {P : Program} {w : World} {K : PySem.W.Frag} {mg : Str → Option Value} {base : Heap}
theorem scLOdd : FnScope ["pool", "word", "things"] ["pool", "word"] (defScope sLOdd) := ⟨rfl, rfl, rfl, by decide +kernel, rfl, by decide +kernel, by decide +kernel⟩
theorem ok_lodd {f fD : Addr} {fd fdD : FuncData} (F : FnP K "_law_odd" sLOdd f fd) (GD : FnOk P w K mg base CX0 1 fD fdD ["pool", "limit"] spDrawP) (bD : Binds K fdD ["pool", "limit"] []) (kD : PySem.W.keepIn K (.ref fD) = true) (gD : mg "_law_draw" = some (.ref fD)) : FnOk P w K mg base CX0 2 f fd ["pool", "word"] spLOdd := by
  refine F.ok scLOdd (fun vs H Q E h => ?_) (fun cdv A outer s H vs Q E hr h => ?_)
  · obtain ⟨p, g, z, rfl, _⟩ := h
    rfl
  · obtain ⟨p, g, z, rfl, hB, hz, k⟩ := h
    have nd := scLOdd.nd
    have hr1 := hr.mono (j := 1) (by decide)
    obtain ⟨u1, u2, u3, u4⟩ := up_sc z hz
    refine ⟨_, PSs.nox (pss_cons (ps_set (i := 2) nd rfl (Or.inl rfl) (pe_lst (pa_cons pe_non (pa_cons pe_bl (pa_cons pe_int (pa_cons (pe_call GD hr1 (by rfl) gD kD bD .nil pass0 (pa_cons (pv 0) (pa_cons (pe_op op_pow pe_int pe_int) pa_nil))) (pa_cons pe_str (pa_cons (pe_upper (pv 1)) (pa_cons (pe_op op_add_str (pv 1) pe_str) (pa_cons (pe_tup (pa_cons (pv 1) pa_nil)) (pa_cons (pe_lst (pa_cons (pv 1) pa_nil)) pa_nil)))))))))))
(pss_cons (ps_set (i := 2) nd rfl (Or.inl rfl) (pe_op op_cat (pv 2) (pe_lst (pa_cons pe_str (pa_cons pe_str (pa_cons pe_str (pa_cons pe_str (pa_cons pe_str (pa_cons pe_str (pa_cons pe_str (pa_cons pe_str (pa_cons pe_str (pa_cons pe_str (pa_cons pe_str (pa_cons pe_str pa_nil)))))))))))))))
(pss_one (ps_ret (pe_ix ix_list (pv 2) (pe_call GD hr1 (by rfl) gD kD bD .nil pass0 (pa_cons (pv 0) (pa_cons pe_int pa_nil))) (fun _ _ => rfl)))))), ?_⟩
    refine ⟨_, rfl, _, _, rfl, rfl, ⟨by decide, by decide, by decide⟩, p, g, _, rfl, hB, by decide, by decide, fun r G1 r0 r1 k1 hB1 => ?_⟩
    refine ⟨_, rfl, ⟨_, rfl⟩, z, rfl, rfl, by omega, _, rfl, z, " ", rfl, rfl, by rw [sizeLine_eq]; show z.length + 1 ≤ _; omega, _, rfl, (by show 1 ≤ sizeLine; decide), fun T nT => ?_⟩
    generalize e_G2 : upd _ T _ = G2
    have s_T := new_same e_G2 nT
    have f_T := new_at e_G2
    clear e_G2
    have hB1 := hB1.mv s_T
    have k2 := k1.same s_T
    refine ⟨_, rfl, (by show 1 ≤ sizeLine; decide), fun L nL => ?_⟩
    obtain ⟨nLp, nLg⟩ := hB1.ne nL
    generalize e_G3 : upd _ L _ = G3
    have s_L := new_same e_G3 nL
    have f_L := new_at e_G3
    clear e_G3
    have hB1 := hB1.mv s_L
    have f_T := f_T.mv s_L
    have k3 := k2.same s_L
    refine ⟨(by show 9 ≤ sizeLine; decide), fun A nA => ?_⟩
    generalize e_G4 : upd _ A _ = G4
    have s_A := new_same e_G4 nA
    have f_A := new_at e_G4
    clear e_G4
    have hB1 := hB1.mv s_A
    have f_T := f_T.mv s_A
    have f_L := f_L.mv s_A
    have k4 := k3.same s_A
    dsimp only [gName, List.set]
    refine ⟨_, rfl, (by show 12 ≤ sizeLine; decide), fun B nB => ?_⟩
    generalize e_G5 : upd _ B _ = G5
    have s_B := new_same e_G5 nB
    have f_B := new_at e_G5
    clear e_G5
    have hB1 := hB1.mv s_B
    have f_T := f_T.mv s_B
    have f_L := f_L.mv s_B
    have f_A := f_A.mv s_B
    have k5 := k4.same s_B
    refine ⟨A, B, _, _, rfl, rfl, f_A, f_B, (by show 9 + 12 ≤ sizeLine; decide), fun C nC => ?_⟩
    obtain ⟨nCp, nCg⟩ := hB1.ne nC
    generalize e_G6 : upd _ C _ = G6
    have s_C := new_same e_G6 nC
    have f_C := new_at e_G6
    clear e_G6
    have hB1 := hB1.mv s_C
    have f_T := f_T.mv s_C
    have f_L := f_L.mv s_C
    have k6 := k5.same s_C
    dsimp only [gName, List.set]
    refine ⟨_, rfl, _, rfl, p, g, _, rfl, hB1, by decide, by decide, fun q G8 q0 q1 k8 hB8 => ?_⟩
    have hAll : ∀ x ∈ ([V.non, .bl true, .int 0, .int r, .str "", .str (Txt.upper z), .str (z ++ " "), .ref T, .ref L] ++ [V.str "home", .str "to", .str "other", .str "x", .str "y", .str "k", .str "row", .str "alone", .str "apart", .str "within", .str "itself", .str "zero"] : List V), ∃ d, OdV p g G6 x d ∧ ∀ y, d = .str y → y ∈ oddsL z := by
      have st : ∀ y : Str, y ∈ oddsL z → scB y = true → ∃ d, OdV p g G6 (.str y) d ∧ ∀ y, d = .str y → y ∈ oddsL z := fun y hm hy => ⟨.str y, .inl ⟨sc_of hy, .inr (.inr (.inr ⟨y, rfl, rfl⟩))⟩, fun y2 e => by injection e with e; rw [← e]; exact hm⟩
      have mm : ∀ (n : Nat) (y : Str), (oddsL z)[n]? = some y → y ∈ oddsL z := fun n y h => List.mem_of_getElem? h
      simp only [List.cons_append, List.nil_append, List.forall_mem_cons]
      refine ⟨⟨.none, .inl ⟨trivial, .inl ⟨rfl, rfl⟩⟩, fun _ e => nomatch e⟩, ⟨.bool true, .inl ⟨trivial, .inr (.inl ⟨true, rfl, rfl⟩)⟩, fun _ e => nomatch e⟩, ⟨.int 0, .inl ⟨Nat.zero_le _, .inr (.inr (.inl ⟨0, rfl, rfl⟩))⟩, fun _ e => nomatch e⟩, ⟨.int r, .inl ⟨?_, .inr (.inr (.inl ⟨r, rfl, rfl⟩))⟩, fun _ e => nomatch e⟩, st _ (mm 0 _ rfl) (by decide +kernel), st _ (mm 1 _ rfl) u1, st _ (mm 2 _ rfl) u3, ⟨_, .inr (.inl ⟨T, z, rfl, f_T, rfl, hz⟩), fun _ e => nomatch e⟩, ⟨_, .inr (.inr ⟨L, z, rfl, nLp, nLg, f_L, rfl, hz⟩), fun _ e => nomatch e⟩,
        st _ (mm 3 _ rfl) (by decide +kernel), st _ (mm 4 _ rfl) (by decide +kernel), st _ (mm 5 _ rfl) (by decide +kernel), st _ (mm 6 _ rfl) (by decide +kernel), st _ (mm 7 _ rfl) (by decide +kernel), st _ (mm 8 _ rfl) (by decide +kernel), st _ (mm 9 _ rfl) (by decide +kernel), st _ (mm 10 _ rfl) (by decide +kernel), st _ (mm 11 _ rfl) (by decide +kernel), st _ (mm 12 _ rfl) (by decide +kernel), st _ (mm 13 _ rfl) (by decide +kernel), st _ (mm 14 _ rfl) (by decide +kernel), fun _ z => nomatch z⟩
      have e30 : (10 : Int) ^ Int.toNat 30 = 10 ^ 30 := by decide
      rw [e30] at r1
      show r.natAbs ≤ 10 ^ 31
      omega
    obtain ⟨j, rfl⟩ : ∃ j : Nat, q = j := ⟨q.toNat, by omega⟩
    have hj : j < 21 := by omega
    obtain ⟨x, hx⟩ : ∃ x, ([V.non, .bl true, .int 0, .int r, .str "", .str (Txt.upper z), .str (z ++ " "), .ref T, .ref L] ++ [V.str "home", .str "to", .str "other", .str "x", .str "y", .str "k", .str "row", .str "alone", .str "apart", .str "within", .str "itself", .str "zero"] : List V)[j]? = some x := ⟨_, List.getElem?_eq_getElem hj⟩
    obtain ⟨d, hd, hod⟩ := hAll x (List.mem_of_getElem? hx)
    exact ⟨C, _, _, x, rfl, rfl, SqL.of (k8 _ _ nCp nCg f_C), atI_nat hx, k x d G8 (k6.trans k8) hB8 (hd.mp hB1 k8) hod⟩
end
end K33

set_option Elab.async false
set_option maxRecDepth 100000
set_option maxHeartbeats 2000000
/-! try with several handlers, each `except X as n`, one of which takes what is raised. -/
namespace KX
open PySem PySem.Spec PyProof.Rows L2 L2N
abbrev Hdl := Value × (Addr → Value → Option Addr → TS)
/-- behind a suite the name is gone -/
def gone (i : Nat) (D : Ends) : Ends := { nx := fun σ H => D.nx (σ.set i none) H, rt := D.rt, bk := fun σ H => D.bk (σ.set i none) H, ct := fun σ H => D.ct (σ.set i none) H }
def wAss (K : PySem.W.Frag) (i : Nat) (D : Ends) : List Hdl → WX
  | [] => fun _ _ _ _ => False
  | h :: r => fun cls d σ H => ∃ b, PySem.W.exmOne K cls h.1 = some b ∧ (b = true → ∀ a, H a = none → h.2 a cls d (gone i D) (σ.set i (some (.ref a))) H) ∧ (b = false → wAss K i D r cls d σ H)
inductive HdsAs (X : Cx) (n : Str) : List ExceptHandler → List Hdl → Prop
  | nil : HdsAs X n [] []
  | cons {x : Str} {c : Value} {ts : Addr → Value → Option Addr → TS} {b : Stmt} {bs : List Stmt} {p q : Pos} {hs : List ExceptHandler} {l : List Hdl} (nm : L2.Names X x c)
      (su : ∀ (a : Addr) (oe : Obj) (cls : Value) (d : Option Addr) (pn : List (Addr × Obj)), Zn cls d oe → (∃ vs, oe.data = .fields vs) → PSs (X.suite a ((a, oe) :: pn)) (b :: bs) (ts a cls d)) (r : HdsAs X n hs l) :
      HdsAs X n (.ExceptHandler (some (.Name x p)) (some n) (b :: bs) q :: hs) ((c, ts) :: l)
section
variable {X : Cx} {n : Str} {i : Nat} {body : List Stmt} {h₀ : ExceptHandler} {hds : List ExceptHandler} {l : List Hdl} {pos : Pos} {tb : WX → TS}
theorem ps_try_ass (hs : X.stack = X.env :: X.outer) (hf : X.env.frame = some X.env.locals) (hN : X.N.Nodup) (hi : X.N[i]? = some n) (hln : X.env.kindOf n = some .local)
    (hb : ∀ (W : WX) (pn : List (Addr × Obj)) (xe : Value → Shared → Prop), L2N.Takes (X.tr pn xe) W → PassesOwn (model X.prog X.w) X.A X.env xe → PSs (X.tr pn xe) body (tb W))
    (hh : HdsAs X n (h₀ :: hds) l) : PS X (.Try body (h₀ :: hds) [] [] pos) (fun D σ H => tb (wAss X.K i D l) D σ H) := by
  refine ⟨fun pins s σ H D I h => ?_⟩
  have ok := I.ok
  have hfr : X.A.frames = some (X.env :: X.outer) := by rw [ok.frames, hs]
  refine wpAny_Try_except (wpAny_mono ((hb (wAss X.K i D l) (X.pn ++ pins) (fun e s₁ => wpAny (model X.prog X.w) X.A (noteFrame e X.env) (fun _ s₂ => wpAny (model X.prog X.w) X.A (setFlight e none) (fun _ s₃ =>
    wpAny (model X.prog X.w) X.A (handleBy e X.env (h₀ :: hds)) (SP X pins D) X.xe s₃) X.xe s₂) X.xe s₁) (fun u s' xx => ?_) PassesOwn.looking).run [] s σ H D (I.toTry _) h) (fun f s1 hsp => ?_) (fun e s1 he => he))
  case refine_2 =>
    cases f with
    | next => exact wpAny_execs_nil (let ⟨σ', H', J', q⟩ := hsp; ⟨σ', H', J'.ofTry ok, q⟩)
    | brk => exact let ⟨σ', H', J', q⟩ := hsp; ⟨σ', H', J'.ofTry ok, q⟩
    | cont => exact let ⟨σ', H', J', q⟩ := hsp; ⟨σ', H', J'.ofTry ok, q⟩
    | ret u => exact let ⟨v, σ', H', J', r, q⟩ := hsp; ⟨v, σ', H', J'.ofTry ok, r, q⟩
  case refine_1 =>
    obtain ⟨a, B, sI, pins', σ', H', cls, d, rfl, J', nb, up, sky, na, os, ag, w⟩ := xx
    have J : Inv X pins σ' H' sI := J'.ofTry ok
    show wpAny (model X.prog X.w) X.A (noteFrame (.ref a) X.env) _ _ _
    refine Sky.land Zn.steady hfr hf (by rw [← hs]; exact sky) fun h3 fl3 up3 => ?_
    have J3 : Inv X pins σ' H' { s' with heap := h3 } := J.landed nb fl3.1 (up.trans up3) os ag
    obtain ⟨oe3, vs3, he3, hz3, hd3⟩ := fl3.there
    have nfr : a ∉ frs (X.env :: X.outer) := fun hm => by
      obtain ⟨_, o', e', hnf⟩ := fl3.2.2.1.mem hm
      rw [he3] at e'
      cases e'
      exact hnf _ hd3
    have nL : a ≠ X.env.locals := fun z => nfr (List.mem_filterMap.mpr ⟨X.env, List.mem_cons_self, by rw [hf, z]⟩)
    have nF : a ∉ X.fs := fun hm => by
      obtain ⟨e, he, q⟩ := List.mem_filterMap.mp hm
      exact nfr (List.mem_filterMap.mpr ⟨e, List.mem_cons_of_mem _ he, q⟩)
    have S3 := J3.suite he3 hd3 na nL nF
    suffices go : ∀ {hs' : List ExceptHandler} {l' : List Hdl}, HdsAs X n hs' l' → wAss X.K i D l' cls d σ' H' → wpAny (model X.prog X.w) X.A (handleBy (.ref a) X.env hs') (SP X pins D) X.xe { s' with heap := h3 } from go hh w
    intro hs' l' hk
    induction hk with
    | nil => exact fun w => w.elim
    | @cons x c ts b0 bs p q hs2 l2 nm su r ih =>
      rintro ⟨b, hb1, hyes, hno⟩
      refine wpAny_handleBy_cons (codeAny_handlers_test ?_) (by intro q; cases q)
      have LT : PySem.W.Looks (model X.prog X.w) h3 (typeOf (.ref a)) cls := fun A Q E s k q => wpAny_typeOf_ref (k _ _ he3) (by rw [hz3.1]; exact q)
      have LM := PySem.W.exm_one (M := model X.prog X.w) (J3.kIn) LT hb1
      have name : ∀ {Q : Value → Shared → Prop} {E : Value → Shared → Prop}, Q c { s' with heap := h3 } → wpAny (model X.prog X.w) (X.A.mark (some (.ref a))) (eval (.Name x p) X.env) Q E { s' with heap := h3 } := fun {Q E} q => by
        obtain ⟨hg, hdbg, hm | ⟨hm, hv, hnn⟩⟩ := nm
        · exact ld_glob (X := X.suite a ((a, oe3) :: (X.pn ++ pins))) S3 hg hm q hdbg
        · exact ld_blt (X := X.suite a ((a, oe3) :: (X.pn ++ pins))) S3 hg hm hv q hnn hdbg
      refine name (LM.here ?_)
      cases b with
      | false => exact ih (hno rfl)
      | true =>
        refine codeAny_handlers_suite_as (HandSPX.lands_againZ fl3 fun h4 fl4 up4 => ?_)
        have J4 : Inv X pins σ' H' { s' with heap := h4 } := J.landed nb fl4.1 ((up.trans up3).trans up4) os ag
        obtain ⟨oe4, vs4, he4, hz4, hd4⟩ := fl4.there
        refine store_ok (X := X.suite a ((a, oe4) :: (X.pn ++ pins))) (v := .ref a) (J4.suite he4 hd4 na nL nF) hN hi (.inl hln) rfl (fun s5 S5 => ?_) (.inr hln)
        refine wpAny_mono ((su a oe4 cls d (X.pn ++ pins) hz4 ⟨_, hd4⟩).run [] s5 _ H' _ S5 (hyes rfl a na)) (fun f s6 hsp => ?_) (fun _ _ z => False.elim z)
        have fin : ∀ {σ6 : L2.St} {H6 : Hp} {Q : Shared → Prop}, Inv (X.suite a ((a, oe4) :: (X.pn ++ pins))) [] σ6 H6 s6 → (∀ s7, Inv X pins (σ6.set i none) H6 s7 → Q s7) →
            wpAny (model X.prog X.w) X.A (do bindName X.env n .none; unbindBehindTheSuite X.env n q) (fun _ s7 => Q s7) X.xe s6 := fun {σ6 H6 Q} S6 hq => gone_ok (S6.unsuite ok) hN hi hln hq
        cases f with
        | next => exact let ⟨σ6, H6, S6, q6⟩ := hsp; fin S6 fun s7 J7 => ⟨_, _, J7, q6⟩
        | brk => exact let ⟨σ6, H6, S6, q6⟩ := hsp; fin S6 fun s7 J7 => ⟨_, _, J7, q6⟩
        | cont => exact let ⟨σ6, H6, S6, q6⟩ := hsp; fin S6 fun s7 J7 => ⟨_, _, J7, q6⟩
        | ret u => exact let ⟨v6, σ6, H6, S6, r6, q6⟩ := hsp; fin S6 fun s7 J7 => ⟨_, _, _, J7, r6, q6⟩
end
end KX

set_option Elab.async false
set_option maxRecDepth 100000
set_option maxHeartbeats 2000000
namespace K33
open PySem PySem.Spec PyProof.Rows L2 He KX StX
abbrev sLAns : Stmt := top 35
def exc2 : List Stmt → List Stmt
  | .Try _ (_ :: .ExceptHandler _ _ b _ :: _) _ _ _ :: _ => b
  | _ => []
def exc3 : List Stmt → List Stmt
  | .Try _ (_ :: _ :: .ExceptHandler _ _ b _ :: _) _ _ _ :: _ => b
  | _ => []
def TupIs (H : Hp) (xs : List V) (Q : VK) : Prop := ∀ p G, Same H G → G p = some (.tup xs) → Q (.ref p) G
def spAns (K : PySem.W.Frag) : Sp := fun vs H Q _ => ∃ (wh : Int) (v : V) (d : PyData) (u : V) (e : PyData) (t : V) (g : PyData), vs = [.int wh, v, u, t] ∧ Dp K H v d ∧ SeqAt.shaped d = true ∧ Small d 8 2000 ∧ Dp K H u e ∧ SeqAt.shaped e = true ∧ Small e 8 2000 ∧ Dp K H t g ∧ SeqAt.shaped g = true ∧ Small g 8 2000 ∧
  (inS ops d = false → TupIs H [.str "operation", .str d.shown, .bl true] Q) ∧ (∀ z ∈ ops, d = .str z → inS (wor z) e = false → TupIs H [.str "world", .str e.shown, .bl true] Q) ∧
  (wh ≠ 0 → ∀ z ∈ ops, d = .str z → ∀ wd ∈ wor z, e = .str wd → inS (kinS z wd) g = false → TupIs H [.str "kind", .str g.shown, .bl true] Q) ∧
  (∀ z ∈ ops, d = .str z → ∀ wd ∈ wor z, e = .str wd → (wh = 0 ∨ inS (kinS z wd) g = true) → TupIs H [.str "told"] Q)
section
variable {P : Program} {w : World} {K : PySem.W.Frag} {mg : Str → Option Value} {base : Heap}
theorem scLAns : FnScope ["which", "op", "world", "kind", "e"] ["which", "op", "world", "kind"] (defScope sLAns) := ⟨rfl, rfl, rfl, by decide +kernel, rfl, by decide +kernel, by decide +kernel⟩
theorem ok_ans {f fK fN fS : Addr} {fd fdK fdN fdS : FuncData} (F : FnP K "_law_answer" sLAns f fd) (BO : ErBO K) (BW : ErBW K) (BK : ErBK K)
    (GK : FnOk P w K mg base (L2N.CX P w) 5 fK fdK ["op", "world"] (spKin K)) (bK : Binds K fdK ["op", "world"] []) (kK : PySem.W.keepIn K (.ref fK) = true) (gK : mg "kinds_of" = some (.ref fK))
    (GN : FnOk P w K mg base (L2N.CX P w) 7 fN fdN ["op", "world", "kind"] (spNum K)) (bN : Binds K fdN ["op", "world", "kind"] []) (kN : PySem.W.keepIn K (.ref fN) = true) (gN : mg "numbers_of" = some (.ref fN))
    (GS : FnOk P w K mg base (L2N.CX P w) 8 fS fdS ["op", "world", "kind"] (spStd K)) (bS : Binds K fdS ["op", "world", "kind"] []) (kS : PySem.W.keepIn K (.ref fS) = true) (gS : mg "standing" = some (.ref fS))
    (gPE : mg "PlaceError" = some (.ref (ga K "PlaceError"))) (gBO : mg "BadOperation" = some (.ref (ga K "BadOperation"))) (gBW : mg "BadWorld" = some (.ref (ga K "BadWorld"))) (gBK : mg "BadKind" = some (.ref (ga K "BadKind"))) (n_isinstance : mg "isinstance" = none) (n_ValueError : mg "ValueError" = none) (n_repr : mg "repr" = none) : FnG P w K mg base CX0 9 f fd ["which", "op", "world", "kind"] (spAns K) := by
  refine fnG_ok F scLAns (fun vs H Q E h => ?_) (fun cdv A outer s H vs Q E gg hr h => ?_)
  · obtain ⟨wh, v, d, u, e, t, g, rfl, _⟩ := h
    rfl
  · obtain ⟨wh, v, d, u, e, t, g, rfl, hd, ds, dm, he, es, em, hg, gs, gm, kO, kW, kK2, kT⟩ := h
    have nd := scLAns.nd
    have hr8 := hr.mono (j := 8) (by decide)
    have hr7 := hr.mono (j := 7) (by decide)
    have hr5 := hr.mono (j := 5) (by decide)
    have hu10 : (A.deeper (envOfC "_law_answer" (defScope sLAns) s.heap.objs.size f cdv)).units + 10 < cLine := Nat.lt_of_le_of_lt (Nat.add_le_add_left (by decide) _) hr.units
    refine ⟨_, (by exact (pss_cons (ps_try_ass (i := 4) (tb := fun W => tIfS (tTest (tOp rEq (tVar 0) (tC (.int 0)))) (tDrop (tCallS (spKin K) (WE W) (tCons (tVar 1) (tCons (tVar 2) tNil)))) (tIfS (tTest (tOp rEq (tVar 0) (tC (.int 1)))) (tDrop (tCallS (spNum K) (WE W) (tCons (tVar 1) (tCons (tVar 2) (tCons (tVar 3) tNil))))) (tDrop (tCallS (spStd K) (WE W) (tCons (tVar 1) (tCons (tVar 2) (tCons (tVar 3) tNil))))))) rfl rfl nd rfl rfl
      (fun W pn xe tk _ => pss_one (ps_if (by exact (pt_cmpR op_eq (pv 0) pe_int (nomark _))) (pss_one (ps_expr (by exact (pe_callS GK hr5 (by rfl) gK kK bK (fun σ => L2N.passAt tk σ) (pa_cons (pv 1) (pa_cons (pv 2) pa_nil)))))) (pss_one (ps_if (by exact (pt_cmpR op_eq (pv 0) pe_int (nomark _))) (pss_one (ps_expr (by exact (pe_callS GN hr7 (by rfl) gN kN bN (fun σ => L2N.passAt tk σ) (pa_cons (pv 1) (pa_cons (pv 2) (pa_cons (pv 3) pa_nil))))))) (pss_one (ps_expr (by exact (pe_callS GS hr8 (by rfl) gS kS bS (fun σ => L2N.passAt tk σ) (pa_cons (pv 1) (pa_cons (pv 2) (pa_cons (pv 3) pa_nil)))))))))))
      (HdsAs.cons (ts := tsAt _ (excBody (defBody sLAns))) ⟨rfl, by decide, Or.inl gBO⟩ (fun a oe cls d pn hz hf => tsAt_ok hz hf) (HdsAs.cons (ts := tsAt _ (exc2 (defBody sLAns))) ⟨rfl, by decide, Or.inl gBW⟩ (fun a oe cls d pn hz hf => tsAt_ok hz hf) (HdsAs.cons (ts := tsAt _ (exc3 (defBody sLAns))) ⟨rfl, by decide, Or.inl gBK⟩ (fun a oe cls d pn hz hf => tsAt_ok hz hf) .nil)))) (pss_one (ps_ret (pe_tup (pa_cons pe_str pa_nil)))))), ?_⟩
    have body : ∀ (W : WX) (D : Ends), (inS ops d = false → Raised (ga K "BadOperation") H [("op", v)] (WE W [some (.int wh), some v, some u, some t, none])) →
        (∀ z ∈ ops, d = .str z → inS (wor z) e = false → Raised (ga K "BadWorld") H [("world", u)] (WE W [some (.int wh), some v, some u, some t, none])) →
        (wh ≠ 0 → ∀ z ∈ ops, d = .str z → ∀ wd ∈ wor z, e = .str wd → inS (kinS z wd) g = false → Raised (ga K "BadKind") H [("kind", t)] (WE W [some (.int wh), some v, some u, some t, none])) →
        (∀ z ∈ ops, d = .str z → ∀ wd ∈ wor z, e = .str wd → (wh = 0 ∨ inS (kinS z wd) g = true) → ∀ G, Same H G → D.nx [some (.int wh), some v, some u, some t, none] G) →
        (tIfS (tTest (tOp rEq (tVar 0) (tC (.int 0)))) (tDrop (tCallS (spKin K) (WE W) (tCons (tVar 1) (tCons (tVar 2) tNil)))) (tIfS (tTest (tOp rEq (tVar 0) (tC (.int 1)))) (tDrop (tCallS (spNum K) (WE W) (tCons (tVar 1) (tCons (tVar 2) (tCons (tVar 3) tNil))))) (tDrop (tCallS (spStd K) (WE W) (tCons (tVar 1) (tCons (tVar 2) (tCons (tVar 3) tNil))))))) D [some (.int wh), some v, some u, some t, none] H := fun W D q1 q2 q3 q4 => by
      refine ⟨_, rfl, rfl, _, rfl, ?_⟩
      by_cases c : wh = 0
      · refine yes (decide_eq_true (congrArg V.int c)) ?_
        exact ⟨_, rfl, _, rfl, v, d, u, e, rfl, hd, ds, he, es, q1, q2, fun z hz ez wd hwd ew T G nT s1 _ => q4 z hz ez wd hwd ew (.inl c) G s1⟩
      · refine no (decide_eq_false fun e => c (by injection e)) ?_
        have B : Bad3 K H v d u e t g (WE W [some (.int wh), some v, some u, some t, none]) := ⟨hd, ds, he, es, hg, gs, q1, q2, q3 c⟩
        refine ⟨_, rfl, rfl, _, rfl, ite2' (fun _ => ?_) (fun _ => ?_)⟩
        · refine ⟨_, rfl, _, rfl, _, rfl, v, d, u, e, t, g, rfl, B, fun z hz ez wd hwd ew kd hkd ek T G nT s1 _ => q4 z hz ez wd hwd ew (.inr ?_) G s1⟩
          rw [ek, inS_str]
          exact decide_eq_true hkd
        · refine ⟨_, rfl, _, rfl, _, rfl, v, d, u, e, t, g, rfl, B, fun z hz ez wd hwd ew kd hkd ek r G s1 => q4 z hz ez wd hwd ew (.inr ?_) G s1⟩
          rw [ek, inS_str]
          exact decide_eq_true hkd
    refine body _ _ (fun hi d' H' s1 hd' => ?_) (fun z hz ez hi d' H' s1 hd' => ?_) (fun c z hz ez wd hwd ew hi d' H' s1 hd' => ?_) (fun z hz ez wd hwd ew ho G s1 => ?_)
    · refine ⟨true, BO.ex ("BadOperation", true) (by simp), fun _ e ne => ?_, fun z => nomatch z⟩
      apply Exists.intro
      refine And.intro (fun oe pn hz hf => ?t1) ?t2
      case t1 =>
        show PSs _ (_ :: _) _
        exact (pss_one (ps_ret (pe_tup (pa_cons pe_str (pa_cons (pe_callB (show CallR _ (.builtin "repr") (rReprD K) from call_reprD gg hu10) (by rfl) n_repr (by decide +kernel) (pa_cons (pe_xf (a := e) (oe := oe) (pn := pn) BO.X (BO.no _ List.mem_cons_self) hz.zc hf (pv 4)) pa_nil)) (pa_cons (pe_and (pe_callB (call_isEd (a := e) (oe := oe) (pn := pn) BO.T BO.sp BO.tk hz.zc hf) (by rfl) n_isinstance (by decide +kernel) (pa_cons (pv 4) (pa_cons (pe_glob (v := .ref (ga K "PlaceError")) rfl gPE rfl) pa_nil))) (pe_one (pe_not (pe_callB (call_isEd (a := e) (oe := oe) (pn := pn) BO.T BO.sp BO.tk hz.zc hf) (by rfl) n_isinstance (by decide +kernel) (pa_cons (pv 4) (pa_cons (pe_glob (v := .ref (ga K "BadWorld")) rfl gBW rfl) pa_nil)))))) pa_nil))))))
      case t2 =>
        refine ⟨_, rfl, rfl, rfl, d', _, _, rfl, hd', rfl, v, d, rfl, hd.mv s1, dm.mono (by decide) (by decide), _, rfl, ⟨_, hd'⟩, _, _, _, rfl, (fun _ r => r), BO.kO ("PlaceError", true) (by simp), _, rfl, yes rfl ⟨_, rfl, ⟨_, hd'⟩, _, _, _, rfl, (fun _ r => r), BO.kO ("BadWorld", false) (by simp), _, rfl, (by show 3 ≤ sizeLine; decide), fun T nT => ?_⟩⟩
        exact kO hi _ _ (s1.trans (same_put nT)) upd_same
    · refine ⟨false, BW.ex ("BadOperation", false) (by simp), (fun z => nomatch z), fun _ => ⟨true, BW.ex ("BadWorld", true) (by simp), fun _ e ne => ?_, fun z => nomatch z⟩⟩
      apply Exists.intro
      refine And.intro (fun oe pn hz hf => ?t1) ?t2
      case t1 =>
        show PSs _ (_ :: _) _
        exact (pss_one (ps_ret (pe_tup (pa_cons pe_str (pa_cons (pe_callB (show CallR _ (.builtin "repr") (rReprD K) from call_reprD gg hu10) (by rfl) n_repr (by decide +kernel) (pa_cons (pe_xf (a := e) (oe := oe) (pn := pn) BW.X (BW.no _ List.mem_cons_self) hz.zc hf (pv 4)) pa_nil)) (pa_cons (pe_and (pe_callB (call_isEd (a := e) (oe := oe) (pn := pn) BW.T BW.sp BW.tk hz.zc hf) (by rfl) n_isinstance (by decide +kernel) (pa_cons (pv 4) (pa_cons (pe_glob (v := .ref (ga K "PlaceError")) rfl gPE rfl) pa_nil))) (pe_one (pe_not (pe_callB (call_isEd (a := e) (oe := oe) (pn := pn) BW.T BW.sp BW.tk hz.zc hf) (by rfl) n_isinstance (by decide +kernel) (pa_cons (pv 4) (pa_cons (pe_glob (v := .ref (ga K "BadKind")) rfl gBK rfl) pa_nil)))))) pa_nil))))))
      case t2 =>
        refine ⟨_, rfl, rfl, rfl, d', _, _, rfl, hd', rfl, u, _, rfl, he.mv s1, em.mono (by decide) (by decide), _, rfl, ⟨_, hd'⟩, _, _, _, rfl, (fun _ r => r), BW.kO ("PlaceError", true) (by simp), _, rfl, yes rfl ⟨_, rfl, ⟨_, hd'⟩, _, _, _, rfl, (fun _ r => r), BW.kO ("BadKind", false) (by simp), _, rfl, (by show 3 ≤ sizeLine; decide), fun T nT => ?_⟩⟩
        exact kW z hz ez hi _ _ (s1.trans (same_put nT)) upd_same
    · refine ⟨false, BK.ex ("BadOperation", false) (by simp), (fun z => nomatch z), fun _ => ⟨false, BK.ex ("BadWorld", false) (by simp), (fun z => nomatch z), fun _ => ⟨true, BK.ex ("BadKind", true) (by simp), fun _ e ne => ?_, fun z => nomatch z⟩⟩⟩
      apply Exists.intro
      refine And.intro (fun oe pn hz hf => ?t1) ?t2
      case t1 =>
        show PSs _ (_ :: _) _
        exact (pss_one (ps_ret (pe_tup (pa_cons pe_str (pa_cons (pe_callB (show CallR _ (.builtin "repr") (rReprD K) from call_reprD gg hu10) (by rfl) n_repr (by decide +kernel) (pa_cons (pe_xf (a := e) (oe := oe) (pn := pn) BK.X (BK.no _ List.mem_cons_self) hz.zc hf (pv 4)) pa_nil)) (pa_cons (pe_and (pe_callB (call_isEd (a := e) (oe := oe) (pn := pn) BK.T BK.sp BK.tk hz.zc hf) (by rfl) n_isinstance (by decide +kernel) (pa_cons (pv 4) (pa_cons (pe_glob (v := .ref (ga K "PlaceError")) rfl gPE rfl) pa_nil))) (pe_one (pe_callB (call_isEd (a := e) (oe := oe) (pn := pn) BK.T BK.sp BK.tk hz.zc hf) (by rfl) n_isinstance (by decide +kernel) (pa_cons (pv 4) (pa_cons (pe_bltn (v := .ty "ValueError") (by rfl) n_ValueError (by decide +kernel) rfl) pa_nil))))) pa_nil))))))
      case t2 =>
        refine ⟨_, rfl, rfl, rfl, d', _, _, rfl, hd', rfl, t, g, rfl, hg.mv s1, gm.mono (by decide) (by decide), _, rfl, ⟨_, hd'⟩, _, _, _, rfl, (fun _ r => r), BK.kO ("PlaceError", true) (by simp), _, rfl, yes rfl ⟨_, rfl, ⟨_, hd'⟩, _, _, _, rfl, (fun _ r => r), BK.kB ("ValueError", true) (by simp), (by show 3 ≤ sizeLine; decide), fun T nT => ?_⟩⟩
        exact kK2 c z hz ez wd hwd ew hi _ _ (s1.trans (same_put nT)) upd_same
    · refine ⟨(by show 1 ≤ sizeLine; decide), fun T nT => ?_⟩
      exact kT z hz ez wd hwd ew ho _ _ (s1.trans (same_put nT)) upd_same
end
end K33

set_option Elab.async false
set_option maxRecDepth 100000
set_option maxHeartbeats 2000000
namespace K33
open PySem PySem.Spec PyProof.Rows L2 He KX StX
abbrev sLaw : Stmt := top 37
def spLaw (K : PySem.W.Frag) : Sp := fun vs H Q _ => ∃ (a : Addr) (ns : List Int), vs = [.ref a] ∧ SqL K H a (ns.map V.int) ∧ ns.length ≤ 63 ∧ ∀ H', Q (.bl true) H'
theorem passLN {X : Cx} : Passes (L2N.CX X.prog X.w) X (fun _ _ _ => False) := fun _ _ _ _ _ _ _ h => by
  obtain ⟨_, _, _, _, _, _, _, _, _, _, _, _, z⟩ := h
  exact z.elim
structure LsP (p g : Addr) (H : Hp) (a : Addr) (l : List Str) : Prop where
  n1 : a ≠ p
  n2 : a ≠ g
  at_ : H a = some (.lst (l.map V.str))
theorem LsP.mv {p g a : Addr} {H G : Hp} {l : List Str} (h : LsP p g H a l) (s : Same H G) : LsP p g G a l := ⟨h.1, h.2, s _ _ h.3⟩
theorem LsP.mp {p g a : Addr} {H G : Hp} {l : List Str} (h : LsP p g H a l) (_ : Pool H p g) (k : KeptP p g H G) : LsP p g G a l := ⟨h.1, h.2, k _ _ h.1 h.2 h.3⟩
theorem kin_small : ∀ z ∈ ops, ∀ wd ∈ wor z, (PyData.tuple ((kinS z wd).map PyData.str)).showable = true ∧ (PyData.tuple ((kinS z wd).map PyData.str)).hasDict = false ∧ (PyData.tuple ((kinS z wd).map PyData.str)).depth ≤ 8 ∧ (PyData.tuple ((kinS z wd).map PyData.str)).shown.length ≤ 2000 := by decide +kernel
theorem num_small : ∀ z ∈ ops, ∀ wd ∈ wor z, ∀ kd ∈ kinS z wd, (PyData.tuple ((numS z wd kd).map PyData.str)).showable = true ∧ (PyData.tuple ((numS z wd kd).map PyData.str)).hasDict = false ∧ (PyData.tuple ((numS z wd kd).map PyData.str)).depth ≤ 8 ∧ (PyData.tuple ((numS z wd kd).map PyData.str)).shown.length ≤ 2000 := by decide +kernel
theorem all_words : ∀ z ∈ ops, z ∈ wordsL ∧ SeqAt.shaped (.str z) = true ∧ ∀ wd ∈ wor z, wd ∈ wordsL ∧ SeqAt.shaped (.str wd) = true ∧ kinS z wd ≠ [] ∧ (kinS z wd).length ≤ 5 ∧ ∀ kd ∈ kinS z wd, kd ∈ wordsL ∧ SeqAt.shaped (.str kd) = true := by decide +kernel
def wV (ok : Bool) (s : Str) (d : PyData) : List V := if ok = true then [.str "told"] else [.str s, .str d.shown, .bl true]
def wD (ok : Bool) (s : Str) (d : PyData) : PyData := if ok = true then .tuple [.str "told"] else .tuple [.str s, .str d.shown, .bool true]
theorem w_dp {K : PySem.W.Frag} {G : Hp} {W : Addr} {ok : Bool} {s : Str} {d : PyData} (h : G W = some (.tup (wV ok s d))) : Dp K G (.ref W) (wD ok s d) := by
  cases ok
  · exact .tup (SqT.of h) (.cons (.str _) (.cons (.str _) (.cons (.bl _) .nil)))
  · exact .tup (SqT.of h) (.cons (.str _) .nil)
theorem w_sh {ok : Bool} {s : Str} {d : PyData} (h1 : PyData.strOk s = true) (h2 : PyData.strOk d.shown = true) : SeqAt.shaped (wD ok s d) = true := by
  cases ok
  · refine tupSh (k := 0) (by decide) fun e he => ?_
    rcases List.mem_cons.mp he with rfl | he
    · exact ⟨h1, Nat.le_refl _⟩
    rcases List.mem_cons.mp he with rfl | he
    · exact ⟨h2, Nat.le_refl _⟩
    rw [List.mem_singleton.mp he]
    exact ⟨rfl, Nat.le_refl _⟩
  · show SeqAt.shaped (.tuple [.str "told"]) = true
    decide +kernel
theorem w_eqv (ok : Bool) (s : Str) (d : PyData) : (!(wD ok s d).eqv (wD ok s d)) = false := by
  cases ok
  · show (!((s == s) && ((d.shown == d.shown) && ((true == true) && true)))) = false
    rw [beq_self_eq_true, beq_self_eq_true]
    rfl
  · show (!((("told" : Str) == "told") && true)) = false
    rw [beq_self_eq_true]
    rfl
theorem str_small {z : Str} (h : z ∈ wordsL) : Small (.str z) 8 2000 := (sc_small (by decide) (sc_of (m := big) (up_sc z h).2.1)).mono (by decide) (by decide)
section
variable {P : Program} {w : World} {K : PySem.W.Frag} {mg : Str → Option Value} {base : Heap}
theorem scLaw : FnScope ["script", "pool", "ops", "op", "world", "kinds", "kind", "odd", "wanted"] ["script"] (defScope sLaw) := ⟨rfl, rfl, rfl, by decide +kernel, rfl, by decide +kernel, by decide +kernel⟩
theorem ok_law {f fPo fD fWo fKi fNu fOd fA fK fN : Addr} {fd fdPo fdD fdWo fdKi fdNu fdOd fdA fdK fdN : FuncData} (F : FnP K "law" sLaw f fd)
    (GPo : FnOk P w K mg base CX0 1 fPo fdPo ["script"] (spPool K)) (bPo : Binds K fdPo ["script"] []) (kPo : PySem.W.keepIn K (.ref fPo) = true) (gPo : mg "_law_pool" = some (.ref fPo))
    (GD : FnOk P w K mg base CX0 1 fD fdD ["pool", "limit"] spDrawP) (bD : Binds K fdD ["pool", "limit"] []) (kD : PySem.W.keepIn K (.ref fD) = true) (gD : mg "_law_draw" = some (.ref fD))
    (GWo : FnOk P w K mg base CX0 1 fWo fdWo ["op"] spLWo) (bWo : Binds K fdWo ["op"] []) (kWo : PySem.W.keepIn K (.ref fWo) = true) (gWo : mg "_law_worlds" = some (.ref fWo))
    (GKi : FnOk P w K mg base CX0 2 fKi fdKi ["op", "world"] spLKi) (bKi : Binds K fdKi ["op", "world"] []) (kKi : PySem.W.keepIn K (.ref fKi) = true) (gKi : mg "_law_kinds" = some (.ref fKi))
    (GNu : FnOk P w K mg base CX0 2 fNu fdNu ["op", "world", "kind"] spLNu) (bNu : Binds K fdNu ["op", "world", "kind"] []) (kNu : PySem.W.keepIn K (.ref fNu) = true) (gNu : mg "_law_numbers" = some (.ref fNu))
    (GOd : FnOk P w K mg base CX0 2 fOd fdOd ["pool", "word"] spLOdd) (bOd : Binds K fdOd ["pool", "word"] []) (kOd : PySem.W.keepIn K (.ref fOd) = true) (gOd : mg "_law_odd" = some (.ref fOd))
    (GA : FnG P w K mg base CX0 9 fA fdA ["which", "op", "world", "kind"] (spAns K)) (bA : Binds K fdA ["which", "op", "world", "kind"] []) (kA : PySem.W.keepIn K (.ref fA) = true) (gA : mg "_law_answer" = some (.ref fA))
    (GK : FnOk P w K mg base (L2N.CX P w) 5 fK fdK ["op", "world"] (spKin K)) (bK : Binds K fdK ["op", "world"] []) (kK : PySem.W.keepIn K (.ref fK) = true) (gK : mg "kinds_of" = some (.ref fK))
    (GN : FnOk P w K mg base (L2N.CX P w) 7 fN fdN ["op", "world", "kind"] (spNum K)) (bN : Binds K fdN ["op", "world", "kind"] []) (kN : PySem.W.keepIn K (.ref fN) = true) (gN : mg "numbers_of" = some (.ref fN))
    (n_repr : mg "repr" = none) (n_tuple : mg "tuple" = none) (n_isinstance : mg "isinstance" = none) (n_str : mg "str" = none) (n_len : mg "len" = none) : FnG P w K mg base CX0 10 f fd ["script"] (spLaw K) := by
  refine fnG_ok F scLaw (fun vs H Q E h => ?_) (fun cdv A outer s H vs Q E gg hr h => ?_)
  · obtain ⟨a, ns, rfl, _⟩ := h
    rfl
  · obtain ⟨a, ns, rfl, hS, hl, k⟩ := h
    have nd := scLaw.nd
    have hr9 := hr.mono (j := 9) (by decide)
    have hr7 := hr.mono (j := 7) (by decide)
    have hr5 := hr.mono (j := 5) (by decide)
    have hr2 := hr.mono (j := 2) (by decide)
    have hr1 := hr.mono (j := 1) (by decide)
    have hu64 := hr.units
    have hu10 : (A.deeper (envOfC "law" (defScope sLaw) s.heap.objs.size f cdv)).units + 10 < cLine := Nat.lt_of_le_of_lt (Nat.add_le_add_left (by decide) _) hr.units
    refine ⟨_, PSs.nox (pss_cons (ps_set (i := 1) nd rfl (Or.inl rfl) (pe_call GPo hr1 (by rfl) gPo kPo bPo .nil pass0 (pa_cons (pv 0) pa_nil)))
(pss_cons (ps_set (i := 2) nd rfl (Or.inl rfl) (pe_lst (pa_cons pe_str (pa_cons pe_str (pa_cons pe_str (pa_cons pe_str (pa_cons pe_str (pa_cons pe_str (pa_cons pe_str (pa_cons pe_str (pa_cons pe_str (pa_cons pe_str pa_nil))))))))))))
(pss_cons (ps_for PassesOwn.never rfl (pi_list (pe_op op_cat (pv 2) (pe_revL (pv 2)))) (pg_name (i := 3) nd rfl (Or.inl rfl))
(pss_one (ps_for PassesOwn.never rfl (pi_list (pe_call GWo hr1 (by rfl) gWo kWo bWo .nil pass0 (pa_cons (pv 3) pa_nil))) (pg_name (i := 4) nd rfl (Or.inl rfl))
(pss_cons (ps_set (i := 5) nd rfl (Or.inl rfl) (pe_call GKi hr2 (by rfl) gKi kKi bKi .nil pass0 (pa_cons (pv 3) (pa_cons (pv 4) pa_nil))))
(pss_cons (ps_if (pt_cmpR op_ne (pe_callB (show CallR _ _ (rReprD K) from call_reprD gg hu10) (by rfl) n_repr (by decide +kernel) (pa_cons (pe_call GK hr5 (by rfl) gK kK bK .nil passLN (pa_cons (pv 3) (pa_cons (pv 4) pa_nil))) pa_nil)) (pe_callB (show CallR _ _ (rReprD K) from call_reprD gg hu10) (by rfl) n_repr (by decide +kernel) (pa_cons (pe_callTy call_tuple_of (by rfl) n_tuple (by decide +kernel) (pa_cons (pv 5) pa_nil)) pa_nil)) (nomark _))
(pss_one (ps_ret pe_bl))
pss_nil)
(pss_cons (ps_for PassesOwn.never rfl (pi_list (pv 5)) (pg_name (i := 6) nd rfl (Or.inl rfl))
(pss_one (ps_if (pt_cmpR op_ne (pe_callB (show CallR _ _ (rReprD K) from call_reprD gg hu10) (by rfl) n_repr (by decide +kernel) (pa_cons (pe_call GN hr7 (by rfl) gN kN bN .nil passLN (pa_cons (pv 3) (pa_cons (pv 4) (pa_cons (pv 6) pa_nil)))) pa_nil)) (pe_callB (show CallR _ _ (rReprD K) from call_reprD gg hu10) (by rfl) n_repr (by decide +kernel) (pa_cons (pe_callTy call_tuple_of (by rfl) n_tuple (by decide +kernel) (pa_cons (pe_call GNu hr2 (by rfl) gNu kNu bNu .nil pass0 (pa_cons (pv 3) (pa_cons (pv 4) (pa_cons (pv 6) pa_nil)))) pa_nil)) pa_nil)) (nomark _))
(pss_one (ps_ret pe_bl))
pss_nil)))
(pss_cons (ps_set (i := 7) nd rfl (Or.inl rfl) (pe_call GOd hr2 (by rfl) gOd kOd bOd .nil pass0 (pa_cons (pv 1) (pa_cons (pe_ix ix_list (pv 5) (pe_call GD hr1 (by rfl) gD kD bD .nil pass0 (pa_cons (pv 1) (pa_cons (pe_callB call_len_seq (by rfl) n_len PySem.boot_len (pa_cons (pv 5) pa_nil)) pa_nil))) (fun _ _ => rfl)) pa_nil))))
(pss_cons (ps_set (i := 8) nd rfl (Or.inl rfl) (pe_tup (pa_cons pe_str (pa_cons (pe_callB (show CallR _ _ (rReprD K) from call_reprD gg hu10) (by rfl) n_repr (by decide +kernel) (pa_cons (pv 7) pa_nil)) (pa_cons pe_bl pa_nil)))))
(pss_cons (ps_if (PW.pt (pw_and (pt_val (pe_callB call_isi (by rfl) n_isinstance (by decide +kernel) (pa_cons (pv 7) (pa_cons (pe_bltn (v := .ty "str") (by rfl) n_str (by decide +kernel) rfl) pa_nil)))) (pw_and1 (pt_cmpR op_in_seq (pv 7) (pv 5) rfl))))
(pss_one (ps_set (i := 8) nd rfl (Or.inl rfl) (pe_tup (pa_cons pe_str pa_nil))))
pss_nil)
(pss_cons (ps_if (pt_cmpR (op_neD hu64) (pe_callG GA gg hr9 (by rfl) gA kA bA .nil pass0 (pa_cons (pe_op op_add pe_int (pe_call GD hr1 (by rfl) gD kD bD .nil pass0 (pa_cons (pv 1) (pa_cons pe_int pa_nil)))) (pa_cons (pv 3) (pa_cons (pv 4) (pa_cons (pv 7) pa_nil))))) (pv 8) (nomark _))
(pss_one (ps_ret pe_bl))
pss_nil)
(pss_cons (ps_set (i := 7) nd rfl (Or.inl rfl) (pe_call GOd hr2 (by rfl) gOd kOd bOd .nil pass0 (pa_cons (pv 1) (pa_cons (pv 4) pa_nil))))
(pss_cons (ps_set (i := 8) nd rfl (Or.inl rfl) (pe_tup (pa_cons pe_str (pa_cons (pe_callB (show CallR _ _ (rReprD K) from call_reprD gg hu10) (by rfl) n_repr (by decide +kernel) (pa_cons (pv 7) pa_nil)) (pa_cons pe_bl pa_nil)))))
(pss_cons (ps_if (PW.pt (pw_and (pt_val (pe_callB call_isi (by rfl) n_isinstance (by decide +kernel) (pa_cons (pv 7) (pa_cons (pe_bltn (v := .ty "str") (by rfl) n_str (by decide +kernel) rfl) pa_nil)))) (pw_and1 (pt_cmpR op_in_seq (pv 7) (pe_call GWo hr1 (by rfl) gWo kWo bWo .nil pass0 (pa_cons (pv 3) pa_nil)) rfl))))
(pss_one (ps_set (i := 8) nd rfl (Or.inl rfl) (pe_tup (pa_cons pe_str pa_nil))))
pss_nil)
(pss_cons (ps_if (pt_cmpR (op_neD hu64) (pe_callG GA gg hr9 (by rfl) gA kA bA .nil pass0 (pa_cons pe_int (pa_cons (pv 3) (pa_cons (pv 7) (pa_cons pe_non pa_nil))))) (pv 8) (nomark _))
(pss_one (ps_ret pe_bl))
pss_nil)
(pss_cons (ps_if (PW.pt (pw_and (pt_cmpR (op_neD hu64) (pv 8) (pe_tup (pa_cons pe_str pa_nil)) (nomark _)) (pw_and1 (pt_cmpR (op_neD hu64) (pe_callG GA gg hr9 (by rfl) gA kA bA .nil pass0 (pa_cons (pe_op op_add pe_int (pe_call GD hr1 (by rfl) gD kD bD .nil pass0 (pa_cons (pv 1) (pa_cons pe_int pa_nil)))) (pa_cons (pv 3) (pa_cons (pv 7) (pa_cons pe_int pa_nil))))) (pv 8) (nomark _)))))
(pss_one (ps_ret pe_bl))
pss_nil)
(pss_cons (ps_set (i := 7) nd rfl (Or.inl rfl) (pe_call GOd hr2 (by rfl) gOd kOd bOd .nil pass0 (pa_cons (pv 1) (pa_cons (pv 3) pa_nil))))
(pss_one (ps_if (pt_cmpR (op_neD hu64) (pe_callG GA gg hr9 (by rfl) gA kA bA .nil pass0 (pa_cons (pe_call GD hr1 (by rfl) gD kD bD .nil pass0 (pa_cons (pv 1) (pa_cons pe_int pa_nil))) (pa_cons (pv 7) (pa_cons pe_non (pa_cons pe_int pa_nil))))) (pe_tup (pa_cons pe_str (pa_cons (pe_callB (show CallR _ _ (rReprD K) from call_reprD gg hu10) (by rfl) n_repr (by decide +kernel) (pa_cons (pv 7) pa_nil)) (pa_cons pe_bl pa_nil)))) (nomark _))
(pss_one (ps_ret pe_bl))
pss_nil))))))))))))))))))
(pss_one (ps_ret pe_bl))))), ?_⟩
    refine ⟨_, rfl, a, ns, rfl, hS, hl, fun p g G1 np ng s1 hB => ?_⟩
    dsimp only [gName, List.set]
    refine ⟨(by show 10 ≤ sizeLine; decide), fun O nO => ?_⟩
    generalize e_G2 : upd _ O _ = G2
    have s_O := new_same e_G2 nO
    have f_O := new_at e_G2
    clear e_G2
    have hB := hB.mv s_O
    have s1 := s1.mv s_O
    dsimp only [gName, List.set]
    refine ⟨_, rfl, _, rfl, O, _, rfl, SqL.of f_O, fun R nR => ?_⟩
    generalize e_G3 : upd _ R _ = G3
    have s_R := new_same e_G3 nR
    have f_R := new_at e_G3
    clear e_G3
    have hB := hB.mv s_R
    have s1 := s1.mv s_R
    have f_O := f_O.mv s_R
    refine ⟨O, R, _, _, rfl, rfl, f_O, f_R, (by show 10 + 10 ≤ sizeLine; decide), fun C nC => ?_⟩
    obtain ⟨nCp, nCg⟩ := hB.ne nC
    generalize e_G4 : upd _ C _ = G4
    have s_C := new_same e_G4 nC
    have f_C := new_at e_G4
    clear e_G4
    have hB := hB.mv s_C
    have hC : LsP p g G4 C (ops ++ ops.reverse) := ⟨nCp, nCg, f_C⟩
    refine ⟨C, rfl, ⟨_, SqL.of hC.at_⟩, ?_⟩
    have fl : ∀ l : List Str, (l.map V.str).all flatV = true := fun l => List.all_eq_true.mpr fun y hy => by
      obtain ⟨z, _, rfl⟩ := List.mem_map.mp hy
      rfl
    have sIn : ∀ z ∈ ops, inS ops (.str z) = false → False := fun z hz h => by rw [inS_str, decide_eq_true hz] at h; cases h
    refine for_it (walk_list (K := K) (a := C) (xs := (ops ++ ops.reverse).map V.str)) (fun j σ G => ∃ v3 v4 v5 v6 v7 v8, σ = [some (.ref a), some (.ref p), some (.ref O), v3, v4, v5, v6, v7, v8] ∧ Pool G p g ∧ LsP p g G C (ops ++ ops.reverse))
      ⟨_, _, _, _, _, _, rfl, hB, hC⟩ (fun _ _ _ _ h => by obtain ⟨_, _, _, _, _, _, _, _, q⟩ := h; exact SqL.of q.at_) ?_ (fun σ G _ => k _)
    clear hB hC s1 f_C s_C
    rintro j x σ G' G hj ⟨v3, v4, v5, v6, v7, v8, rfl, hB, hC⟩ ⟨rfl, hx⟩
    obtain ⟨z, hz0, rfl⟩ := Option.map_eq_some_iff.mp ((List.getElem?_map ..).symm.trans hx)
    have hz : z ∈ ops := by
      rcases List.mem_append.mp (List.mem_of_getElem? hz0) with h | h
      · exact h
      · exact List.mem_reverse.mp h
    obtain ⟨zw, zs, zall⟩ := all_words z hz
    dsimp only [gName, List.set]
    refine ⟨_, rfl, z, rfl, fun L G1 nL s1 hL => ⟨L, rfl, ⟨_, SqL.of hL⟩, ?_⟩⟩
    obtain ⟨nLp, nLg⟩ := hB.ne nL
    have hL : LsP p g G1 L (wor z) := ⟨nLp, nLg, hL⟩
    have hB := hB.mv s1
    have hC := hC.mv s1
    refine for_it (walk_list (K := K) (a := L) (xs := (wor z).map V.str)) (fun j σ G => ∃ v4 v5 v6 v7 v8, σ = [some (.ref a), some (.ref p), some (.ref O), some (.str z), v4, v5, v6, v7, v8] ∧ Pool G p g ∧ LsP p g G C (ops ++ ops.reverse) ∧ LsP p g G L (wor z))
      ⟨_, _, _, _, _, rfl, hB, hC, hL⟩ (fun _ _ _ _ h => by obtain ⟨_, _, _, _, _, _, _, _, q⟩ := h; exact SqL.of q.at_) ?_ (fun σ G h => by obtain ⟨_, _, _, _, _, rfl, q1, q2, _⟩ := h; exact ⟨_, _, _, _, _, _, rfl, q1, q2⟩)
    clear hB hC hL s1 nLp nLg nL
    rintro j2 x σ G' G hj2 ⟨v4, v5, v6, v7, v8, rfl, hB, hC, hL⟩ ⟨rfl, hx⟩
    obtain ⟨wd, hwd0, rfl⟩ := Option.map_eq_some_iff.mp ((List.getElem?_map ..).symm.trans hx)
    have hwd := List.mem_of_getElem? hwd0
    obtain ⟨ww, wsh, kne, klen, kall⟩ := zall wd hwd
    dsimp only [gName, List.set]
    -- kinds
    refine ⟨_, rfl, _, rfl, z, wd, rfl, fun KL G1 nKL s1 hKL => ?_⟩
    obtain ⟨nKp, nKg⟩ := hB.ne nKL
    rw [lki_eq z hz wd hwd] at hKL
    have hKL : LsP p g G1 KL (kinS z wd) := ⟨nKp, nKg, hKL⟩
    have hB := hB.mv s1
    have hC := hC.mv s1
    have hL := hL.mv s1
    dsimp only [gName, List.set]
    have noO : ∀ {A : Prop}, inS ops (.str z) = false → A := fun h => (sIn z hz h).elim
    have noW : ∀ {A : Prop} (z2 : Str), z2 ∈ ops → PyData.str z = .str z2 → inS (wor z2) (.str wd) = false → A := fun z2 _ e h => by
      injection e with e
      subst e
      rw [inS_str, decide_eq_true hwd] at h
      cases h
    refine ⟨_, rfl, _, rfl, .str z, .str z, .str wd, .str wd, rfl, .str _, zs, .str _, wsh, (fun h => noO h), (fun z2 h1 h2 h3 => noW z2 h1 h2 h3), fun z2 hz2 ez wd2 hwd2 ew T G2 nT s2 hT => ?_⟩
    injection ez with ez
    injection ew with ew
    subst ez ew
    obtain ⟨b1, b2, b3, b4⟩ := kin_small z hz wd hwd
    have smk : Small (PyData.tuple ((kinS z wd).map PyData.str)) 8 sizeLine := ⟨b1, b2, b3, Nat.le_trans b4 (by decide)⟩
    refine ⟨_, _, rfl, .tup (SqT.of hT) (strs_dp _), smk, ?_⟩
    have hB := hB.mv s2
    have hC := hC.mv s2
    have hL := hL.mv s2
    have hKL := hKL.mv s2
    refine ⟨_, rfl, KL, _, rfl, .inl ⟨SqL.of hKL.at_, fun T2 nT2 => ?_⟩⟩
    generalize e_G3 : upd _ T2 _ = G3
    have s_T2 := new_same e_G3 nT2
    have f_T2 := new_at e_G3
    clear e_G3
    have hB := hB.mv s_T2
    have hC := hC.mv s_T2
    have hL := hL.mv s_T2
    have hKL := hKL.mv s_T2
    refine ⟨_, _, rfl, .tup (SqT.of f_T2) (strs_dp _), smk, rfl, _, rfl, no (congrArg not (decide_eq_true rfl)) ?_⟩
    clear s2 hT nT f_T2 s_T2 nT2 s1 nKL b1 b2 b3 b4
    unfold tNext
    dsimp only
    -- each kind
    refine ⟨_, rfl, KL, rfl, ⟨_, SqL.of hKL.at_⟩, ?_⟩
    refine for_it (walk_list (K := K) (a := KL) (xs := (kinS z wd).map V.str)) (fun j σ G => ∃ v6, σ = [some (.ref a), some (.ref p), some (.ref O), some (.str z), some (.str wd), some (.ref KL), v6, v7, v8] ∧ Pool G p g ∧ LsP p g G C (ops ++ ops.reverse) ∧ LsP p g G L (wor z) ∧ LsP p g G KL (kinS z wd))
      ⟨_, rfl, hB, hC, hL, hKL⟩ (fun _ _ _ _ h => by obtain ⟨_, _, _, _, _, q⟩ := h; exact SqL.of q.at_) ?_ ?_
    · clear hB hC hL hKL
      rintro j3 x σ G' G hj3 ⟨v6, rfl, hB, hC, hL, hKL⟩ ⟨rfl, hx⟩
      obtain ⟨kd, hkd0, rfl⟩ := Option.map_eq_some_iff.mp ((List.getElem?_map ..).symm.trans hx)
      have hkd := List.mem_of_getElem? hkd0
      obtain ⟨kw, ksh⟩ := kall kd hkd
      dsimp only [gName, List.set]
      have noK : ∀ {A : Prop} (z2 : Str), z2 ∈ ops → PyData.str z = .str z2 → ∀ wd2 ∈ wor z2, PyData.str wd = .str wd2 → inS (kinS z2 wd2) (.str kd) = false → A := fun z2 _ e wd2 _ e2 h => by
        injection e with e
        injection e2 with e2
        subst e e2
        rw [inS_str, decide_eq_true hkd] at h
        cases h
      refine ⟨_, rfl, _, rfl, _, rfl, .str z, .str z, .str wd, .str wd, .str kd, .str kd, rfl, ⟨.str _, zs, .str _, wsh, .str _, ksh, (fun h => noO h), (fun z2 h1 h2 h3 => noW z2 h1 h2 h3), (fun z2 h1 h2 wd2 h3 h4 h5 => noK z2 h1 h2 wd2 h3 h4 h5)⟩, fun z2 hz2 ez wd2 hwd2 ew kd2 hkd2 ek T G2 nT s2 hT => ?_⟩
      injection ez with ez
      injection ew with ew
      injection ek with ek
      subst ez ew ek
      obtain ⟨b1, b2, b3, b4⟩ := num_small z hz wd hwd kd hkd
      have smn : Small (PyData.tuple ((numS z wd kd).map PyData.str)) 8 sizeLine := ⟨b1, b2, b3, Nat.le_trans b4 (by decide)⟩
      refine ⟨_, _, rfl, .tup (SqT.of hT) (strs_dp _), smn, ?_⟩
      have hB := hB.mv s2
      have hC := hC.mv s2
      have hL := hL.mv s2
      have hKL := hKL.mv s2
      refine ⟨_, rfl, _, rfl, _, rfl, z, wd, kd, rfl, fun NL G4 nNL s4 hNL => ?_⟩
      rw [lnu_eq z hz wd hwd kd hkd] at hNL
      have hB := hB.mv s4
      have hC := hC.mv s4
      have hL := hL.mv s4
      have hKL := hKL.mv s4
      refine ⟨NL, _, rfl, .inl ⟨SqL.of hNL, fun T2 nT2 => ?_⟩⟩
      generalize e_G3 : upd _ T2 _ = G3
      have s_T2 := new_same e_G3 nT2
      have f_T2 := new_at e_G3
      clear e_G3
      have hB := hB.mv s_T2
      have hC := hC.mv s_T2
      have hL := hL.mv s_T2
      have hKL := hKL.mv s_T2
      refine ⟨_, _, rfl, .tup (SqT.of f_T2) (strs_dp _), smn, rfl, _, rfl, no (congrArg not (decide_eq_true rfl)) ?_⟩
      exact ⟨_, rfl, hB, hC, hL, hKL⟩
    clear hB hC hL hKL smk
    rintro σ G ⟨v6, rfl, hB, hC, hL, hKL⟩
    dsimp only
    have okk : PyData.strOk ("kind" : Str) = true := by decide +kernel
    have okw : PyData.strOk ("world" : Str) = true := by decide +kernel
    have oko : PyData.strOk ("operation" : Str) = true := by decide +kernel
    -- an odd kind
    have hkp : 0 < (kinS z wd).length := List.length_pos_iff.mpr kne
    refine ⟨_, rfl, _, rfl, _, rfl, _, rfl, KL, _, rfl, .inl (SqL.of hKL.at_), p, g, _, rfl, hB, by rw [List.length_map]; omega, by rw [List.length_map]; exact Nat.lt_of_le_of_lt (Nat.le_trans (Nat.le_of_eq (Int.natAbs_natCast _)) klen) (by decide), fun r G1 r0 r1 k1 hB1 => ?_⟩
    have hC := hC.mp hB k1
    have hL := hL.mp hB k1
    have hKL := hKL.mp hB k1
    rw [List.length_map] at r1
    obtain ⟨ri, rfl⟩ : ∃ ri : Nat, r = ri := ⟨r.toNat, by omega⟩
    obtain ⟨kd, hkd⟩ : ∃ kd, (kinS z wd)[ri]? = some kd := ⟨_, List.getElem?_eq_getElem (by omega)⟩
    have ix : atI ((kinS z wd).map V.str) (ri : Int) = some (.str kd) := atI_nat ((List.getElem?_map ..).trans (congrArg (Option.map V.str) hkd))
    refine ⟨KL, _, _, _, rfl, rfl, SqL.of hKL.at_, ix, p, g, kd, rfl, hB1, (kall kd (List.mem_of_getElem? hkd)).1, fun v d G2 k2 hB2 hod hol => ?_⟩
    have hC := hC.mp hB1 k2
    have hL := hL.mp hB1 k2
    have hKL := hKL.mp hB1 k2
    clear hB hB1 k1 k2 ix hkd r0 r1
    dsimp only [gName, List.set]
    refine ⟨_, rfl, v, d, rfl, hod.dp, hod.small.mono (by decide) (by decide), (by show 3 ≤ sizeLine; decide), fun W nW => ?_⟩
    generalize e_G3 : upd _ W _ = G3
    have s_W := new_same e_G3 nW
    have f_W := new_at e_G3
    clear e_G3
    have hB2 := hB2.mv s_W
    have hC := hC.mv s_W
    have hL := hL.mv s_W
    have hKL := hKL.mv s_W
    have hod := hod.mv s_W
    dsimp only [gName, List.set]
    refine seq_by (fun σ G => ∃ W : Addr, σ = [some (.ref a), some (.ref p), some (.ref O), some (.str z), some (.str wd), some (.ref KL), v6, some v, some (.ref W)] ∧ Same G3 G ∧ G W = some (.tup (wV (inS (kinS z wd) d) "kind" d))) ?_ (fun nxt => ?_)
    · rintro σ G4 ⟨W, rfl, s4, hW⟩
      have hB2 := hB2.mv s4
      have hC := hC.mv s4
      have hL := hL.mv s4
      have hKL := hKL.mv s4
      have hod := hod.mv s4
      clear s4 f_W s_W nW
      -- told or refused
      refine seq_by (fun σ G => σ = [some (.ref a), some (.ref p), some (.ref O), some (.str z), some (.str wd), some (.ref KL), v6, some v, some (.ref W)] ∧ Pool G p g ∧ LsP p g G C (ops ++ ops.reverse) ∧ LsP p g G L (wor z) ∧ LsP p g G KL (kinS z wd)) ?_ (fun nxt => ?_)
      · clear hB2 hC hL hKL hod hol hW
        rintro σ G ⟨rfl, hB, hC, hL, hKL⟩
        -- an odd world
        refine ⟨_, rfl, _, rfl, p, g, wd, rfl, hB, ww, fun v d G2 k2 hB2 hod hol => ?_⟩
        have hC := hC.mp hB k2
        have hL := hL.mp hB k2
        have hKL := hKL.mp hB k2
        clear hB k2
        dsimp only [gName, List.set]
        refine ⟨_, rfl, v, d, rfl, hod.dp, hod.small.mono (by decide) (by decide), (by show 3 ≤ sizeLine; decide), fun W nW => ?_⟩
        generalize e_G3 : upd _ W _ = G3
        have s_W := new_same e_G3 nW
        have f_W := new_at e_G3
        clear e_G3
        have hB2 := hB2.mv s_W
        have hC := hC.mv s_W
        have hL := hL.mv s_W
        have hKL := hKL.mv s_W
        have hod := hod.mv s_W
        dsimp only [gName, List.set]
        refine seq_by (fun σ G => ∃ W : Addr, σ = [some (.ref a), some (.ref p), some (.ref O), some (.str z), some (.str wd), some (.ref KL), v6, some v, some (.ref W)] ∧ Same G3 G ∧ G W = some (.tup (wV (inS (wor z) d) "world" d))) ?_ (fun nxt => ?_)
        · rintro σ G4 ⟨W, rfl, s4, hW⟩
          have hB2 := hB2.mv s4
          have hC := hC.mv s4
          have hL := hL.mv s4
          have hKL := hKL.mv s4
          have hod := hod.mv s4
          clear s4 f_W s_W nW
          refine seq_by (fun σ G => σ = [some (.ref a), some (.ref p), some (.ref O), some (.str z), some (.str wd), some (.ref KL), v6, some v, some (.ref W)] ∧ Same G4 G) ?_ (fun nxt => ?_)
          · rintro σ G5 ⟨rfl, s5⟩
            have hB2 := hB2.mv s5
            have hC := hC.mv s5
            have hL := hL.mv s5
            have hKL := hKL.mv s5
            have hod := hod.mv s5
            have hW := hW.mv s5
            clear s5
            refine seq_by (fun σ G => σ = [some (.ref a), some (.ref p), some (.ref O), some (.str z), some (.str wd), some (.ref KL), v6, some v, some (.ref W)] ∧ Pool G p g ∧ LsP p g G C (ops ++ ops.reverse) ∧ LsP p g G L (wor z) ∧ LsP p g G KL (kinS z wd)) ?_ (fun nxt => ?_)
            · clear hB2 hC hL hKL hod hol hW
              rintro σ G ⟨rfl, hB, hC, hL, hKL⟩
              -- an odd operation
              refine ⟨_, rfl, _, rfl, p, g, z, rfl, hB, zw, fun v d G2 k2 hB2 hod hol => ?_⟩
              have hC := hC.mp hB k2
              have hL := hL.mp hB k2
              have hKL := hKL.mp hB k2
              clear hB k2
              dsimp only [gName, List.set]
              refine ⟨_, rfl, p, g, _, rfl, hB2, by decide, by decide, fun r G3 r0 r1 k3 hB3 => ⟨_, rfl, r, v, d, _, .none, _, .int 7, rfl, ?_⟩⟩
              have nop : inS ops d = false := by
                cases hi : inS ops d with
                | false => rfl
                | true =>
                  obtain ⟨y, hy, rfl⟩ := inS_true hi
                  exact absurd hy (odd_op z hz y (hol y rfl))
              have hod := hod.mp hB2 k3
              have hC := hC.mp hB2 k3
              have hL := hL.mp hB2 k3
              have hKL := hKL.mp hB2 k3
              have i7 : ScD big (.int 7) := by show (7 : Int).natAbs ≤ 10 ^ 31; decide
              refine ⟨hod.dp, hod.shaped, hod.small, .non, by decide +kernel, (sc_small (by decide) (show ScD big .none from trivial)).mono (by decide) (by decide), .int 7, by decide +kernel, (sc_small (by decide) i7).mono (by decide) (by decide), fun _ p2 G4 s4 hp2 => ?_, fun z2 hz2 ez _ => ?_, fun _ z2 hz2 ez => ?_, fun z2 hz2 ez => ?_⟩
              · skip
                have hB3 := hB3.mv s4
                have hC := hC.mv s4
                have hL := hL.mv s4
                have hKL := hKL.mv s4
                have hod := hod.mv s4
                refine ⟨_, rfl, v, d, rfl, hod.dp, hod.small.mono (by decide) (by decide), (by show 3 ≤ sizeLine; decide), fun W2 nW2 => ?_⟩
                generalize e_G5 : upd _ W2 _ = G5
                have s_W2 := new_same e_G5 nW2
                have f_W2 := new_at e_G5
                clear e_G5
                have hB3 := hB3.mv s_W2
                have hC := hC.mv s_W2
                have hL := hL.mv s_W2
                have hKL := hKL.mv s_W2
                have hp2 := hp2.mv s_W2
                refine ⟨wD false "operation" d, wD false "operation" d, w_dp hp2, w_dp f_W2, w_sh oko hod.text, w_sh oko hod.text, _, rfl, no (w_eqv _ _ _) ?_⟩
                exact ⟨_, _, _, _, _, rfl, hB3, hC, hL⟩
              · exact absurd (show inS ops d = true by rw [ez, inS_str]; exact decide_eq_true hz2) (by rw [nop]; decide)
              · exact absurd (show inS ops d = true by rw [ez, inS_str]; exact decide_eq_true hz2) (by rw [nop]; decide)
              · exact absurd (show inS ops d = true by rw [ez, inS_str]; exact decide_eq_true hz2) (by rw [nop]; decide)
            · generalize hok : inS (wor z) d = ok at hW
              refine ⟨_, rfl, (by show 1 ≤ sizeLine; decide), fun T nT => ?_⟩
              generalize e_G6 : upd _ T _ = G6
              have s_T := new_same e_G6 nT
              have f_T := new_at e_G6
              clear e_G6
              have hB2 := hB2.mv s_T
              have hC := hC.mv s_T
              have hL := hL.mv s_T
              have hKL := hKL.mv s_T
              have hod := hod.mv s_T
              have hW := hW.mv s_T
              refine ⟨wD ok "world" d, wD true "world" d, w_dp hW, w_dp f_T, w_sh okw hod.text, w_sh okw hod.text, _, rfl, ?_⟩
              cases ok with
              | true => exact no (w_eqv _ _ _) (nxt _ _ ⟨rfl, hB2, hC, hL, hKL⟩)
              | false =>
                refine yes rfl ?_
                refine ⟨_, rfl, p, g, _, rfl, hB2, by decide, by decide, fun r G7 r0 r1 k3 hB3 => ⟨_, _, rfl, rfl, _, rfl, _, rfl, 1 + r, .str z, .str z, v, d, .int 7, .int 7, rfl, ?_⟩⟩
                have hod := hod.mp hB2 k3
                have hC := hC.mp hB2 k3
                have hL := hL.mp hB2 k3
                have hKL := hKL.mp hB2 k3
                have hW := k3 _ _ (hB2.nt hW nofun).1 (hB2.nt hW nofun).2 hW
                have i7 : ScD big (.int 7) := by show (7 : Int).natAbs ≤ 10 ^ 31; decide
                have noD : ∀ {A : Prop} (z2 : Str), z2 ∈ ops → PyData.str z = .str z2 → ∀ wd2 ∈ wor z2, d = .str wd2 → A := fun z2 _ ez wd2 hw2 ed => by
                  injection ez with ez
                  subst ez
                  rw [ed, inS_str, decide_eq_true hw2] at hok
                  cases hok
                refine ⟨.str _, zs, str_small zw, hod.dp, hod.shaped, hod.small, .int 7, by decide +kernel, (sc_small (by decide) i7).mono (by decide) (by decide), (fun h => noO h), fun z2 hz2 ez hi p2 G8 s8 hp2 => ?_, (fun _ z2 h1 h2 wd2 h3 h4 _ => noD z2 h1 h2 wd2 h3 h4), (fun z2 h1 h2 wd2 h3 h4 _ => noD z2 h1 h2 wd2 h3 h4)⟩
                have hB3 := hB3.mv s8
                have hC := hC.mv s8
                have hL := hL.mv s8
                have hKL := hKL.mv s8
                have hod := hod.mv s8
                have hW := hW.mv s8
                refine ⟨_, rfl, wD false "world" d, wD false "world" d, w_dp hp2, w_dp hW, w_sh okw hod.text, w_sh okw hod.text, _, rfl, no (w_eqv _ _ _) ?_⟩
                exact nxt _ _ ⟨rfl, hB3, hC, hL, hKL⟩
          · generalize hok : inS (wor z) d = ok at hW
            refine ⟨_, rfl, _, rfl, 0, .str z, .str z, v, d, .non, .none, rfl, .str _, zs, str_small zw, hod.dp, hod.shaped, hod.small, .non, by decide +kernel, (sc_small (by decide) (show ScD big .none from trivial)).mono (by decide) (by decide), (fun h => noO h), fun z2 hz2 ez hi p2 G8 s8 hp2 => ?_, (fun h => absurd rfl h), fun z2 hz2 ez wd2 hwd2 ed _ p2 G8 s8 hp2 => ?_⟩
            · injection ez with ez
              subst ez
              rw [hi] at hok
              subst hok
              refine ⟨_, rfl, wD false "world" d, wD false "world" d, w_dp hp2, w_dp (s8 _ _ hW), w_sh okw hod.text, w_sh okw hod.text, _, rfl, no (w_eqv _ _ _) ?_⟩
              exact nxt _ _ ⟨rfl, s8⟩
            · injection ez with ez
              subst ez
              have hok2 : ok = true := by rw [← hok, ed, inS_str]; exact decide_eq_true hwd2
              subst hok2
              refine ⟨_, rfl, wD true "world" d, wD true "world" d, w_dp hp2, w_dp (s8 _ _ hW), w_sh okw hod.text, w_sh okw hod.text, _, rfl, no (w_eqv _ _ _) ?_⟩
              exact nxt _ _ ⟨rfl, s8⟩
        · skip
          refine ⟨_, rfl, _, _, _, _, _, rfl, .ty _, dp_ty hod.dp, kit_str d, _, rfl, ?_⟩
          by_cases hs : isStrD d = true
          · obtain ⟨y, rfl⟩ : ∃ y, d = .str y := by cases d <;> first | exact ⟨_, rfl⟩ | cases hs
            obtain rfl := dp_str (K := K) hod.dp
            refine yes hs ?_
            rw [inS_str] at nxt
            refine ⟨_, rfl, _, rfl, z, rfl, fun L2 GL nL2 s_L2 hL2 => ⟨L2, _, rfl, .inl (SqL.of hL2), rfl, fl _, _, rfl, ?_⟩⟩
            rw [if_neg Bool.false_ne_true, inV_str]
            by_cases c : y ∈ wor z
            · refine yes (decide_eq_true c) ?_
              rw [decide_eq_true c] at nxt
              refine ⟨(by show 1 ≤ sizeLine; decide), fun W2 nW2 => ?_⟩
              generalize e_GW : upd _ W2 _ = GW
              have s_W2 := new_same e_GW nW2
              have f_W2 := new_at e_GW
              clear e_GW
              have s_L2 := s_L2.mv s_W2
              exact nxt _ _ ⟨W2, rfl, s_L2, f_W2⟩
            · refine no (decide_eq_false c) ?_
              rw [decide_eq_false c] at nxt
              exact nxt _ _ ⟨W, rfl, s_L2, s_L2 _ _ f_W⟩
          · refine no (by cases h : isStrD d with | true => exact absurd h hs | false => rfl) ?_
            have : inS (wor z) d = false := by
              cases hi : inS (wor z) d with
              | false => rfl
              | true => obtain ⟨y, _, rfl⟩ := inS_true hi; exact absurd rfl hs
            rw [this] at nxt
            exact nxt _ _ ⟨W, rfl, .refl _, f_W⟩
      · generalize hok : inS (kinS z wd) d = ok at hW
        refine ⟨_, rfl, p, g, _, rfl, hB2, by decide, by decide, fun r G7 r0 r1 k3 hB3 => ⟨_, _, rfl, rfl, _, rfl, _, rfl, _, rfl, 1 + r, .str z, .str z, .str wd, .str wd, v, d, rfl, ?_⟩⟩
        have hod := hod.mp hB2 k3
        have hC := hC.mp hB2 k3
        have hL := hL.mp hB2 k3
        have hKL := hKL.mp hB2 k3
        have hW := k3 _ _ (hB2.nt hW nofun).1 (hB2.nt hW nofun).2 hW
        refine ⟨.str _, zs, str_small zw, .str _, wsh, str_small ww, hod.dp, hod.shaped, hod.small, (fun h => noO h), (fun z2 h1 h2 h3 => noW z2 h1 h2 h3), fun _ z2 hz2 ez wd2 hwd2 ew hi p2 G8 s8 hp2 => ?_, fun z2 hz2 ez wd2 hwd2 ew ho p2 G8 s8 hp2 => ?_⟩
        · injection ez with ez
          injection ew with ew
          subst ez ew
          rw [hi] at hok
          subst hok
          have hB3 := hB3.mv s8
          have hC := hC.mv s8
          have hL := hL.mv s8
          have hKL := hKL.mv s8
          have hod := hod.mv s8
          have hW := hW.mv s8
          refine ⟨_, rfl, wD false "kind" d, wD false "kind" d, w_dp hp2, w_dp hW, w_sh okk hod.text, w_sh okk hod.text, _, rfl, no (w_eqv _ _ _) ?_⟩
          exact nxt _ _ ⟨rfl, hB3, hC, hL, hKL⟩
        · injection ez with ez
          injection ew with ew
          subst ez ew
          have hok2 : ok = true := by
            rcases ho with h | h
            · omega
            · rw [← hok]; exact h
          subst hok2
          have hB3 := hB3.mv s8
          have hC := hC.mv s8
          have hL := hL.mv s8
          have hKL := hKL.mv s8
          have hod := hod.mv s8
          have hW := hW.mv s8
          refine ⟨_, rfl, wD true "kind" d, wD true "kind" d, w_dp hp2, w_dp hW, w_sh okk hod.text, w_sh okk hod.text, _, rfl, no (w_eqv _ _ _) ?_⟩
          exact nxt _ _ ⟨rfl, hB3, hC, hL, hKL⟩
    · skip
      refine ⟨_, rfl, _, _, _, _, _, rfl, .ty _, dp_ty hod.dp, kit_str d, _, rfl, ?_⟩
      by_cases hs : isStrD d = true
      · obtain ⟨y, rfl⟩ : ∃ y, d = .str y := by cases d <;> first | exact ⟨_, rfl⟩ | cases hs
        obtain rfl := dp_str (K := K) hod.dp
        refine yes hs ?_
        rw [inS_str] at nxt
        refine ⟨_, rfl, _, rfl, KL, _, rfl, .inl (SqL.of hKL.at_), rfl, fl _, _, rfl, ?_⟩
        rw [if_neg Bool.false_ne_true, inV_str]
        by_cases c : y ∈ kinS z wd
        · refine yes (decide_eq_true c) ?_
          rw [decide_eq_true c] at nxt
          refine ⟨(by show 1 ≤ sizeLine; decide), fun W2 nW2 => ?_⟩
          generalize e_GW : upd _ W2 _ = GW
          have s_W2 := new_same e_GW nW2
          have f_W2 := new_at e_GW
          clear e_GW
          exact nxt _ _ ⟨W2, rfl, s_W2, f_W2⟩
        · refine no (decide_eq_false c) ?_
          rw [decide_eq_false c] at nxt
          exact nxt _ _ ⟨W, rfl, .refl _, f_W⟩
      · refine no (by cases h : isStrD d with | true => exact absurd h hs | false => rfl) ?_
        have : inS (kinS z wd) d = false := by
          cases hi : inS (kinS z wd) d with
          | false => rfl
          | true => obtain ⟨y, _, rfl⟩ := inS_true hi; exact absurd rfl hs
        rw [this] at nxt
        exact nxt _ _ ⟨W, rfl, .refl _, f_W⟩
end
end K33

set_option Elab.async false
set_option maxRecDepth 100000
set_option maxHeartbeats 0
namespace K33
open PySem PySem.Spec PyProof.Rows L2 He KX
structure Fs (K : PySem.W.Frag) : Prop where
  cast : CastK K
  fre : ∀ x ∈ frees, (Fa.free x).ok K = true
  glo : ∀ x ∈ gls, (Fa.glo x).ok K = true
  bo : ErBO K
  bw : ErBW K
  bk : ErBK K
  tO : tupB K (ga K "OPERATIONS") ops = true
  tN : tupB K (ga K "NEW") ["put", "add"] = true
  tS : tupB K (ga K "SOME") ["row", "next"] = true
  tT : tupB K (ga K "TWO_LISTS") ["move", "send", "swap"] = true
  ar : ∀ o ∈ ops, isRef (PySem.W.nsIn K (ga K "ARGUMENTS") o) = true
theorem ba9 {a b : Bool} (h : (a && b) = true) : a = true ∧ b = true := Bool.and_eq_true_iff.mp h
theorem arg_of {K : PySem.W.Frag} {w : World} (c : SaysD chk fn dics w K) (ar : ∀ o ∈ ops, isRef (PySem.W.nsIn K (ga K "ARGUMENTS") o) = true) : ∀ z ∈ ops, ∃ v, KDct K w (ga K "ARGUMENTS") z v := fun z hz => by
  obtain ⟨es, n, h1, h2, _⟩ := c.dic 0 (d := ("ARGUMENTS", ops)) rfl
  have h3 := ar z hz
  cases e : PySem.W.nsIn K (ga K "ARGUMENTS") z with
  | none => rw [e] at h3; cases h3
  | some r =>
    cases r with
    | none => rw [e] at h3; cases h3
    | some u =>
      cases u with
      | ref a => exact ⟨.ref a, es, n, .ref a, h1, h2, e, rfl⟩
      | _ => rw [e] at h3; cases h3
theorem cast_of {K : PySem.W.Frag} (h : castB K = true) : CastK K := by
  unfold castB at h
  obtain ⟨h1, h⟩ := ba9 h
  obtain ⟨h2, h3⟩ := ba9 h
  exact ⟨mkr_ok h1, cls_ok h2, fun f hf => noat_ok (List.all_eq_true.mp h3 f hf)⟩
theorem facts_of {K : PySem.W.Frag} (h : chk K = true) : Fs K := by
  unfold chk errB conB at h
  obtain ⟨h1, h⟩ := ba9 h
  obtain ⟨h2, h⟩ := ba9 h
  obtain ⟨h3, h⟩ := ba9 h
  obtain ⟨h4, h5⟩ := ba9 h
  obtain ⟨e1, e⟩ := ba9 h1
  obtain ⟨e2, e3⟩ := ba9 e
  obtain ⟨t1, t⟩ := ba9 h3
  obtain ⟨t2, t⟩ := ba9 t
  obtain ⟨t3, t⟩ := ba9 t
  obtain ⟨t4, t5⟩ := ba9 t
  exact ⟨cast_of h2, List.all_eq_true.mp h4, List.all_eq_true.mp h5, er_of e1, er_of e2, er_of e3, t1, t2, t3, t4, List.all_eq_true.mp t5⟩
theorem all_ok {P : Program} {w : World} {K : PySem.W.Frag} {h : Heap} {mg : Str → Option Value} {f : Addr} (X : K.In h) (G : h.Ns mainGlobals mg) (hfa : mg ("law" : Str) = some (.ref f)) (c : SaysD chk fn dics w K) :
    ∃ fd : FuncData, (∀ (s : Shared) (u : Value), BindsTo s fd ⟨[u], []⟩ [("script", u)]) ∧ ∀ base : Heap, K.In base → base.Ns mainGlobals mg → FnG P w K mg base CX0 10 f fd ["script"] (spLaw K) := by
  have cx := c.1
  have S := facts_of cx.1
  have g : ∀ x ∈ gls, mg x = some (.ref (ga K x)) := fun x hx => glo_ok X G (S.glo x hx)
  have fr : ∀ x ∈ frees, mg x = none := fun x hx => free_ok X G (S.fre x hx)
  obtain ⟨fd3, F3⟩ := cx.fd 3
  replace F3 : FnP K "arguments_of" sArg (ga K "arguments_of") fd3 := F3
  obtain ⟨fd5, F5⟩ := cx.fd 5
  replace F5 : FnP K "_is_there" sThr (ga K "_is_there") fd5 := F5
  obtain ⟨fd6, F6⟩ := cx.fd 6
  replace F6 : FnP K "homes_of" sHom (ga K "homes_of") fd6 := F6
  obtain ⟨fd7, F7⟩ := cx.fd 7
  replace F7 : FnP K "has_place" sHpl (ga K "has_place") fd7 := F7
  obtain ⟨fd8, F8⟩ := cx.fd 8
  replace F8 : FnP K "standing_bounds" sStb (ga K "standing_bounds") fd8 := F8
  obtain ⟨fd9, F9⟩ := cx.fd 9
  replace F9 : FnP K "place_bound" sPbd (ga K "place_bound") fd9 := F9
  obtain ⟨fd10, F10⟩ := cx.fd 10
  replace F10 : FnP K "worlds_of" sWor (ga K "worlds_of") fd10 := F10
  obtain ⟨fd11, F11⟩ := cx.fd 11
  replace F11 : FnP K "kinds_of" sKin (ga K "kinds_of") fd11 := F11
  obtain ⟨fd12, F12⟩ := cx.fd 12
  replace F12 : FnP K "numbers_of" sNum (ga K "numbers_of") fd12 := F12
  obtain ⟨fd13, F13⟩ := cx.fd 13
  replace F13 : FnP K "check_kind" sChk (ga K "check_kind") fd13 := F13
  obtain ⟨fd14, F14⟩ := cx.fd 14
  replace F14 : FnP K "standing" sStd (ga K "standing") fd14 := F14
  obtain ⟨fd15, F15⟩ := cx.fd 15
  replace F15 : FnP K "_law_pool" sLPool (ga K "_law_pool") fd15 := F15
  obtain ⟨fd16, F16⟩ := cx.fd 16
  replace F16 : FnP K "_law_draw" sLDraw (ga K "_law_draw") fd16 := F16
  obtain ⟨fd17, F17⟩ := cx.fd 17
  replace F17 : FnP K "_law_worlds" sLWo (ga K "_law_worlds") fd17 := F17
  obtain ⟨fd18, F18⟩ := cx.fd 18
  replace F18 : FnP K "_law_there" sLTh (ga K "_law_there") fd18 := F18
  obtain ⟨fd19, F19⟩ := cx.fd 19
  replace F19 : FnP K "_law_kinds" sLKi (ga K "_law_kinds") fd19 := F19
  obtain ⟨fd20, F20⟩ := cx.fd 20
  replace F20 : FnP K "_law_numbers" sLNu (ga K "_law_numbers") fd20 := F20
  obtain ⟨fd21, F21⟩ := cx.fd 21
  replace F21 : FnP K "_law_answer" sLAns (ga K "_law_answer") fd21 := F21
  obtain ⟨fd22, F22⟩ := cx.fd 22
  replace F22 : FnP K "_law_odd" sLOdd (ga K "_law_odd") fd22 := F22
  obtain ⟨fd23, F23⟩ := cx.fd 23
  replace F23 : FnP K "law" sLaw (ga K "law") fd23 := F23
  obtain ⟨fd0, F0⟩ := cx.fd 0
  replace F0 : FunD K "__init__" (("BadOperation" : Str) ++ ".__init__") (defArgs sBOI) (defBody sBOI) (defScope sBOI) [] [] (ma K (ga K "BadOperation") "__init__") fd0 := F0
  rw [(by decide +kernel : (("BadOperation" : Str) ++ ".__init__" : Str) = "BadOperation.__init__")] at F0
  obtain ⟨fd1, F1⟩ := cx.fd 1
  replace F1 : FunD K "__init__" (("BadWorld" : Str) ++ ".__init__") (defArgs sBWI) (defBody sBWI) (defScope sBWI) [] [] (ma K (ga K "BadWorld") "__init__") fd1 := F1
  rw [(by decide +kernel : (("BadWorld" : Str) ++ ".__init__" : Str) = "BadWorld.__init__")] at F1
  obtain ⟨fd2, F2⟩ := cx.fd 2
  replace F2 : FunD K "__init__" (("BadKind" : Str) ++ ".__init__") (defArgs sBKI) (defBody sBKI) (defScope sBKI) [] [] (ma K (ga K "BadKind") "__init__") fd2 := F2
  rw [(by decide +kernel : (("BadKind" : Str) ++ ".__init__" : Str) = "BadKind.__init__")] at F2
  obtain ⟨fd4, F4⟩ := cx.fd 4
  replace F4 : FunD K "__init__" (("Cast" : Str) ++ ".__init__") (defArgs sCst) (defBody sCst) (defScope sCst) [] [] (ma K (ga K "Cast") "__init__") fd4 := F4
  rw [(by decide +kernel : (("Cast" : Str) ++ ".__init__" : Str) = "Cast.__init__")] at F4
  have e := hfa.symm.trans (g "law" (by decide))
  cases e
  refine ⟨fd23, fun s u => FunD.bindsA (ps := ["script"]) F23 (fun _ _ _ _ _ _ us hl => match us, hl with | [_], _ => rfl) s [u] rfl, fun base _ _ => ?_⟩
  have n_isinstance := fr "isinstance" (by decide)
  have n_int := fr "int" (by decide)
  have n_str := fr "str" (by decide)
  have n_len := fr "len" (by decide)
  have n_tuple := fr "tuple" (by decide)
  have n_abs := fr "abs" (by decide)
  have n_min := fr "min" (by decide)
  have n_repr := fr "repr" (by decide)
  have n_zip := fr "zip" (by decide)
  have n_ValueError := fr "ValueError" (by decide)
  have b3 : Binds K fd3 ["op"] [] := F3.bindsN fun _ _ _ _ _ _ us hl => match us, hl with | [_], _ => rfl
  have b5 : Binds K fd5 ["lst", "op", "apart"] [] := F5.bindsN fun _ _ _ _ _ _ us hl => match us, hl with | [_, _, _], _ => rfl
  have b6 : Binds K fd6 ["cast", "kinds"] [] := F6.bindsN fun _ _ _ _ _ _ us hl => match us, hl with | [_, _], _ => rfl
  have b7 : Binds K fd7 ["op"] [] := F7.bindsN fun _ _ _ _ _ _ us hl => match us, hl with | [_], _ => rfl
  have b8 : Binds K fd8 ["world", "homes", "names"] [] := F8.bindsN fun _ _ _ _ _ _ us hl => match us, hl with | [_, _, _], _ => rfl
  have b9 : Binds K fd9 ["world"] [] := F9.bindsN fun _ _ _ _ _ _ us hl => match us, hl with | [_], _ => rfl
  have b10 : Binds K fd10 ["op"] [] := F10.bindsN fun _ _ _ _ _ _ us hl => match us, hl with | [_], _ => rfl
  have b11 : Binds K fd11 ["op", "world"] [] := F11.bindsN fun _ _ _ _ _ _ us hl => match us, hl with | [_, _], _ => rfl
  have b12 : Binds K fd12 ["op", "world", "kind"] [] := F12.bindsN fun _ _ _ _ _ _ us hl => match us, hl with | [_, _, _], _ => rfl
  have b13 : Binds K fd13 ["op", "world", "kind"] [] := F13.bindsN fun _ _ _ _ _ _ us hl => match us, hl with | [_, _, _], _ => rfl
  have b14 : Binds K fd14 ["op", "world", "kind"] [] := F14.bindsN fun _ _ _ _ _ _ us hl => match us, hl with | [_, _, _], _ => rfl
  have b15 : Binds K fd15 ["script"] [] := F15.bindsN fun _ _ _ _ _ _ us hl => match us, hl with | [_], _ => rfl
  have b16 : Binds K fd16 ["pool", "limit"] [] := F16.bindsN fun _ _ _ _ _ _ us hl => match us, hl with | [_, _], _ => rfl
  have b17 : Binds K fd17 ["op"] [] := F17.bindsN fun _ _ _ _ _ _ us hl => match us, hl with | [_], _ => rfl
  have b18 : Binds K fd18 ["op", "world"] [] := F18.bindsN fun _ _ _ _ _ _ us hl => match us, hl with | [_, _], _ => rfl
  have b19 : Binds K fd19 ["op", "world"] [] := F19.bindsN fun _ _ _ _ _ _ us hl => match us, hl with | [_, _], _ => rfl
  have b20 : Binds K fd20 ["op", "world", "kind"] [] := F20.bindsN fun _ _ _ _ _ _ us hl => match us, hl with | [_, _, _], _ => rfl
  have b21 : Binds K fd21 ["which", "op", "world", "kind"] [] := F21.bindsN fun _ _ _ _ _ _ us hl => match us, hl with | [_, _, _, _], _ => rfl
  have b22 : Binds K fd22 ["pool", "word"] [] := F22.bindsN fun _ _ _ _ _ _ us hl => match us, hl with | [_, _], _ => rfl
  have b23 : Binds K fd23 ["script"] [] := F23.bindsN fun _ _ _ _ _ _ us hl => match us, hl with | [_], _ => rfl
  have b0 : Binds K fd0 ["self", "op"] [] := F0.bindsN fun _ _ _ _ _ _ us hl => match us, hl with | [_, _], _ => rfl
  have b1 : Binds K fd1 ["self", "world"] [] := F1.bindsN fun _ _ _ _ _ _ us hl => match us, hl with | [_, _], _ => rfl
  have b2 : Binds K fd2 ["self", "kind"] [] := F2.bindsN fun _ _ _ _ _ _ us hl => match us, hl with | [_, _], _ => rfl
  have b4 : Binds K fd4 ["self", "op", "world"] [] := F4.bindsN fun _ _ _ _ _ _ us hl => match us, hl with | [_, _, _], _ => rfl
  have g3 := g "arguments_of" (by decide)
  have g5 := g "_is_there" (by decide)
  have g6 := g "homes_of" (by decide)
  have g7 := g "has_place" (by decide)
  have g8 := g "standing_bounds" (by decide)
  have g9 := g "place_bound" (by decide)
  have g10 := g "worlds_of" (by decide)
  have g11 := g "kinds_of" (by decide)
  have g12 := g "numbers_of" (by decide)
  have g13 := g "check_kind" (by decide)
  have g14 := g "standing" (by decide)
  have g15 := g "_law_pool" (by decide)
  have g16 := g "_law_draw" (by decide)
  have g17 := g "_law_worlds" (by decide)
  have g18 := g "_law_there" (by decide)
  have g19 := g "_law_kinds" (by decide)
  have g20 := g "_law_numbers" (by decide)
  have g21 := g "_law_answer" (by decide)
  have g22 := g "_law_odd" (by decide)
  have g23 := g "law" (by decide)
  have gBO := g "BadOperation" (by decide)
  have gBW := g "BadWorld" (by decide)
  have gBK := g "BadKind" (by decide)
  have gPE := g "PlaceError" (by decide)
  have gCa := g "Cast" (by decide)
  have gOPS := g "OPERATIONS" (by decide)
  have gARG := g "ARGUMENTS" (by decide)
  have gNEW := g "NEW" (by decide)
  have gSOME := g "SOME" (by decide)
  have gTWO := g "TWO_LISTS" (by decide)
  have hA : ∀ z ∈ ops, ∃ v, KDct K w (ga K "ARGUMENTS") z v := arg_of c S.ar
  have G3 : FnOk P w K mg base (L2N.CX P w) 3 (ga K "arguments_of") fd3 ["op"] (spArg K) := ok_arg F3 S.bo gBO F0 (fun _ => tupB_ok S.tO) gOPS hA gARG
  have G10 : FnOk P w K mg base (L2N.CX P w) 4 (ga K "worlds_of") fd10 ["op"] (spWor K) := ok_wor F10 G3 b3 F3.kp g3 (fun _ => tupB_ok S.tT) gTWO
  have G5 : FnOk P w K mg base CX0 1 (ga K "_is_there") fd5 ["lst", "op", "apart"] spThr := ok_thr F5 (fun _ => tupB_ok S.tN) gNEW
  have G4 : FnOk P w K mg base CX0 2 (ma K (ga K "Cast") "__init__") fd4 ["self", "op", "world"] (spCastI K) := ok_cst F4 S.cast (fun _ => tupB_ok S.tN) gNEW G5 b5 F5.kp g5 n_tuple
  have G11 : FnOk P w K mg base (L2N.CX P w) 5 (ga K "kinds_of") fd11 ["op", "world"] (spKin K) := ok_kin F11 S.cast S.bw gBW F1 G10 b10 F10.kp g10 G4 b4 gCa
  have G13 : FnOk P w K mg base (L2N.CX P w) 6 (ga K "check_kind") fd13 ["op", "world", "kind"] (spChk K) := ok_chk F13 S.bk gBK F2 G11 b11 F11.kp g11
  have G7 : FnOk P w K mg base CX0 1 (ga K "has_place") fd7 ["op"] spHpl := ok_hpl F7
  have G12 : FnOk P w K mg base (L2N.CX P w) 7 (ga K "numbers_of") fd12 ["op", "world", "kind"] (spNum K) := ok_num F12 S.cast G13 b13 F13.kp g13 G4 b4 gCa G7 b7 F7.kp g7
  have G9 : FnOk P w K mg base CX0 1 (ga K "place_bound") fd9 ["world"] spPbd := ok_pbd F9
  have G6 : FnOk P w K mg base CX0 1 (ga K "homes_of") fd6 ["cast", "kinds"] (spHom K) := ok_hom F6 S.cast (fun _ => tupB_ok S.tS) gSOME n_zip
  have G8 : FnOk P w K mg base CX0 2 (ga K "standing_bounds") fd8 ["world", "homes", "names"] (spStb K) := ok_stb F8 G9 b9 F9.kp g9
  have G14 : FnOk P w K mg base (L2N.CX P w) 8 (ga K "standing") fd14 ["op", "world", "kind"] (spStd K) := ok_std F14 G12 b12 F12.kp g12 G4 b4 gCa S.cast G8 b8 F8.kp g8 G6 b6 F6.kp g6
  have G16 : FnOk P w K mg base CX0 1 (ga K "_law_draw") fd16 ["pool", "limit"] spDrawP := ok_drawP F16 n_int n_len
  have G15 : FnOk P w K mg base CX0 1 (ga K "_law_pool") fd15 ["script"] (spPool K) := ok_poolP F15 n_int n_len n_abs n_min
  have G17 : FnOk P w K mg base CX0 1 (ga K "_law_worlds") fd17 ["op"] spLWo := ok_lwo F17
  have G18 : FnOk P w K mg base CX0 1 (ga K "_law_there") fd18 ["op", "world"] spLTh := ok_lth F18 n_int
  have G19 : FnOk P w K mg base CX0 2 (ga K "_law_kinds") fd19 ["op", "world"] spLKi := ok_lki F19 G18 b18 F18.kp g18 n_int
  have G20 : FnOk P w K mg base CX0 2 (ga K "_law_numbers") fd20 ["op", "world", "kind"] spLNu := ok_lnu F20 G18 b18 F18.kp g18 n_int
  have G22 : FnOk P w K mg base CX0 2 (ga K "_law_odd") fd22 ["pool", "word"] spLOdd := ok_lodd F22 G16 b16 F16.kp g16
  have G21 : FnG P w K mg base CX0 9 (ga K "_law_answer") fd21 ["which", "op", "world", "kind"] (spAns K) := ok_ans F21 S.bo S.bw S.bk G11 b11 F11.kp g11 G12 b12 F12.kp g12 G14 b14 F14.kp g14 gPE gBO gBW gBK n_isinstance n_ValueError n_repr
  exact ok_law F23 G15 b15 F15.kp g15 G16 b16 F16.kp g16 G17 b17 F17.kp g17 G19 b19 F19.kp g19 G20 b20 F20.kp g20 G22 b22 F22.kp g22 G21 b21 F21.kp g21 G11 b11 F11.kp g11 G12 b12 F12.kp g12 n_repr n_tuple n_isinstance n_str n_len
end K33
open PySem PySem.W PySem.Calls PyProof.Rows
set_option maxRecDepth 100000 in
set_option maxHeartbeats 0 in
theorem PySem.Challenge.cw_rowsinplace_k33_kinds_and_numbers_holds : PySem.Challenge.rw_rowsinplace_k33_kinds_and_numbers.Holds := by
  w_on; o_law
  refine HandSHeadRun.head_any (r := OpenLaw.row PySem.Challenge.rw_rowsinplace_k33_kinds_and_numbers) (q := view (OpenLaw.row PySem.Challenge.rw_rowsinplace_k33_kinds_and_numbers).prog [37]) (H := K33.hk) (ob := K33.ob) (M := 20000) (loose := K33.loose) (d := HandSHeadRun.topDef (OpenLaw.row PySem.Challenge.rw_rowsinplace_k33_kinds_and_numbers).prog 37) (kwd := []) K33.ob_eq
    (by kernel_rfl) (fun s => by kernel_rfl) K33.run (by kernel_rfl) (by kernel_rfl) (by kernel_rfl) (by rfl) (by first | assumption | decide +kernel) (by decide +kernel) ⟨rfl, rfl, rfl, rfl, rfl, by decide +kernel⟩ ?hw ?hc
  case hw => w_witness2
  case hc =>
    refine KX.walk_atG (l := PySem.Challenge.rw_rowsinplace_k33_kinds_and_numbers) (n := 63) (k := 10) (x := "script") rfl (by decide) (by kernel_rfl) ⟨rfl, by decide, by decide⟩ ?F
    intro w mg fa h Y G hmg0
    obtain ⟨K, KI, c⟩ := Y
    have hmg : mg ("law" : PySem.Str) = some (.ref fa) := by
      have e : (HandSHeadRun.topDef (OpenLaw.row PySem.Challenge.rw_rowsinplace_k33_kinds_and_numbers).prog 37).name = ("law" : PySem.Str) := by kernel_rfl
      rw [← e]
      exact hmg0
    obtain ⟨fd, hb, hF⟩ := K33.all_ok (P := (PySem.Challenge.rw_rowsinplace_k33_kinds_and_numbers).prog) (w := w) KI G hmg c
    exact ⟨K, fd, K33.spLaw K, KI, hb, fun H a ns hl _ hS => ⟨a, ns, rfl, hS, hl, fun _ => rfl⟩, hF⟩

