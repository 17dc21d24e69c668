import PyProof.Rows.All
import Wide.All
import OpenK.AllK
import Wide.FinOn
import HandS.ForMost
import HandS.ExcInit
import HandS.Defaults
import HandS.WordsExc
import HandS.Wide
import HandS.EndBits
import HandS.Head0
import HandS.Head1
import HandS.Head2
import HandS.HeadEnd
import HandS.HeadHook1
import HandS.HeadHook2
import KE.KExcInit
import KE.KExcIs
import HandS.HeadHook3
import HandS.More
import PyProof.ExcBaseAll.ValueError
import PyProof.ExcBaseAll.LookupError
import PyProof.ReprRoads
import HandS.ExcIs
import HandS.ExcField
import HandS.ExcCtx
import HandS.ExcInitHot
import HandS.HotCalls
import HandS.Star
import KE.GoesMore
import HandS.Walk
import PyProof.FitsInt
import HandS.IsInst
import HandS.Small
import HandS.SortKw
import KE.KOpsOwn
import KE.DataMinMax
import HandS.Text
import HandS.WideBits
import HandS.Deep
import HandS.ExcOwn
import HandS.SetKeys
import HandS.MakeKwOnly
import HandS.RaiseMore
import PyProof.Rows.ReprOcc
import PySem.Challenge.RW_rowsinplace_k24_scenes_refused
set_option Elab.async false
set_option maxRecDepth 100000
set_option maxHeartbeats 2000000
/-! A hook of our own: one Bool over the written part, and the defs by their places. -/
namespace KX
open PySem PySem.Spec PyProof.Rows L2 He
def lookX (n : Nat) (chk : PySem.W.Frag → Bool) (fn : List DefD) (g : Addr → Option Obj) : Bool × List FnW :=
  let K := frG g (asD g n)
  (chk K && fn.all fun d => d.ok K, fn.map fun d => fnW K d.at_)
def SaysX (chk : PySem.W.Frag → Bool) (fn : List DefD) (K : PySem.W.Frag) : Prop := chk K = true ∧ (fn.all fun d => d.ok K) = true ∧ fn.map (fun d => fnW K d.at_) = fn.map DefD.val
def hookX (n : Nat) (chk : PySem.W.Frag → Bool) (fn : List DefD) : PySem.W.Hook where
  α := Bool × List FnW
  obs := fun s => lookX n chk fn s.heap.get?
  val := fun _ => (true, fn.map DefD.val)
  says := fun _ h => ∃ K : PySem.W.Frag, K.In h ∧ SaysX chk fn K
  of := fun _ s e => by
    refine ⟨frG s.heap.get? (asD s.heap.get? n), frG_in, ?_⟩
    have e1 := congrArg Prod.fst e
    have e2 := congrArg Prod.snd e
    obtain ⟨a, b⟩ := Bool.and_eq_true_iff.mp e1
    exact ⟨a, b, e2⟩
  keeps := fun _ _ _ h k => by
    obtain ⟨K, hK, c⟩ := h
    exact ⟨K, PySem.W.Frag.In.keeps hK k, c⟩
theorem lookX_eq {n : Nat} {chk : PySem.W.Frag → Bool} {fn : List DefD} {g : Addr → Option Obj} {s : Shared} (h : ∀ a, g a = s.heap.get? a) : lookX n chk fn g = (hookX n chk fn).obs s := by
  obtain rfl : g = s.heap.get? := funext h
  rfl
theorem SaysX.fd {chk : PySem.W.Frag → Bool} {fn : List DefD} {K : PySem.W.Frag} (c : SaysX chk fn K) (i : Nat) {d : DefD} (h : fn[i]? = some d := by rfl) :
    ∃ fd, FunD K d.name d.qual d.params d.body d.scope (d.dvs K) (d.kws K) (fAd K d.at_) fd := by
  obtain ⟨_, c2, c3⟩ := c
  have q : (fn.map fun d => fnW K d.at_)[i]? = (fn.map DefD.val)[i]? := congrArg (·[i]?) c3
  rw [List.getElem?_map, List.getElem?_map, h] at q
  exact DefD.funD (Option.some.inj q) (List.all_eq_true.mp c2 d (List.mem_of_getElem? h))
end KX

set_option Elab.async false
set_option maxRecDepth 100000
set_option maxHeartbeats 2000000
/-! The hook with the keys of the module's dicts beside; tuples of texts that the module holds. -/
namespace KX
open PySem PySem.Spec PyProof.Rows L2 He
abbrev KeyT : Type := List (Option (List (Option (Str × Int))))
def lookD (n : Nat) (chk : PySem.W.Frag → Bool) (fn : List DefD) (ds : List (Str × List Str)) (g : Addr → Option Obj) : (Bool × List FnW) × KeyT :=
  let K := frG g (asD g n)
  ((chk K && fn.all fun d => d.ok K, fn.map fun d => fnW K d.at_), ds.map fun d => dicW K (ga K d.1))
def SaysD (chk : PySem.W.Frag → Bool) (fn : List DefD) (ds : List (Str × List Str)) (w : World) (K : PySem.W.Frag) : Prop := SaysX chk fn K ∧ ds.map (fun d => dicW K (ga K d.1)) = ds.map fun d => some (keysIn w.params d.2)
def hookD (n : Nat) (chk : PySem.W.Frag → Bool) (fn : List DefD) (ds : List (Str × List Str)) : PySem.W.Hook where
  α := (Bool × List FnW) × KeyT
  obs := fun s => lookD n chk fn ds s.heap.get?
  val := fun w => ((true, fn.map DefD.val), ds.map fun d => some (keysIn w.params d.2))
  says := fun w h => ∃ K : PySem.W.Frag, K.In h ∧ SaysD chk fn ds w K
  of := fun _ s e => by
    refine ⟨frG s.heap.get? (asD s.heap.get? n), frG_in, ?_⟩
    have e1 := congrArg (fun z : (Bool × List FnW) × KeyT => z.1.1) e
    have e2 := congrArg (fun z : (Bool × List FnW) × KeyT => z.1.2) e
    have e3 := congrArg (fun z : (Bool × List FnW) × KeyT => z.2) e
    obtain ⟨a, b⟩ := Bool.and_eq_true_iff.mp e1
    exact ⟨⟨a, b, e2⟩, e3⟩
  keeps := fun _ _ _ h k => by
    obtain ⟨K, hK, c⟩ := h
    exact ⟨K, PySem.W.Frag.In.keeps hK k, c⟩
theorem lookD_eq {n : Nat} {chk : PySem.W.Frag → Bool} {fn : List DefD} {ds : List (Str × List Str)} {g : Addr → Option Obj} {s : Shared} (h : ∀ a, g a = s.heap.get? a) : lookD n chk fn ds g = (hookD n chk fn ds).obs s := by
  obtain rfl : g = s.heap.get? := funext h
  rfl
theorem SaysD.dic {chk : PySem.W.Frag → Bool} {fn : List DefD} {ds : List (Str × List Str)} {w : World} {K : PySem.W.Frag} (c : SaysD chk fn ds w K) (i : Nat) {d : Str × List Str} (h : ds[i]? = some d := by rfl) : ∃ es n, KDict K w (ga K d.1) es n := by
  have e2 : (ds.map fun d => dicW K (ga K d.1))[i]? = (ds.map fun d => some (keysIn w.params d.2))[i]? := by rw [c.2]
  rw [List.getElem?_map, List.getElem?_map, h] at e2
  exact dicW_ok (Option.some.inj e2)
/-- a tuple of texts that the module holds at a -/
def strB : Value → Str → Bool
  | .str y _, z => decide (y = z)
  | _, _ => false
def strsB : List Value → List Str → Bool
  | [], [] => true
  | u :: r, z :: zs => strB u z && strsB r zs
  | _, _ => false
def tupB (K : PySem.W.Frag) (a : Addr) (zs : List Str) : Bool := match K.lookup a with
  | some ⟨.type c, _, .seq its _, _⟩ => decide (c = "tuple") && (decide (its.size ≤ 1000) && strsB its.toList zs)
  | _ => false
theorem strsB_ok : ∀ {us : List Value} {zs : List Str}, strsB us zs = true → Vals (zs.map V.str) us
  | [], [], _ => .nil
  | u :: r, z :: zs, h => by
    obtain ⟨h1, h2⟩ := Bool.and_eq_true_iff.mp h
    refine .cons ?_ (strsB_ok h2)
    cases u with
    | str y t => exact ⟨t, by rw [show y = z from of_decide_eq_true h1]⟩
    | _ => cases h1
  | [], _ :: _, h => nomatch h
  | _ :: _, [], h => nomatch h
theorem tupB_ok {K : PySem.W.Frag} {a : Addr} {zs : List Str} {H : Hp} (h : tupB K a zs = true) : SqT K H a (zs.map V.str) := by
  unfold tupB at h
  split at h
  · rename_i c d its n sl e
    obtain ⟨h1, h⟩ := Bool.and_eq_true_iff.mp h
    obtain ⟨h2, h3⟩ := Bool.and_eq_true_iff.mp h
    have e1 : c = "tuple" := of_decide_eq_true h1
    subst e1
    have h4 : its.size ≤ 1000 := of_decide_eq_true h2
    exact .inr ⟨_, its, n, e, rfl, rfl, Nat.le_trans h4 (by decide), strsB_ok h3⟩
  · cases h
/-- a world with one of its answers set; a dict with keys that the top makes asks for that answer alone -/
def setF (w : World) (b : Bool) : World := { w with params := { w.params with followText := fun r => if r = "special-get-raises" then b else w.params.followText r } }
theorem setF_eq {w : World} {b : Bool} (h : w.params.followText "special-get-raises" = b) : setF w b = w := by
  have e : (fun r => if r = "special-get-raises" then b else w.params.followText r) = w.params.followText := funext fun r => by
    by_cases c : r = "special-get-raises"
    · subst c
      rw [if_pos rfl]
      exact h.symm
    · rw [if_neg c]
  unfold setF
  rw [e]
theorem run_two {r : PySem.W.OpenRow} {q : Program} {H : PySem.W.Hook} {ob : PySem.W.SharedT → H.α} {M : Nat} {loose : List Str} (h1 : ∀ w, HandSHeadRun.RunEq r q H ob M loose (setF w true)) (h2 : ∀ w, HandSHeadRun.RunEq r q H ob M loose (setF w false)) (w : World) : HandSHeadRun.RunEq r q H ob M loose w := by
  cases h : w.params.followText "special-get-raises" with
  | true => rw [← setF_eq h]; exact h1 w
  | false => rw [← setF_eq h]; exact h2 w
end KX

set_option Elab.async false
set_option maxRecDepth 100000
set_option maxHeartbeats 2000000
/-! What the written part says of an own exception class with an __init__ of its own, as one Bool. -/
namespace KX
open PySem PySem.Spec PyProof.Rows L2 He
structure ExK (K : PySem.W.Frag) (C : Addr) (bmB : List Value) (newId : String) : Prop where
  init : PySem.W.excInitIn K C bmB newId = true
  over : PySem.W.excOver K C bmB = true
  hd : PySem.W.hasDictIn K C = true
  sa : PySem.W.findIn K (.ref C) "__setattr__" = some (some (.builtin "object.__setattr__"))
  ga : PySem.W.findIn K (.ref C) "__getattribute__" = some (some (.builtin "BaseException.__getattribute__"))
  gg : PySem.W.findIn K (.ref C) "__getattr__" = some none
  exC : PySem.W.subIn K (.ref C) (.type "BaseException") = some true
  kC : PySem.W.keepIn K (.ref C) = true
  ha : PySem.W.findIn K (.ref C) "__class__" = some (some (.builtin "object.__class__"))
  hm : PySem.W.mroIn K C (.type "object") = some true
def exkB (K : PySem.W.Frag) (C : Addr) (bmB : List Value) (newId : String) : Bool :=
  PySem.W.excInitIn K C bmB newId && (PySem.W.excOver K C bmB && (PySem.W.hasDictIn K C && (eqO (PySem.W.findIn K (.ref C) "__setattr__") (some (some (.builtin "object.__setattr__")))
  && (eqO (PySem.W.findIn K (.ref C) "__getattribute__") (some (some (.builtin "BaseException.__getattribute__"))) && (eqO (PySem.W.findIn K (.ref C) "__getattr__") (some none)
  && (decide (PySem.W.subIn K (.ref C) (.type "BaseException") = some true) && (PySem.W.keepIn K (.ref C) && (eqO (PySem.W.findIn K (.ref C) "__class__") (some (some (.builtin "object.__class__"))) && decide (PySem.W.mroIn K C (.type "object") = some true)))))))))
theorem exkB_ok {K : PySem.W.Frag} {C : Addr} {bmB : List Value} {newId : String} (h : exkB K C bmB newId = true) : ExK K C bmB newId := by
  obtain ⟨h1, h⟩ := Bool.and_eq_true_iff.mp h
  obtain ⟨h2, h⟩ := Bool.and_eq_true_iff.mp h
  obtain ⟨h3, h⟩ := Bool.and_eq_true_iff.mp h
  obtain ⟨h4, h⟩ := Bool.and_eq_true_iff.mp h
  obtain ⟨h5, h⟩ := Bool.and_eq_true_iff.mp h
  obtain ⟨h6, h⟩ := Bool.and_eq_true_iff.mp h
  obtain ⟨h7, h⟩ := Bool.and_eq_true_iff.mp h
  obtain ⟨h8, h⟩ := Bool.and_eq_true_iff.mp h
  obtain ⟨h9, hA⟩ := Bool.and_eq_true_iff.mp h
  exact ⟨h1, h2, h3, eqO_ok h4, eqO_ok h5, eqO_ok h6, of_decide_eq_true h7, h8, eqO_ok h9, of_decide_eq_true hA⟩
end KX

set_option Elab.async false
set_option maxRecDepth 100000
set_option maxHeartbeats 2000000
/-! Own exception classes over any built-in base, with an __init__ that stores: made as values, read, asked by isinstance. -/
namespace KX
open PySem PySem.Spec PyProof.Rows L2
/-- what is known of the built-in base -/
def Bs (bmB : List Value) (newId : String) : Prop := ∃ B initId, ExcBaseFacts B newId initId bmB ∧ StoreFacts B bmB "object.__setattr__" "object"
theorem bsV : Bs [.type "ValueError", .type "Exception", .type "BaseException", .type "object"] "ValueError.__new__" := ⟨_, _, PySem.F.excBase_ValueError, PySem.F.store_ValueError⟩
theorem bsL : Bs [.type "LookupError", .type "Exception", .type "BaseException", .type "object"] "LookupError.__new__" := ⟨_, _, PySem.F.excBase_LookupError, PySem.F.store_LookupError⟩
section
open Builtin Builtin.ObjectAttr
variable {prog : Program} {w : World} {A : Around} {R : Result → Shared → Prop} {hp : Heap} {g : Array GenState} {dw : Drawn} {tt : Nat} {os : OsState} {K : PySem.W.Frag} {C x t1 : Addr} {bmB : List Value} {newId : String} {f : Str} {tk : Tok} {v : Value}
/-- the first store lays the dict -/
theorem put_first (T : ExK K C bmB newId) (bs : Bs bmB newId) (X : K.In hp) (hx : hp.get? x = some ({ cls := .ref C, dict := none, data := .fields #[.ref t1, .none, .none, .none, .bool false, .none] } : Obj)) (hno : PySem.W.findIn K (.ref C) f = some none)
    (hq : ∀ h' tk' dx, (∀ b o, b ≠ x → hp.get? b = some o → h'.get? b = some o) → hp.objs.size ≤ dx → dx ≠ x → h'.get? x = some ({ cls := .ref C, dict := some dx, data := .fields #[.ref t1, .none, .none, .none, .bool false, .none] } : Obj) →
      h'.Ns1 dx (fun y => if y = f then some v else none) → R (.ok (.ret .none)) ⟨h', g, dw, tk', os⟩) :
    codeAny (model prog w) A (.call (.builtin "object.__setattr__") ⟨[.ref x, .str f tk, v], []⟩) R ⟨hp, g, dw, tt, os⟩ := by
  obtain ⟨B, iid, _, SF⟩ := bs
  have hxs : x ≠ hp.objs.size := Nat.ne_of_lt (Heap.lt_size hx)
  refine PySem.W.osa_openX (s := ⟨hp, g, dw, tt, os⟩) (od := none) (r := none) SF X ⟨hx, rfl, rfl, trivial⟩ T.over (by unfold PySem.W.takerIn; rw [hno] <;> rfl) fun b => ?_
  obtain ⟨cd, hc, hd⟩ := PySem.W.any_some T.hd
  have hcls : PySem.W.Looks (model prog w) hp (classData C) cd := PySem.W.looks_clsIn X hc
  refine wpAny_bind (wpAny_pure (wpAny_bind (PySem.W.instanceDict_exc (s := ⟨hp, g, dw, tt, os⟩) hx hcls hd ?_)))
  refine HandSPX.store_in_new ?_ ?_
  · exact ⟨_, #[], _, (Heap.get?_update_ne _ _ _ _ hxs.symm).trans (Heap.get?_push_at rfl rfl), rfl, fun e he => absurd he (by simp), fun _ => rfl⟩
  · intro h' tk' hn' hs
    have hx1 : (hp.push { cls := .type "dict", data := .dict #[] }).get? x = _ := Heap.get?_push_of_some _ hx
    refine hq h' tk' hp.objs.size (fun b o hb ho => ?_) (Nat.le_refl _) hxs.symm ?_ hn'
    · have z := hs.2 b (Nat.ne_of_lt (Heap.lt_size ho))
      exact z.trans ((Heap.get?_update_ne _ _ _ _ hb).trans (Heap.get?_push_of_some _ ho))
    · exact (hs.2 x hxs).trans (Heap.get?_update_self _ hx1 rfl)
/-- a later one -/
theorem put_more {dx : Addr} {m0 : Str → Option Value} {nl : List Str} (T : ExK K C bmB newId) (bs : Bs bmB newId) (X : K.In hp) (hx : hp.get? x = some ({ cls := .ref C, dict := some dx, data := .fields #[.ref t1, .none, .none, .none, .bool false, .none] } : Obj))
    (hns : hp.Ns1 dx m0) (hw : Within m0 nl) (hz : nl.length ≤ 1000) (hno : PySem.W.findIn K (.ref C) f = some none)
    (hq : ∀ h' tk', (∀ b o, b ≠ dx → hp.get? b = some o → h'.get? b = some o) → h'.Ns1 dx (fun y => if y = f then some v else m0 y) → R (.ok (.ret .none)) ⟨h', g, dw, tk', os⟩) :
    codeAny (model prog w) A (.call (.builtin "object.__setattr__") ⟨[.ref x, .str f tk, v], []⟩) R ⟨hp, g, dw, tt, os⟩ := by
  obtain ⟨B, iid, _, SF⟩ := bs
  obtain ⟨oD, esD, epD, hoD, hdD, _⟩ := hns.count hw
  refine PySem.W.osa_openX (s := ⟨hp, g, dw, tt, os⟩) (od := some oD) (r := none) SF X ⟨hx, rfl, rfl, hoD⟩ T.over (by unfold PySem.W.takerIn; rw [hno] <;> rfl) fun b => ?_
  obtain ⟨cd, hc, hd⟩ := PySem.W.any_some T.hd
  have hcls : PySem.W.Looks (model prog w) hp (classData C) cd := PySem.W.looks_clsIn X hc
  obtain ⟨c1, c2, c3, c4, c5, c6, c7, c8, c9, cA, cB⟩ := cd
  dsimp only at hd
  subst hd
  show wpAny _ _ (storeInOwnDict _ _ _ _ _ _) _ _ _
  unfold storeInOwnDict ownDictForStores
  repeat (first | with_reducible refine PySem.OEX.store_in_old hns hw hz ?_ | with_reducible refine wpAny_loadPart_at hx ?_ | with_reducible refine hcls.at ?_ | wp_step)
  intro h' tk' hn' hs
  exact hq h' tk' (fun b o hb ho => (hs.2 b hb).trans ho) hn'
end
section
variable {X : Cx} {pins : List (Addr × Obj)} {σ : L2.St} {H : Hp} {s : Shared} {a C dx : Addr} {f : Str} {y : V} {u : Value} {fs : List (Str × V)} {Q : Unit → Shared → Prop} {E : Value → Shared → Prop} {A : Around} {bmB : List Value} {newId : String}
/-- an exception's object gets a dict that is new -/
theorem inv_dict {h' : Heap} {tk : Nat} {t1 : Addr} {od : HO} (I : Inv X pins σ H s) (e : H a = some (exo a C none)) (k : ∀ b o, b ≠ a → s.heap.get? b = some o → h'.get? b = some o) (dn : s.heap.objs.size ≤ dx) (dne : dx ≠ a)
    (hx : h'.get? a = some ({ cls := .ref C, dict := some dx, data := .fields #[.ref t1, .none, .none, .none, .bool false, .none] } : Obj)) (new : ∀ G : Hp, ObjOk X.prog X.w G h' dx od) :
    Inv X pins σ (upd (upd H dx od) a (exo a C (some dx))) { s with heap := h', toks := tk } := by
  have hnd : H dx = none := I.hok.fresh dn
  have hH : ∀ b, b ≠ a → b ≠ dx → upd (upd H dx od) a (exo a C (some dx)) b = H b := fun b n1 n2 => (upd_ne n1).trans (upd_ne n2)
  have na : ∀ b, H b = none → b ≠ a := fun b n z => by
    subst z
    exact nomatch n.symm.trans e
  have nd : ∀ b o, s.heap.get? b = some o → b ≠ dx := fun b o q => Nat.ne_of_lt (Nat.lt_of_lt_of_le (Heap.lt_size q) dn)
  have nk : ∀ b o, H b = some o → o ≠ exo a C none → upd (upd H dx od) a (exo a C (some dx)) b = some o := fun b o q n => by
    rw [hH b (ne_of q e n) (ne_of_none q hnd)]
    exact q
  refine I.un ⟨fun b o q n _ _ => k b o (na b n) q, fun b o q n _ _ => ⟨o.slots, k b o (na b n) q⟩, fun b o q n _ => ?_, fun b o q _ => ?_, fun b xs q => nk b _ q (Ne.symm exo_tup), fun b o v q => nk b _ q (Ne.symm exo_frz), fun b ps q => ⟨#[], ?_⟩⟩ fun b o q => ?_
  · rw [hH b (na b n) (nd b o q)]
    exact n
  · by_cases hb : b = a
    · subst hb
      exact ⟨_, hx⟩
    · exact ⟨o, k b o hb q⟩
  · rw [nk b _ q (Ne.symm exo_tbl)]
    simp
  · by_cases hb : b = a
    · subst hb
      obtain rfl := Option.some.inj (upd_same.symm.trans q)
      exact exo_ok hx
    · rw [upd_ne hb] at q
      by_cases hd : b = dx
      · subst hd
        obtain rfl := Option.some.inj (upd_same.symm.trans q)
        exact new _
      · rw [upd_ne hd] at q
        refine (I.hok b o q).stay (fun c v hc z => k c v ?_ z) (fun c hc => nk c _ hc (Ne.symm exo_own)) fun c xs hc => nk c _ hc (Ne.symm exo_tup)
        rcases hc with rfl | hc
        · exact hb
        · exact ne_of hc e (Ne.symm exo_own)
/-- self.f = y, the first one -/
theorem st_first (T : ExK X.K C bmB newId) (bs : Bs bmB newId) (I : Inv X pins σ H s) (e : H a = some (exo a C none)) (hno : PySem.W.findIn X.K (.ref C) f = some none) (ry : RelV y u)
    (h : ∀ d s', H d = none → d ≠ a → Inv X pins σ (upd (upd H d (exd d [(f, y)])) a (exo a C (some d))) s' → Q () s') : wpAny (model X.prog X.w) A (setAttr (.ref a) f u) Q E s := by
  obtain ⟨t1, ho⟩ := exo_at I.hok e
  obtain ⟨hp, g, d, t, os⟩ := s
  refine PySem.W.set_plain (od := none) I.kIn ⟨ho, rfl, rfl, trivial⟩ T.sa ?_
  refine put_first T bs I.kIn ho hno fun h' tk' dx k dn dne hx hn => ?_
  exact h dx _ (I.hok.fresh dn) dne (inv_dict I e k dn dne hx fun G => exd_ok hn (relO_put (fs := []) ry fun _ => True.intro))
/-- self.f = y, a further one -/
theorem st_more (T : ExK X.K C bmB newId) (bs : Bs bmB newId) (I : Inv X pins σ H s) (e : H a = some (exo a C (some dx))) (ed : H dx = some (exd dx fs)) (hl : fs.length ≤ 900) (hno : PySem.W.findIn X.K (.ref C) f = some none) (ry : RelV y u)
    (h : ∀ s', Inv X pins σ (upd H dx (exd dx ((f, y) :: fs))) s' → Q () s') : wpAny (model X.prog X.w) A (setAttr (.ref a) f u) Q E s := by
  obtain ⟨t1, ho⟩ := exo_at I.hok e
  obtain ⟨mA, hns, rel⟩ := exd_at I.hok ed
  have hw := within_of rel
  obtain ⟨hp, g, d, t, os⟩ := s
  obtain ⟨oD, _, _, hoD, _⟩ := hns.count hw
  refine PySem.W.set_plain (od := some oD) I.kIn ⟨ho, rfl, rfl, hoD⟩ T.sa ?_
  refine put_more T bs I.kIn ho hns hw (by rw [List.length_map]; omega) hno fun h' tk' k hn => ?_
  have hd : ∃ o, h'.get? dx = some o := let ⟨o, _, _, z, _⟩ := hn; ⟨o, z⟩
  exact h _ (I.write (t' := tk') (e := dx) (by rw [ed]; exact True.intro) (.inl rfl) k hd (exd_ok hn (relO_put ry rel)))
end
/-- self.f = e -/
def tSt (K : PySem.W.Frag) (f : Str) (to te : TE) : TS := fun D σ H => te σ H fun y H1 => to σ H1 fun x H2 => ∃ (a C : Addr) (bmB : List Value) (newId : String), x = .ref a ∧ ExK K C bmB newId ∧ Bs bmB newId ∧ PySem.W.findIn K (.ref C) f = some none ∧
  ((H2 a = some (exo a C none) ∧ ∀ d, H2 d = none → d ≠ a → D.nx σ (upd (upd H2 d (exd d [(f, y)])) a (exo a C (some d)))) ∨
    ∃ (d : Addr) (fs : List (Str × V)), H2 a = some (exo a C (some d)) ∧ H2 d = some (exd d fs) ∧ fs.length ≤ 900 ∧ D.nx σ (upd H2 d (exd d ((f, y) :: fs))))
/-- C(e, ..) as a value -/
def tMkV (C : Addr) (sp : Sp) (ta : TA) : TE := fun σ H Q => ta σ H fun vs H1 => vs.length ≤ 1000 ∧ ∀ a, H1 a = none → sp (.ref a :: vs) (upd H1 a (exo a C none)) (fun v H2 => v = .non ∧ Q (.ref a) H2) (fun _ _ _ => False)
/-- e.f of an own exception -/
def tXv (K : PySem.W.Frag) (f : Str) (te : TE) : TE := fun σ H Q => te σ H fun x H1 => ∃ (a C d : Addr) (bmB : List Value) (newId : String) (fs : List (Str × V)) (v : V), x = .ref a ∧ H1 a = some (exo a C (some d)) ∧ H1 d = some (exd d fs) ∧ ExK K C bmB newId ∧ PySem.W.findIn K (.ref C) f = some none ∧ fs.lookup f = some v ∧ Q v H1
section
variable {X : Cx} {o e : Expr} {es : List Expr} {to te : TE} {ta : TA} {f : Str} {p p' p1 p2 pos : Pos}
theorem ps_st (ho : PE X o to) (he : PE X e te) (hs : swapsWith e (some (.Attribute o f p')) pos.line X.env = pure false := by rfl) : PS X (.Assign [.Attribute o f p'] e pos) (tSt X.K f to te) := by
  refine ⟨fun pins s σ H D I h => plainObj_wpAny_Assign_Attribute (thn (he.run pins s σ H _ I h) fun v s1 ⟨y, H1, I1, r1, q1⟩ => thn (ho.run pins s1 σ H1 _ I1 q1) fun u s2 hh => ?_) hs⟩
  obtain ⟨x, H2, I2, r2, a, C, bmB, nid, rfl, T, bs, hno, q⟩ := hh
  obtain rfl : u = Value.ref a := r2
  rcases q with ⟨ea, q⟩ | ⟨d, fs, ea, ed, hl, q⟩
  · exact st_first T bs I2 ea hno r1 fun d s' n ne J => ⟨σ, _, J, q d n ne⟩
  · exact st_more T bs I2 ea ed hl hno r1 fun s' J => ⟨σ, _, J, q⟩
theorem pe_mkv {CX : CXT} {x : Str} {C fI : Addr} {k : Nat} {fd : FuncData} {ps : List Str} {sp : Sp} {bmB : List Value} {newId : String} (T : ExK X.K C bmB newId) (bs : Bs bmB newId) (iC : PySem.W.findIn X.K (.ref C) "__init__" = some (some (.ref fI))) (tI : PySem.W.isFn X.K (.ref fI) = true)
    (G : FnOk X.prog X.w X.K X.mg X.base CX k fI fd ps sp) (hr : Room (k + 1) X.A) (hb : Binds X.K fd ps []) (hx : Passes CX X (fun _ _ _ => False)) (hg : Gl X x) (hm : X.mg x = some (.ref C)) (ha : PA X (e :: es) ta)
    (hdb : (x == ("__debug__" : Str)) = false := by decide) (he : starEach (e :: es) X.env = (false, eval e X.env) :: starEach es X.env := by rfl) (hpl : (backTo pos (starEach es X.env)).any (·.1) = false := by rfl) :
    PE X (.Call (.Name x p) (e :: es) [] pos) (tMkV C sp ta) := by
  refine ⟨fun pins s σ H Q I h => ?_⟩
  refine wpAny_Call_Name_kw (ld_glob I hg hm ?_ hdb)
  refine PySem.W.callWith_K (h₀ := X.base) I.ok.mod.kin T.kC (thn (ha.run pos pins s σ H _ I h) fun us s1 hh => ?_) he hpl
  obtain ⟨vs, H1, I1, r1, hz, q1⟩ := hh
  refine ⟨I1.kIn, ?_⟩
  obtain ⟨B, iid, FB, SF⟩ := bs
  obtain ⟨nm, N', qn, bs', bm, hdct, sn, sub, ab, col, dd, k0, k1, k2, k3, k5, hC, hT⟩ := PySem.W.excInit_of I1.kIn T.init
  obtain ⟨oI, hoI, hcI⟩ : ∃ oI, s1.heap.get? fI = some oI ∧ oI.cls = .type "function" := by
    obtain ⟨oo, h1, h2⟩ := Option.map_eq_some_iff.mp (show (X.K.lookup fI).map (·.cls) = some (.type "function") from beq_iff_eq.mp tI)
    exact ⟨oo, I1.kIn _ _ h1, h2⟩
  obtain ⟨hp, g, dr, tk, os⟩ := s1
  have kk : ∀ b u, hp.get? b = some u → ((hp.push (PySem.W.kdv_tup us)).push (PySem.HandSPX.excO C hp.objs.size)).get? b = some u := fun b u z => Heap.get?_push_of_some _ (Heap.get?_push_of_some _ z)
  have hget : ((hp.push (PySem.W.kdv_tup us)).push (PySem.HandSPX.excO C hp.objs.size)).get? (hp.objs.size + 1) = some (PySem.HandSPX.excO C hp.objs.size) := by heap_get
  have I2 : Inv X pins σ (upd H1 (hp.objs.size + 1) (exo (hp.objs.size + 1) C none)) ⟨(hp.push (PySem.W.kdv_tup us)).push (PySem.HandSPX.excO C hp.objs.size), g, dr, tk, os⟩ := I1.laid (t' := tk) kk (Nat.le_succ _) (exo_ok hget)
  have hq := q1 (hp.objs.size + 1) (I1.hok.fresh (Nat.le_succ _))
  have r2 : Vals (V.ref (hp.objs.size + 1) :: vs) (Value.ref (hp.objs.size + 1) :: us) := .cons rfl r1
  have hl : (Value.ref (hp.objs.size + 1) :: us ++ []).length = ps.length := by
    rw [List.append_nil, ← r2.length]
    exact G.len _ _ _ _ hq
  have hus : us.length ≤ sizeLine := by
    rw [← Paired.length r1, sizeLine_eq]
    omega
  have hbi := hb _ (Value.ref (hp.objs.size + 1) :: us) I2.kIn hl
  rw [List.append_nil] at hbi
  refine wpAny_call (PySem.HandSPX.call_own FB hT hC (PySem.W.looks_findIn I1.kIn iC) (fun self => PySem.W.exc_bind hoI hcI self) hus (codeAny_mono (G.run _ X.stack _ _ _ _ _ _ (fun _ _ _ => False) (hr.make C us []) (I2.env0.make C us []) hbi r2 hq) fun r s' hq' => ?_))
  cases r with
  | error er => exact hx pins σ _ _ er s' I2 hq'
  | ok fl =>
    cases fl with
    | ret u =>
      obtain ⟨v, H2, os2, bare2, un2, hok2, rv, rfl, q2⟩ := hq'
      exact ⟨rv, .ref (hp.objs.size + 1), H2, I2.call' (ch := []) os2 un2 hok2 bare2 (fun b z => absurd z (by simp)), rfl, q2⟩
    | next => exact False.elim hq'
    | brk => exact False.elim hq'
    | cont => exact False.elim hq'
theorem pe_xv (he : PE X e te) (hb : attributeBase e f X.env (eval e X.env) = eval e X.env := by rfl) : PE X (.Attribute e f pos) (tXv X.K f te) := by
  refine ⟨fun pins s σ H Q I h => attr_of hb (thn (he.run pins s σ H _ I h) fun u s1 hh => ?_)⟩
  obtain ⟨x, H1, I1, rx, a, C, d, bmB, nid, fs, v, rfl, ea, ed, T, hno, l, q⟩ := hh
  obtain rfl : u = Value.ref a := rx
  obtain ⟨t1, ho⟩ := exo_at I1.hok ea
  obtain ⟨mA, hns, rel⟩ := exd_at I1.hok ed
  obtain ⟨od, h1, h2⟩ := lookIn_ns hns
  obtain ⟨u, hu, ru⟩ := RelO.some_of (v := v) (o := mA f) (by rw [← l]; exact rel f)
  exact HandSPX.exc_get I1.kIn ⟨ho, rfl, rfl, h1⟩ T.ga T.gg T.exC (PySem.W.findObj_own T.hd hno rfl (by rw [h2, hu])) (handed_of ru) ⟨v, H1, I1.tok _, ru, q⟩
end
end KX

set_option Elab.async false
set_option maxRecDepth 100000
set_option maxHeartbeats 2000000
/-! repr of nested data where no repr is running yet; isinstance of an own exception; defs that want to know that no repr is running. -/
namespace KX
open PySem PySem.Spec PyProof.Rows L2
/-- repr(data) -/
def rRepr (K : PySem.W.Frag) : List V → Hp → VK → Prop := fun xs H Q => ∃ (a : Addr) (d : PyData), xs = [.ref a] ∧ Dp K H (.ref a) d ∧ d.showable = true ∧ d.hasDict = false ∧ d.depth ≤ 8 ∧ d.shown.length ≤ sizeLine ∧ Q (.str d.shown) H
theorem call_repr {X : Cx} (hg : X.A.guards = some []) (hu : X.A.units + 10 < cLine) : CallR X (.builtin "repr") (rRepr X.K) := by
  intro pins s σ H xs us Q I r h
  obtain ⟨a, d, rfl, hd, h1, h2, h3, h4, q⟩ := h
  obtain ⟨u, rfl, ru⟩ := vals1 r
  obtain rfl : u = Value.ref a := ru
  obtain ⟨as, rd⟩ := Dp.reads I d _ _ hd rfl
  exact repr_of_reads' rd h1 (PyData.noDict_hsm h2) hg (by omega) (fun _ _ e => e) (fun h' u tk hk => ⟨.str d.shown, H, I.kept (t' := tk) hk, ⟨_, rfl⟩, q⟩) h4
/-- isinstance(e, c) of an own exception e -/
def rIsX (K : PySem.W.Frag) : List V → Hp → VK → Prop := fun xs H Q => ∃ (a C d : Addr) (bmB : List Value) (nid : String) (fs : List (Str × V)) (c : V) (cv : Value) (b : Bool), xs = [.ref a, c] ∧ H a = some (exo a C (some d)) ∧ H d = some (exd d fs) ∧ ExK K C bmB nid ∧
  PySem.W.specialIn K (.builtin "object.__class__") "__get__" = some (some (.builtin "getset_descriptor.__get__")) ∧ PySem.W.takesIn K (.builtin "object.__class__") = some true ∧ (∀ u, RelV c u → u = cv) ∧ PySem.W.kitOne K (.ref C) cv = some b ∧ Q (.bl b) H
theorem call_isX {X : Cx} : CallR X (.builtin "isinstance") (rIsX X.K) := by
  intro pins s σ H xs us Q I r h
  obtain ⟨a, C, d, bmB, nid, fs, c, cv, b, rfl, ea, ed, T, sp, tk, hcv, e, q⟩ := h
  cases r with
  | cons rx rr => cases rr with
    | cons rt rr =>
      cases rr
      cases rx
      obtain rfl := hcv _ rt
      obtain ⟨t1, ho⟩ := exo_at I.hok ea
      obtain ⟨mA, hns, rel⟩ := exd_at I.hok ed
      obtain ⟨od, h1, _⟩ := lookIn_ns hns
      obtain ⟨cd, hc, _⟩ := PySem.W.any_some T.hd
      exact PySem.W.kia_one (PySem.W.kitx_exc (od := some od) (by rw [hc] <;> rfl) T.ga T.gg T.exC T.ha sp tk T.hm) I.kIn ⟨ho, rfl, rfl, h1⟩ e (fun z => nomatch z) fun tk' => ⟨.bl b, H, I.kept (t' := tk') fun _ _ z => z, rfl, q⟩
end KX

set_option Elab.async false
set_option maxRecDepth 100000
set_option maxHeartbeats 2000000
/-! Own exceptions raised with what they keep, caught with the context None; isinstance of a caught one that has a dict; defs called in the suite; C() of a class with *rest. -/
namespace KX
open PySem PySem.Spec PyProof.Rows L2 StX
theorem mk_endN {X : Cx} {pins : List (Addr × Obj)} {σ : L2.St} {H1 H2 : Hp} {Q : XK} {hp hp2 h2 : Heap} {g1 g2 : Array GenState} {d1 d2 : Drawn} {t1 t2 : Nat} {os1 os2 : OsState} {a C d : Addr} {fs : List (Str × V)} (T : Raises X (.ref C)) (I1 : Inv X pins σ H1 ⟨hp, g1, d1, t1, os1⟩)
    (ha : hp.objs.size ≤ a) (k : ∀ b o, hp.get? b = some o → hp2.get? b = some o) (un : Un (frs X.stack) [] (upd H1 a (exo a C none)) H2 hp2 h2) (hok : HOk X.prog X.w H2 h2) (ho : os2 = os1) (hb : AllBare g2)
    (ea : H2 a = some (exo a C (some d))) (ed : H2 d = some (exd d fs)) (hd1 : H1 d = none) (q : Q (.ref C) (some d) (upd (del H2 a) d (.xd fs))) : L2N.MkP X pins σ Q (.ref a) ⟨h2, g2, d2, t2, os2⟩ := by
  obtain ⟨t0, G, J, kG, ge, hoe, na⟩ := mk_end0 (d2 := d2) (t2 := t2) I1 ha k un hok ho hb ea ed hd1
  exact ⟨a, _, _, ⟨G, g2, d2, t2, os2⟩, _, .ref C, some d, rfl, J, kG, ge, hoe, ⟨rfl, rfl, fun vs e => by cases e; rfl⟩, rfl, rfl, na, rfl, hb, T, q⟩
section
variable {X : Cx} {CX : CXT} {x : Str} {C fI : Addr} {k : Nat} {fd : FuncData} {ps : List Str} {sp : Sp} {e : Expr} {es : List Expr} {ta : TA} {p pos : Pos}
theorem pmk_x {bmB : List Value} {newId : String} (T : ExK X.K C bmB newId) (tyC : PySem.W.typeIn X.K (.ref C) = some (.type "type")) (bs : Bs bmB newId) (iC : PySem.W.findIn X.K (.ref C) "__init__" = some (some (.ref fI))) (tI : PySem.W.isFn X.K (.ref fI) = true)
    (G : FnOk X.prog X.w X.K X.mg X.base CX k fI fd ps sp) (hr : Room (k + 1) X.A) (hb : Binds X.K fd ps []) (hx : Passes CX X (fun _ _ _ => False)) (hg : Gl X x) (hm : X.mg x = some (.ref C)) (ha : PA X (e :: es) ta)
    (hdb : (x == ("__debug__" : Str)) = false := by decide) (he : starEach (e :: es) X.env = (false, eval e X.env) :: starEach es X.env := by rfl) (hpl : (backTo pos (starEach es X.env)).any (·.1) = false := by rfl) :
    L2N.PMk X (.Call (.Name x p) (e :: es) [] pos) (tMkO C sp [] ta) := by
  intro pins s σ H Q I h
  refine wpAny_Call_Name_kw (ld_glob I hg hm ?_ hdb)
  refine PySem.W.callWith_K (h₀ := X.base) I.ok.mod.kin T.kC (thn (ha.run pos pins s σ H _ I h) fun us s1 hh => ?_) he hpl
  obtain ⟨vs, H1, I1, r1, hz, q1⟩ := hh
  refine ⟨I1.kIn, ?_⟩
  obtain ⟨B, iid, FB, SF⟩ := bs
  obtain ⟨nm, N', qn, bs', bm, hdct, sn, sub, ab, col, dd, k0, k1, k2, k3, k5, hC, hT⟩ := PySem.W.excInit_of I1.kIn T.init
  obtain ⟨oI, hoI, hcI⟩ : ∃ oI, s1.heap.get? fI = some oI ∧ oI.cls = .type "function" := by
    obtain ⟨oo, h1, h2⟩ := Option.map_eq_some_iff.mp (show (X.K.lookup fI).map (·.cls) = some (.type "function") from beq_iff_eq.mp tI)
    exact ⟨oo, I1.kIn _ _ h1, h2⟩
  obtain ⟨hp, g, dr, tk, os⟩ := s1
  have kk : ∀ b u, hp.get? b = some u → ((hp.push (PySem.W.kdv_tup us)).push (PySem.HandSPX.excO C hp.objs.size)).get? b = some u := fun b u z => Heap.get?_push_of_some _ (Heap.get?_push_of_some _ z)
  have hget : ((hp.push (PySem.W.kdv_tup us)).push (PySem.HandSPX.excO C hp.objs.size)).get? (hp.objs.size + 1) = some (PySem.HandSPX.excO C hp.objs.size) := by heap_get
  have I2 : Inv X pins σ (upd H1 (hp.objs.size + 1) (exo (hp.objs.size + 1) C none)) ⟨(hp.push (PySem.W.kdv_tup us)).push (PySem.HandSPX.excO C hp.objs.size), g, dr, tk, os⟩ := I1.laid (t' := tk) kk (Nat.le_succ _) (exo_ok hget)
  have hq := q1 (hp.objs.size + 1) (I1.hok.fresh (Nat.le_succ _))
  rw [List.append_nil] at hq
  have r2 : Vals (V.ref (hp.objs.size + 1) :: vs) (Value.ref (hp.objs.size + 1) :: us) := .cons rfl r1
  have hl : (Value.ref (hp.objs.size + 1) :: us ++ []).length = ps.length := by
    rw [List.append_nil, ← r2.length]
    exact G.len _ _ _ _ hq
  have hus : us.length ≤ sizeLine := by
    rw [← Paired.length r1, sizeLine_eq]
    omega
  have hbi := hb _ (Value.ref (hp.objs.size + 1) :: us) I2.kIn hl
  rw [List.append_nil] at hbi
  refine wpAny_call (PySem.HandSPX.call_own FB hT hC (PySem.W.looks_findIn I1.kIn iC) (fun self => PySem.W.exc_bind hoI hcI self) hus (codeAny_mono (G.run _ X.stack _ _ _ _ _ _ (fun _ _ _ => False) (hr.make C us []) (I2.env0.make C us []) hbi r2 hq) fun r s' hq' => ?_))
  cases r with
  | error er => exact hx pins σ _ _ er s' I2 hq'
  | ok fl =>
    cases fl with
    | ret u =>
      obtain ⟨v, H2, os2, bare2, un2, hok2, rv, ev, d, fs, ea, ed, hd1, q2⟩ := hq'
      subst ev
      obtain ⟨h2, g2, d2, t2, os'⟩ := s'
      exact ⟨rv, mk_endN (raises_own T.exC tyC) I1 (Nat.le_succ _) kk un2 hok2 os2 bare2 ea ed hd1 q2⟩
    | next => exact False.elim hq'
    | brk => exact False.elim hq'
    | cont => exact False.elim hq'
end
/-- isinstance(e, c), e the exception that the suite holds -/
theorem call_isEd {X : Cx} {a D d : Addr} {oe : Obj} {pn : List (Addr × Obj)} {bmB : List Value} {nid : String} (T : ExK X.K D bmB nid) (sp : PySem.W.specialIn X.K (.builtin "object.__class__") "__get__" = some (some (.builtin "getset_descriptor.__get__"))) (tk : PySem.W.takesIn X.K (.builtin "object.__class__") = some true)
    (hz : Zc (.ref D) (some d) oe) (hf : ∃ vs, oe.data = .fields vs) : CallR (X.suite a ((a, oe) :: pn)) (.builtin "isinstance") (fun xs H Q => (∃ fs, H d = some (.xd fs)) ∧ rIsE X.K D a xs H Q) := by
  intro pins s σ H xs us Q I r h
  obtain ⟨⟨fs, hd⟩, c, cv, b, rfl, hcv, e, q⟩ := h
  cases r with
  | cons rx rr =>
    cases rr with
    | cons rt rr =>
      cases rr
      cases rx
      have ec := hcv _ rt
      subst ec
      obtain ⟨hget, _⟩ := I.pin (a, oe) (List.mem_append.mpr (.inl List.mem_cons_self))
      obtain ⟨vs, hv⟩ := hf
      have hx : ObjOk X.prog X.w H s.heap d (.xd fs) := I.hok d _ hd
      obtain ⟨mA, hns, rel⟩ := hx
      obtain ⟨od, ho, _⟩ := lookIn_ns hns
      obtain ⟨cd, hc, _⟩ := PySem.W.any_some T.hd
      have J : PySem.W.InstAt s.heap a oe D (some od) := ⟨hget, hz.1, by unfold PySem.W.notCls; rw [hv] <;> rfl, by rw [hz.2]; exact ho⟩
      exact PySem.W.kia_one (PySem.W.kitx_exc (od := some od) (by rw [hc] <;> rfl) T.ga T.gg T.exC T.ha sp tk T.hm) I.kIn J e (fun z => nomatch z) fun tk' => ⟨.bl b, H, I.kept (t' := tk') fun _ _ z => z, rfl, q⟩
theorem cxUpN {P : Program} {w : World} : CXUp (L2N.CX P w) := by
  rintro outer s H s2 H2 E e s' un kp ho ⟨a, B, H', cls, d, ea, fl, hok, ub, na, os, ag, he⟩
  refine ⟨a, B, H', cls, d, ea, fl, hok, ⟨fun b o q n hb => ub.keep b o (kp b o q) (un.free b o q n (by simp)) hb, fun b o q hb => ub.slot b o (kp b o q) hb, fun b o q n => ub.free b o (kp b o q) (un.free b o q n (by simp)),
    fun b o q hb => ub.there b o (kp b o q) hb, fun b xs q => ub.tups b xs (un.tups b xs q), fun b o xs q => ub.frzs b o xs (un.frzs b o xs q), fun b ps q => ?_⟩, na, os.trans ho, ag, he⟩
  obtain ⟨m1, e1⟩ := un.tbls b ps q
  obtain ⟨m2, e2⟩ := ub.tbls b _ e1
  exact ⟨m1 ++ m2, by rw [e2, Array.append_assoc]⟩
theorem fnH_ok {P : Program} {w : World} {K : PySem.W.Frag} {mg : Str → Option Value} {base : Heap} {f : Addr} {x qual : Str} {params : Arguments} {body : List Stmt} {scope : Scope} {dvs : List V} {kws : List (Str × V)} {fd : FuncData} {CX : CXT} {N ps : List Str} {k : Nat} {sp : Sp}
    (F : FunD K x qual params body scope dvs kws f fd) (S : FnScope N ps scope) (len : ∀ vs H Q E, sp vs H Q E → vs.length = ps.length)
    (hbody : ∀ (cdv : Value) (A : Around) (outer : List Env) (s : Shared) (H : Hp) (vs : List V) (Q : VK) (E : XK) (p : Addr × Obj), L2H.Hot1 A p → L2H.RoomH k (A.deeper (envOfC qual scope s.heap.objs.size f cdv)) → sp vs H Q E →
      ∃ t, PSs (L2H.cxH CX P w K mg base N qual scope f cdv A outer s H E p) body t ∧ t { nx := fun _ H' => Q .non H', rt := Q } (start N vs) H) : L2H.FnH P w K mg base CX (k + 1) f fd ps sp := by
  obtain ⟨oc, od, dV, kV, doc, pm, an, cdv, ct, osl, rfl, lk, hcd, _, _⟩ := F.ex
  exact L2H.fn_ofH lk hcd S len fun A outer s H vs Q E p hot hr hsp => hbody cdv A outer s H vs Q E p hot hr hsp
theorem pe_makeR0 {X : Cx} {CX : CXT} {k : Nat} {f C : Addr} {sp : Sp} {E : XK} {x : Str} {p pos : Pos} (M : Mk X.K C f) (F : FnR X.prog X.w X.K X.mg X.base CX k f sp) (hr : Room (k + 1) X.A) (hg : Gl X x) (hm : X.mg x = some (.ref C)) (hx : Passes CX X E)
    (hdb : (x == ("__debug__" : Str)) = false := by decide) : PE X (.Call (.Name x p) [] [] pos) (tMakeR C sp E tNil) := by
  refine ⟨fun pins s σ H Q I h => ?_⟩
  refine wpAny_Call_Name_kw (ld_glob I hg hm ?_ hdb)
  exact PySem.W.callWith_K0 I.kIn M.kp (run_makeR (us := []) M F hr hx I .nil h)
end KX

set_option Elab.async false
set_option maxRecDepth 100000
set_option maxHeartbeats 2000000
/-! for i, x in enumerate(t), t a tuple. -/
namespace KX
open PySem PySem.Spec PyProof.Rows L2
open Sem (wp)
open AutoSeq1 (wpAny_loadPart')
/-- enumerate's maker, told of whatever begins to be walked -/
theorem enum_new1 {v : Value} {o : Obj} {G : Heap → Prop} (B : Begins v o G) :
    Meets (Builtin.«enumerate.__new__» ⟨[.type "enumerate", v], []⟩) (fun _ R s => G s.heap ∧ R (.ok (.ret (.ref (s.heap.push o).objs.size)))
        { s with heap := (s.heap.push o).push { cls := .type "enumerate", data := .fields #[.none, .bool false, .ref s.heap.objs.size, rawInt 0, .none, .none] } }) :=
  .of_wp fun prog w A R s hh => by
    obtain ⟨hp, g, d, tk, os⟩ := s
    have hsub := sub_enumerate
    have it : ∀ {A' : Around} {E Q : Value → Shared → Prop}, Q (.ref hp.objs.size) ⟨hp.push o, g, d, tk, os⟩ → wpAny (model prog w) A' (pyIter v) Q E ⟨hp, g, d, tk, os⟩ := fun q => B.iter _ _ _ _ ⟨hp, g, d, tk, os⟩ _ hh.1 q
    wp_walk using it
    refine wpAny_stack_any fun _ => wpAny_pure ?_
    split
    case h_1 c _ _ _ _ _ => cases (c == Value.type "enumerate") <;> (wp_walk using it; exact ⟨_, rfl, hh.2⟩)
    all_goals (wp_walk using it; exact ⟨_, rfl, hh.2⟩)
section
variable {prog : Program} {w : World} {A : Around} {E : Value → Shared → Prop} {s : Shared}
theorem enum_tup {t : Addr} {its : Array Value} {Q : Value → Shared → Prop} (ht : s.heap.IsTuple t its)
    (q : ∀ h', IsEnum h' (s.heap.objs.size + 1) s.heap.objs.size 0 .none → h'.IsTupleIter s.heap.objs.size t 0 → (∀ b u, s.heap.get? b = some u → h'.get? b = some u) → Q (.ref (s.heap.objs.size + 1)) { s with heap := h' }) :
    wpAny (model prog w) A (call (.type "enumerate") [.ref t]) Q E s := by
  refine callType_new F.called_enumerate (by decide) (F.typeCall_enumerate_1 _) (F.newCall_enumerate_1 _) (fun obj => F.args_object_init_2 obj _) F.entry_enumerate_new (enum_new1 (begins_tuple t its)) ⟨ht, ?_⟩
  generalize ho : ({ cls := .type "tuple_iterator", data := .fields #[.ref t, .int 0 0] } : Obj) = o
  have hf : o.isFreed = false := by rw [← ho]; rfl
  have hz : (s.heap.push o).objs.size = s.heap.objs.size + 1 := Heap.size_push ..
  show _ ∧ _
  rw [hz]
  have e1 : ((s.heap.push o).push { cls := .type "enumerate", data := .fields #[.none, .bool false, .ref s.heap.objs.size, rawInt 0, .none, .none] }).get? (s.heap.objs.size + 1) = some { cls := .type "enumerate", data := .fields #[.none, .bool false, .ref s.heap.objs.size, rawInt 0, .none, .none] } := by
    rw [← hz]
    exact Heap.get?_push_size _ rfl
  have e2 := Heap.get?_push_of_some ({ cls := .type "enumerate", data := .fields #[.none, .bool false, .ref s.heap.objs.size, rawInt 0, .none, .none] }) (Heap.get?_push_size s.heap hf)
  exact ⟨⟨_, e1, rfl⟩, q _ e1 ⟨o, e2, by rw [← ho], by rw [← ho]; rfl⟩ fun b u z => Heap.get?_push_of_some _ (Heap.get?_push_of_some _ z)⟩
end
/-- the tuple at a as it stands at each turn, each item in a new pair -/
def ItE (K : PySem.W.Frag) (a : Addr) : It where
  go := fun i H => ∃ (xs : List V) (x : V), SqT K H a xs ∧ xs[i]? = some x
  yld := fun i H v H' => ∃ T x, v = .ref T ∧ H T = none ∧ H' = upd H T (.tup [.int (i : Nat), x]) ∧ ∀ xs, SqT K H a xs → xs[i]? = some x
  stop := fun i H => ∃ xs : List V, SqT K H a xs ∧ xs.length = i
theorem tup_ne {h : Heap} {a it : Addr} {i : Nat} {its : Array Value} (hi : h.IsTupleIter it a i) (ht : h.IsTuple a its) : a ≠ it := by
  rintro rfl
  obtain ⟨o, ho, hc, _⟩ := hi
  obtain ⟨u, hu, uc, _⟩ := ht
  rw [ho] at hu
  cases hu
  rw [hc] at uc
  exact absurd (Value.type.inj uc) (by decide)
theorem turn_enumT {P : Program} {w : World} {K : PySem.W.Frag} {elts : List Expr} {kk : Nat} {tpos : Pos} (a e it : Addr) :
    Turn P w K (.Tuple elts kk tpos) (ItE K a) [e, it] e (fun i h => (∃ old, IsEnum h e it ((i : Nat) : Int) old) ∧ h.IsTupleIter it a i ∧ e ≠ it) where
  mem := by simp
  obj := fun i h st b hb => by
    obtain ⟨⟨old, he⟩, ⟨o, ho, hc, hd⟩, _⟩ := st
    rcases List.mem_cons.mp hb with rfl | hb
    · exact ⟨_, he, fun v q => nomatch q⟩
    · rw [List.mem_singleton.mp hb]
      exact ⟨o, ho, fun v q => by rw [hd] at q; cases q⟩
  keep := fun i h h' st k => ⟨st.1.imp fun old he => k e (by simp) _ he, st.2.1.at fun o q => k it (by simp) o q, st.2.2⟩
  item := by
    intro X hP hw hK hc i pins s σ H E I hf st hg
    subst hP hw hK
    obtain ⟨⟨old, he⟩, hit, hne⟩ := st
    obtain ⟨xs, x, hq, hx⟩ := hg
    obtain ⟨its, rv, p, hz⟩ := I.tuple hq
    obtain ⟨u, hu, ru⟩ := rv.get hx
    have p' : s.heap.IsTuple a its.toArray := p
    have hel : e < s.heap.objs.size := Heap.lt_size he
    have hil : it < s.heap.objs.size := by obtain ⟨_, q, _⟩ := hit; exact Heap.lt_size q
    have hlt : i < its.toArray.size := by
      have := (List.getElem?_eq_some_iff.mp hu).1
      simpa using this
    have hea : e ≠ a := by
      rintro rfl
      obtain ⟨o2, ho2, uc, _⟩ := p'
      rw [he] at ho2
      cases ho2
      exact absurd (Value.type.inj uc) (by decide)
    refine wpAny_pyNext_enum_itemD (Draws.tuple (A := X.A.in1) (I.ok.hd hc) it a (tup_ne hit p') its.toArray) he ⟨hit, p'⟩ hlt hne (by simp [hne, hea]) fun x2 h' tk hx2 ho st2 hT hsz hk => ?_
    obtain rfl : x2 = u := by
      have e1 : its.toArray[i]? = some u := by simpa using hu
      exact Option.some.inj (hx2.symm.trans e1)
    refine ⟨_, rfl, wpAny_letOwnedTupleGo_enum (s := { s with heap := h', toks := tk + 1 }) ho fun h'' he' sb => ?_⟩
    have hT2 : h''.get? s.heap.objs.size = some { cls := .type "tuple", data := .seq #[.int i tk, x2] } := (sb.2 _ (Nat.ne_of_gt hel)).trans hT
    have new : ObjOk X.prog X.w (upd H s.heap.objs.size (.tup [.int (i : Nat), x])) h'' s.heap.objs.size (.tup [.int (i : Nat), x]) :=
      ⟨by show 2 ≤ sizeLine; decide, [.int i tk, x2], .cons ⟨_, rfl⟩ (.cons ru .nil), ⟨_, hT2, rfl, _, rfl⟩⟩
    have I1 : Inv X pins σ (upd H s.heap.objs.size (.tup [.int (i : Nat), x])) { s with heap := h'', toks := tk + 1 } :=
      I.turnedNew (ch := [e, it]) (fun b ob hb q => (sb.2 b (fun z => hb (by simp [z]))).trans (hk b ob (fun z => hb (by simp [z])) (fun z => hb (by simp [z])) q)) hf (Nat.le_refl _) new
    refine ⟨.ref s.heap.objs.size, _, I1, rfl, ⟨_, x, rfl, I.hok.fresh (Nat.le_refl _), rfl, fun ys hy => by rw [I.tuple_inj hy hq]; exact hx⟩, ⟨⟨x2, ?_⟩, st2.1.at fun o q => (sb.2 it (Ne.symm hne)).trans q, hne⟩, fun b hb => ?_⟩
    · rw [show ((i + 1 : Nat) : Int) = (i : Int) + 1 by omega]
      exact he'
    · have hb' : b < s.heap.objs.size := by
        rcases List.mem_cons.mp hb with rfl | hb
        · exact hel
        · rw [List.mem_singleton.mp hb]
          exact hil
      rw [upd_ne (Nat.ne_of_lt hb')]
      exact (hf b hb).1
  done := by
    intro X hP hw hK hc i pins s σ H E I hf st hg
    subst hP hw hK
    obtain ⟨⟨old, he⟩, hit, hne⟩ := st
    obtain ⟨xs, hq, hx⟩ := hg
    obtain ⟨its, rv, p, hz⟩ := I.tuple hq
    have p' : s.heap.IsTuple a its.toArray := p
    obtain ⟨f0, f1, f2, f3, f4, f5⟩ := hf it (by simp)
    have hl := rv.length
    obtain rfl : i = its.toArray.size := by simp; omega
    exact wpAny_pyNext_enum_endD (Draws.tuple (A := X.A.in1) (I.ok.hd hc) it a (tup_ne hit p') its.toArray) he ⟨hit, p'⟩ fun h' eb => ⟨rfl, I.turned (t' := s.toks) (fun b o hb q => eb b o hb q) f0 f1 f3 f4 f5⟩
  self := fun A i s Q E st h => let ⟨⟨_, he⟩, _⟩ := st; wpAny_pyIter_enum he h
def iEnumT (K : PySem.W.Frag) (ta : TA) : TI := fun σ H R => ta σ H fun vs H1 => ∃ a xs, vs = [.ref a] ∧ SqT K H1 a xs ∧ R (ItE K a) H1
theorem pi_enumT {X : Cx} {e : Expr} {ta : TA} {p pos tpos : Pos} {elts : List Expr} {kk : Nat} (hg : Gl X "enumerate") (hm : X.mg "enumerate" = none) (ha : PA X [e] ta) (hs : starEach [e] X.env = [(false, eval e X.env)] := by rfl) :
    PI X (.Tuple elts kk tpos) (.Call (.Name "enumerate" p) [e] [] pos) (iEnumT X.K ta) := by
  refine ⟨fun pins s σ H R I h => Call_ (ld_blt I hg hm boot_enumerate (PyProof.Rows.callWith_type1 (thn (ha.run pos pins s σ H _ I h) fun us s1 hh => ?_) hs rfl))⟩
  obtain ⟨vs, H1, I1, r1, a, xs, rfl, hq, q⟩ := hh
  obtain rfl := Vals.ref1 r1
  obtain ⟨its, rv, p', hz⟩ := I1.tuple hq
  refine enum_tup p' fun h' he hit hk => wpAny_pyIter_enum he ?_
  have I2 : Inv X pins σ H1 { s1 with heap := h' } := I1.kept (t' := s1.toks) hk
  refine ⟨s1.heap.objs.size + 1, [s1.heap.objs.size + 1, s1.heap.objs.size], _, _, H1, rfl, I2, turn_enumT a (s1.heap.objs.size + 1) s1.heap.objs.size, ⟨⟨.none, he⟩, hit, Nat.succ_ne_self _⟩, fun b hb => ?_, q⟩
  have hle : s1.heap.objs.size ≤ b := by
    rcases List.mem_cons.mp hb with rfl | hb
    · exact Nat.le_succ _
    · rw [List.mem_singleton.mp hb]
      exact Nat.le_refl _
  exact I1.fpOk hle (I1.hok.fresh hle)
theorem walk_enumT {K : PySem.W.Frag} {a : Addr} {xs : List V} : Walk (ItE K a) xs.length (fun H => SqT K H a xs) (YPair (fun i => some (.int (i : Nat))) (fun i => xs[i]?)) :=
  ⟨fun i _ hi q => ⟨xs, xs[i], q, by simp [hi]⟩, fun _ q => ⟨xs, q, rfl⟩, fun i H v H' _ q y => y.elim fun T y => y.elim fun x y => ⟨T, .int (i : Nat), x, y.1, y.2.1, y.2.2.1, rfl, y.2.2.2 xs q⟩⟩
end KX

set_option Elab.async false
set_option maxRecDepth 100000
set_option maxHeartbeats 2000000
namespace KX
open PySem PySem.Spec PyProof.Rows L2
/-- a def's promise where no repr is running -/
structure FnG (P : Program) (w : World) (K : PySem.W.Frag) (mg : Str → Option Value) (base : Heap) (CX : CXT) (k : Nat) (f : Addr) (fd : FuncData) (ps : List Str) (sp : Sp) : Prop where
  len : ∀ vs H Q E, sp vs H Q E → vs.length = ps.length
  run : ∀ (A : Around) (outer : List Env) (s : Shared) (H : Hp) (args : Args) (us : List Value) (vs : List V) (Q : VK) (E : XK), A.guards = some [] → Room k A →
    Env0 P w K mg base A outer s H → BindsTo s fd args (ps.zip us) → Vals vs us → sp vs H Q E → codeAny (model P w) A (.call (.ref f) args) (CR CX outer P w H s Q E) s
section
variable {P : Program} {w : World} {K : PySem.W.Frag} {mg : Str → Option Value} {base : Heap} {CX : CXT} {k : Nat} {f : Addr} {fd : FuncData} {ps : List Str} {sp : Sp}
theorem FnG.of (F : FnOk P w K mg base CX k f fd ps sp) : FnG P w K mg base CX k f fd ps sp :=
  ⟨F.len, fun A outer s H args us vs Q E _ => F.run A outer s H args us vs Q E⟩
/-- the rule for a def whose body may use that no repr is running -/
theorem fnG_ok {x qual : Str} {params : Arguments} {body : List Stmt} {scope : Scope} {dvs : List V} {kws : List (Str × V)} {N : List Str} (F : FunD K x qual params body scope dvs kws f fd) (S : FnScope N ps scope)
    (len : ∀ vs H Q E, sp vs H Q E → vs.length = ps.length)
    (hbody : ∀ (cdv : Value) (A : Around) (outer : List Env) (s : Shared) (H : Hp) (vs : List V) (Q : VK) (E : XK),
      A.guards = some [] → Room k (A.deeper (envOfC qual scope s.heap.objs.size f cdv)) → sp vs H Q E →
      ∃ t, PSs (cxOf CX P w K mg base N qual scope f cdv A outer s H E) body t ∧ t { nx := fun _ G => Q .non G, rt := Q } (start N vs) H) :
    FnG P w K mg base CX (k + 1) f fd ps sp := by
  obtain ⟨oc, od, dV, kV, doc, pm, an, cdv, ct, osl, rfl, lk, hcd, _, _⟩ := F.ex
  constructor
  · exact len
  intro A outer s H args us vs Q E hg hr e0 hb r hsp
  have hn := len _ _ _ _ hsp
  have keep : ∀ b o, base.get? b = some o → s.heap.get? b = some o := fun b o z => (e0.bs b o z).1
  have hK : K.In s.heap := e0.mod.kin.keeps keep
  have hL : s.heap.NoLimit := e0.mod.nolimit.keeps keep
  refine codeAny_call_function hr.depth (hK _ _ lk) rfl S.co S.gen rfl (PySem.W.codeRec_of hK hcd) (hb _ _ _ _ ?_)
  refine wpAny_newFunctionEnv_cells S.kind (fun y hy => ?_) fun env he s1 x => ?_
  · rcases S.par y.1 (List.of_mem_zip (show (y.1, y.2) ∈ ps.zip us from hy)).1 with z | z
    · exact Or.inl z
    · exact Or.inr ⟨z, PySem.W.cellsFrom_some _ _ _ (Or.inl z)⟩
  · subst he
    refine ⟨hL.keeps x.toInCall.keep, codeAny_func ?_⟩
    obtain ⟨t, ht, hq⟩ := hbody cdv A outer s H vs Q E hg (hr.deeper _) hsp
    have I0 := inv_start (CX := CX) (E := E) S hr.hd e0 hn r x
    refine wpAny_mono (ht.run [] s1 (start N vs) H _ I0 hq) (fun fl s' z => ?_) fun _ _ z => z
    match fl, z with
    | .ret u, ⟨v, σ', G, J, rv, qv⟩ => exact ⟨v, G, J.os, J.bare, J.base, J.hok, rv, qv⟩
    | .next, ⟨σ', G, J, qv⟩ => exact ⟨.non, G, J.os, J.bare, J.base, J.hok, rfl, qv⟩
    | .brk, ⟨_, _, _, qv⟩ => exact False.elim qv
    | .cont, ⟨_, _, _, qv⟩ => exact False.elim qv
end
section
variable {X : Cx} {CX : CXT} {k : Nat} {f : Addr} {fd : FuncData} {ps : List Str} {sp : Sp} {dvs : List V} {ds : List Value} {E : XK} {x : Str} {p pos : Pos} {e : Expr} {es : List Expr} {t : TA}
/-- f(e, ..) where no repr is running -/
theorem pe_callG (F : FnG X.prog X.w X.K X.mg X.base CX k f fd ps sp) (gg : X.A.guards = some []) (hr : Room k X.A) (hg : Gl X x) (hm : X.mg x = some (.ref f)) (hk : PySem.W.keepIn X.K (.ref f) = true) (hb : Binds X.K fd ps ds) (hd : Vals dvs ds)
    (hx : Passes CX X E) (ha : PA X (e :: es) t) (hdb : (x == ("__debug__" : Str)) = false := by decide) (he : starEach (e :: es) X.env = (false, eval e X.env) :: starEach es X.env := by rfl)
    (hpl : (backTo pos (starEach es X.env)).any (·.1) = false := by rfl) : PE X (.Call (.Name x p) (e :: es) [] pos) (tCall sp dvs E t) := by
  constructor
  intro pins s σ H Q I h
  refine wpAny_Call_Name_kw (ld_glob I hg hm ?_ hdb)
  refine PySem.W.callWith_K (h₀ := X.base) I.ok.mod.kin hk (thn (ha.run pos pins s σ H _ I h) fun us s1 hh => ?_) he hpl
  obtain ⟨vs, H1, I1, r, q⟩ := hh
  refine ⟨I1.kIn, ?_⟩
  have r2 : Vals (vs ++ dvs) (us ++ ds) := r.append hd
  have hl : (us ++ ds).length = ps.length := r2.length.symm.trans (F.len _ _ _ _ q)
  refine wpAny_call (codeAny_mono (F.run X.A X.stack s1 H1 ⟨us, []⟩ _ _ Q E gg hr I1.env0 (hb s1 us I1.kIn hl) r2 q) fun res s' z => ?_)
  match res, z with
  | .error er, z => exact hx pins σ H1 s1 er s' I1 z
  | .ok (.ret u), z => exact I1.after z
  | .ok .next, z => exact False.elim z
  | .ok .brk, z => exact False.elim z
  | .ok .cont, z => exact False.elim z
end
/-! ### the law's own call -/
theorem law_atG {P : Program} {w : World} {K : PySem.W.Frag} {mg mb : Str → Option Value} {k : Nat} {fa a : Addr} {fd : FuncData} {x : Str} {sp : Sp} {s1 : Shared} {vs : List Value} {ns : List Int}
    (KI : K.In s1.heap) (hns : s1.heap.Ns mainGlobals mg) (hb : s1.heap.Ns builtinsNs mb) (hbb : ∀ x : Str, x ≠ "__name__" → mb x = bootBuiltins x) (hlim : s1.heap.NoLimit) (hg : s1.gens = #[])
    (ha : s1.heap.get? a = some { cls := .type "list", data := .seq vs.toArray }) (hi : IntsAre vs ns) (hl : ns.length ≤ sizeLine) (hr : Room k callerA)
    (F : ∀ base : Heap, K.In base → base.Ns mainGlobals mg → FnG P w K mg base CX0 k fa fd [x] sp) (hbind : ∀ (s : Shared) (u : Value), BindsTo s fd ⟨[u], []⟩ [(x, u)])
    (hsp : ∀ H : Hp, SqL K H a (ns.map V.int) → sp [.ref a] H (fun v _ => v = .bl true) E0) :
    codeAny (model P w) callerA (.call (.ref fa) ⟨[.ref a], []⟩) (fun r s' => r = .ok (.ret (.bool true)) ∧ PySem.OldK s1.heap s'.heap ∧ s'.os = s1.os ∧ AllBare s'.gens) s1 := by
  have rv := vals_ints hi
  have frozen : ∀ H : Hp, (∀ b u, H b = some u → b = a ∧ u = .frz { cls := .type "list", data := .seq vs.toArray } (.lst (ns.map V.int)) ∧ K.lookup a = none) → SqL K H a (ns.map V.int) →
      codeAny (model P w) callerA (.call (.ref fa) ⟨[.ref a], []⟩) (fun r s' => r = .ok (.ret (.bool true)) ∧ PySem.OldK s1.heap s'.heap ∧ s'.os = s1.os ∧ AllBare s'.gens) s1 := by
    intro H hH hS
    have free : ∀ b o, s1.heap.get? b = some o → (b = a → K.lookup a ≠ none ∨ (∀ its n, o.data ≠ .seq its n)) → H b = none := by
      intro b o e n
      cases q : H b with
      | none => rfl
      | some u =>
        obtain ⟨rfl, _, z3⟩ := hH b u q
        rw [ha] at e
        obtain rfl := Option.some.inj e
        rcases n rfl with n | n
        · exact absurd z3 n
        · exact absurd rfl (n vs.toArray _)
    have inK : K.In (hidT s1.heap H) := fun b o e => hidT_get (KI b o e) (free b o (KI b o e) fun z => .inl (by rw [← z, e]; simp))
    have nsOk : ∀ {b : Addr} {m : Str → Option Value}, s1.heap.Ns b m → (hidT s1.heap H).Ns b m := by
      rintro b m ⟨o, es, ep, e, d, r⟩
      exact ⟨o, es, ep, hidT_get e (free b o e fun _ => .inr fun its n z => by rw [d] at z; cases z), d, r⟩
    have hok : HOk P w H s1.heap := by
      intro b u q
      obtain ⟨rfl, rfl, _⟩ := hH b u q
      exact ⟨ha, by rw [List.length_map]; exact hl, vs, _, rv, ha⟩
    have md : Mod K mg (hidT s1.heap H) := ⟨inK, nsOk hns, ⟨mb, nsOk hb, hbb⟩, by
      obtain ⟨mc, h1, h2⟩ := hlim
      exact ⟨mc, nsOk h1, h2⟩⟩
    have e0 : Env0 P w K mg (hidT s1.heap H) callerA [] s1 H :=
      ⟨rfl, md, fun b o e => of_hidT e, Nat.le_of_eq (hidT_size _ _), trivial, fun b z => absurd (show b ∈ ([] : List Addr) from z) (by simp), hok, .of_eq hg⟩
    have go := (F _ inK (nsOk hns)).run callerA [] s1 H ⟨[.ref a], []⟩ [.ref a] [.ref a] _ _ rfl hr e0 (hbind s1 (.ref a)) (.cons rfl .nil) (hsp H hS)
    refine codeAny_mono go fun r s' z => ?_
    match r, z with
    | .error _, z => exact False.elim z
    | .ok .next, z => exact False.elim z
    | .ok .brk, z => exact False.elim z
    | .ok .cont, z => exact False.elim z
    | .ok (.ret u), ⟨v, G, os, bare, un, hok', rr, qv⟩ =>
      obtain rfl : v = .bl true := qv
      obtain rfl : u = Value.bool true := rr
      refine ⟨rfl, PySem.OldK.of_keep fun b o e => ?_, os, bare⟩
      cases q : H b with
      | none => exact un.keep b o e q (fun z => absurd (show b ∈ ([] : List Addr) from z) (by simp)) (by simp)
      | some t =>
        obtain ⟨rfl, rfl, _⟩ := hH b t q
        obtain ⟨e2, _⟩ := hok' _ _ (un.frzs _ _ _ q)
        exact e2.trans (ha.symm.trans e)
  cases hk : K.lookup a with
  | none =>
    refine frozen (fun b => if b = a then some (.frz { cls := .type "list", data := .seq vs.toArray } (.lst (ns.map V.int))) else none) (fun b u z => ?_) (.inl (.inr ⟨_, if_pos rfl⟩))
    by_cases hba : b = a
    · exact ⟨hba, (Option.some.inj ((if_pos hba).symm.trans z)).symm, hk⟩
    · exact nomatch (if_neg hba).symm.trans z
  | some o =>
    have e := KI a o hk
    rw [ha] at e
    obtain rfl := Option.some.inj e
    exact frozen (fun _ => none) (fun b u z => nomatch (show (none : Option HO) = some u from z))
      (.inr ⟨_, vs.toArray, _, hk, rfl, rfl, rfl, by rw [List.size_toArray, hi.length]; exact hl, by simpa using rv⟩)
/-- the goal that a head leaves, by the law's promise -/
theorem walk_atG {l : PySem.W.OpenLaw} {n k : Nat} {q : Program} {loose : List Str} {XP : (Str → Option Value) → Heap → Prop} {YP : World → Heap → Prop} {d : DefRec} {x : Str}
    (hn : l.most = some n) (hn2 : n ≤ sizeLine) (hdf : d.params.defaults = []) (hr : Room k callerA)
    (F : ∀ (w : World) (mg : Str → Option Value) (fa : Addr) (h : Heap), YP w h → h.Ns mainGlobals mg → mg d.name = some (.ref fa) →
      ∃ (K : PySem.W.Frag) (fd : FuncData) (sp : Sp), K.In h ∧ (∀ (s : Shared) (u : Value), BindsTo s fd ⟨[u], []⟩ [(x, u)]) ∧
        (∀ (H : Hp) (a : Addr) (ns : List Int), ns.length ≤ n → (∀ z ∈ ns, Builtin.Int.intBits z ≤ 1048576) → SqL K H a (ns.map V.int) → sp [.ref a] H (fun v _ => v = .bl true) E0) ∧
        ∀ base : Heap, K.In base → base.Ns mainGlobals mg → FnG l.prog w K mg base CX0 k fa fd [x] sp) :
    PySem.W.WalkO q loose XP YP l.row.toRowW d [] (fun f vs => PySem.call f vs) := by
  refine Att.attach_callB hn hdf fun w s₀ s₁ mg mb fa o pm cd doc a vs ns G Y ho hd hcd hmg hobj hints hlen hbits hg => ?_
  obtain ⟨K, fd, sp, KI, hb, hsp, hF⟩ := F w mg fa _ Y G.T.g hmg
  exact law_atG KI G.T.g G.T.b G.T.builtins G.T.nolimit hg hobj hints (Nat.le_trans hlen hn2) hr hF hb fun H hS => hsp H a ns hlen hbits hS
end KX

set_option Elab.async false
set_option maxRecDepth 100000
set_option maxHeartbeats 2000000
/-! The bag that a law draws from: what stands in it, what is promised of a draw. -/
namespace KX
open PySem PySem.Spec PyProof.Rows L2
/-- the bag at b: digits, a seed, a count of at most n -/
def Bag (H : Hp) (b : Addr) (n : Int) : Prop := ∃ d m c : Int, H b = some (.lst [.int d, .int m, .int c]) ∧ 0 ≤ d ∧ 0 ≤ m ∧ m < 2 ^ 61 ∧ 0 ≤ c ∧ c ≤ n
/-- all but b is as it was -/
def But (b : Addr) (H H' : Hp) : Prop := ∀ x, x ≠ b → H' x = H x
/-- what was tracked is as it was, but b -/
def Kept (b : Addr) (H H' : Hp) : Prop := ∀ x o, x ≠ b → H x = some o → H' x = some o
theorem But.kept {b : Addr} {H H' : Hp} (h : But b H H') : Kept b H H' := fun x o n e => (h x n).trans e
theorem Kept.refl (b : Addr) (H : Hp) : Kept b H H := fun _ _ _ e => e
theorem Kept.trans {b : Addr} {H H1 H2 : Hp} (h : Kept b H H1) (k : Kept b H1 H2) : Kept b H H2 := fun x o n e => k x o n (h x o n e)
theorem Kept.new {b p : Addr} {H : Hp} {o : HO} (h : H p = none) : Kept b H (upd H p o) := fun x u _ e => by
  rw [upd_ne (ne_of_none e h)]
  exact e
theorem Kept.seq {K : PySem.W.Frag} {b a : Addr} {H H' : Hp} {xs : List V} (k : Kept b H H') (n : a ≠ b) (h : SqL K H a xs) : SqL K H' a xs := by
  rcases h with (h | ⟨o, h⟩) | h
  · exact .inl (.inl (k _ _ n h))
  · exact .inl (.inr ⟨o, k _ _ n h⟩)
  · exact .inr h
theorem Bag.some {H : Hp} {b : Addr} {n : Int} (h : Bag H b n) : ∃ o, H b = some o := let ⟨_, _, _, e, _⟩ := h; ⟨_, e⟩
theorem Bag.ne {H : Hp} {b p : Addr} {n : Int} (h : Bag H b n) (hp : H p = none) : p ≠ b := by
  obtain ⟨o, e⟩ := h.some
  exact (ne_of_none e hp).symm
theorem Bag.put {H : Hp} {b p : Addr} {n : Int} {o : HO} (h : Bag H b n) (hp : p ≠ b) : Bag (upd H p o) b n := by
  obtain ⟨d, m, c, e, r⟩ := h
  exact ⟨d, m, c, (upd_ne hp.symm).trans e, r⟩
theorem Bag.mono {H : Hp} {b : Addr} {n n' : Int} (h : Bag H b n) (hn : n ≤ n') : Bag H b n' := by
  obtain ⟨d, m, c, e, r1, r2, r3, r4, r5⟩ := h
  exact ⟨d, m, c, e, r1, r2, r3, r4, by omega⟩
/-- _law_bag -/
def spBag (K : PySem.W.Frag) : Sp := fun vs H Q _ => ∃ (a : Addr) (ns : List Int) (i : Nat), vs = [.ref a, .int i] ∧ SqL K H a (ns.map V.int) ∧ ns.length ≤ 63 ∧ i ≤ 63 ∧ ∀ b H', H b = none → Kept b H H' → (∀ x, x ≠ b → H' x = H x) → Bag H' b 0 → Q (.ref b) H'
/-- _law_draw -/
def spDraw : Sp := fun vs H Q _ => ∃ (b : Addr) (n many : Int), vs = [.ref b, .int many] ∧ Bag H b n ∧ n < 1000000 ∧ 0 < many ∧ many.natAbs < 2 ^ 200 ∧ ∀ (r : Int) (H' : Hp), 0 ≤ r → r < many → But b H H' → Bag H' b (n + 1) → Q (.int r) H'
/-- _law_of -/
def spOf (K : PySem.W.Frag) : Sp := fun vs H Q _ => ∃ (b l : Addr) (n : Int) (xs : List V), vs = [.ref b, .ref l] ∧ Bag H b n ∧ n < 1000000 ∧ l ≠ b ∧ SqL K H l xs ∧ 0 < xs.length ∧ xs.length ≤ 1000 ∧
  ∀ (i : Nat) (v : V) (H' : Hp), xs[i]? = some v → But b H H' → Bag H' b (n + 1) → Q v H'
/-- the numbers of a draw -/
theorem draw_pow {m c : Int} (hm0 : 0 ≤ m) (hm : m < 2 ^ 61) (hc0 : 0 ≤ c) (hc : c ≤ 1000000) : CPow (m + 611953 * (c + 1)) 2 := by
  refine ⟨by decide, by decide, ?_⟩
  omega
theorem draw_pow3 {x c : Int} (hx0 : 0 ≤ x) (hx : x < 1152921504606846869) (hc0 : 0 ≤ c) (hc : c ≤ 1000000) : CPow (x + 15485863 * (c + 1)) 3 := by
  refine ⟨by decide, by decide, ?_⟩
  omega
theorem fmod_in {x y : Int} (h : 0 < y) : 0 ≤ x.fmod y ∧ x.fmod y < y := by
  rw [Int.fmod_eq_emod_of_nonneg x (Int.le_of_lt h)]
  exact ⟨Int.emod_nonneg x (by omega), Int.emod_lt_of_pos x h⟩
end KX

set_option Elab.async false
set_option maxRecDepth 100000
set_option maxHeartbeats 2000000
/-! Nested data on the abstract heap: it stays while what is tracked stays; bounds of its text. -/
namespace KX
open PySem PySem.Spec PyProof.Rows L2
theorem sqT_same {K : PySem.W.Frag} {H H' : Hp} {a : Addr} {xs : List V} (s : Same H H') (h : SqT K H a xs) : SqT K H' a xs := by
  rcases h with (h | ⟨o, h⟩) | h
  · exact .inl (.inl (s _ _ h))
  · exact .inl (.inr ⟨o, s _ _ h⟩)
  · exact .inr h
mutual
theorem dp_same {K : PySem.W.Frag} {H H' : Hp} (s : Same H H') : ∀ (d : PyData) (v : V), Dp K H v d → Dp K H' v d
  | .none, _, .non => .non
  | .bool _, _, .bl b => .bl b
  | .int _, _, .int i => .int i
  | .str _, _, .str x => .str x
  | .list ds, _, .lst hS ha => .lst (s.seq hS) (dps_same s ds _ ha)
  | .tuple ds, _, .tup hS ha => .tup (sqT_same s hS) (dps_same s ds _ ha)
  | .dict _, _, h => nomatch h
theorem dps_same {K : PySem.W.Frag} {H H' : Hp} (s : Same H H') : ∀ (ds : List PyData) (vs : List V), DpAll K H vs ds → DpAll K H' vs ds
  | [], _, .nil => .nil
  | d :: ds, _, .cons h hs => .cons (dp_same s d _ h) (dps_same s ds _ hs)
end
/-- what may be shown in little room -/
structure Small (d : PyData) (k n : Nat) : Prop where
  sh : d.showable = true
  nd : d.hasDict = false
  dp : d.depth ≤ k
  ln : d.shown.length ≤ n
/-- v is small data on H -/
def Good (K : PySem.W.Frag) (H : Hp) (v : V) : Prop := ∃ d, Dp K H v d ∧ Small d 2 100
theorem Good.same {K : PySem.W.Frag} {H H' : Hp} {v : V} (s : Same H H') (h : Good K H v) : Good K H' v := let ⟨d, h1, h2⟩ := h; ⟨d, dp_same s d v h1, h2⟩
theorem good_int {K : PySem.W.Frag} {H : Hp} {i : Int} (h : i.natAbs < 10 ^ 30) : Good K H (.int i) := by
  refine ⟨.int i, .int i, ⟨decide_eq_true ?_, rfl, Nat.zero_le _, ?_⟩⟩
  · have h2 : i.natAbs < 2 ^ 100 := Nat.lt_trans h (by decide)
    exact Nat.lt_trans (PySem.Flt.log2_lt_of (by decide) h2) (by decide)
  · have q := int_text_length_le10 (k := 30) (by decide) h
    show (Str.ofString (toString i)).length ≤ 100
    rw [PySem.ofString_length]
    omega
theorem textFrom_le {m : Nat} : ∀ (ts : List Str) (k : Nat) (acc : Str), (∀ t ∈ ts, t.length ≤ m) → (textFrom k acc ts).length ≤ acc.length + ts.length * (m + 2)
  | [], k, acc, _ => Nat.le_add_right _ _
  | t :: r, k, acc, h => by
    have q := textFrom_le r (k + 1) (acc ++ (if k > 0 then ", " else "" : String) ++ t) (fun u hu => h u (List.mem_cons_of_mem _ hu))
    have ht := h t List.mem_cons_self
    have e : (acc ++ (if k > 0 then ", " else "" : String) ++ t).length ≤ acc.length + 2 + t.length := by
      rw [Str.length_append, Str.length_append]
      have z : ((if k > 0 then ", " else "" : String) : Str).length ≤ 2 := by
        split <;> decide
      omega
    have f : (t :: r).length * (m + 2) = r.length * (m + 2) + (m + 2) := by rw [List.length_cons, Nat.succ_mul]
    show (textFrom (k + 1) _ r).length ≤ _
    omega
theorem listText_le {m : Nat} {ts : List Str} (h : ∀ t ∈ ts, t.length ≤ m) : (listText ts).length ≤ ts.length * (m + 2) + 2 := by
  have q := textFrom_le ts 0 ("[" : String) h
  unfold listText
  rw [Str.length_append]
  have e1 : (("[" : String) : Str).length = 1 := by decide
  have e2 : (("]" : String) : Str).length = 1 := by decide
  omega
theorem shownAll_mem : ∀ {ds : List PyData} {t : Str}, t ∈ PyData.shownAll ds → ∃ d ∈ ds, t = d.shown
  | [], _, h => nomatch h
  | d :: r, t, h => by
    rcases List.mem_cons.mp (show t ∈ d.shown :: PyData.shownAll r from h) with h | h
    · exact ⟨d, List.mem_cons_self, h⟩
    · obtain ⟨e, he, q⟩ := shownAll_mem h
      exact ⟨e, List.mem_cons_of_mem _ he, q⟩
theorem shownAll_len : ∀ ds : List PyData, (PyData.shownAll ds).length = ds.length
  | [] => rfl
  | d :: r => congrArg (· + 1) (shownAll_len r)
theorem small_all {k n : Nat} : ∀ {ds : List PyData}, (∀ d ∈ ds, Small d k n) → PyData.showableAll ds = true ∧ PyData.hasDictAll ds = false ∧ PyData.depthAll ds ≤ k
  | [], _ => ⟨rfl, rfl, Nat.zero_le _⟩
  | d :: r, h => by
    obtain ⟨h1, h2, h3⟩ := small_all (ds := r) fun e he => h e (List.mem_cons_of_mem _ he)
    have z := h d List.mem_cons_self
    refine ⟨?_, ?_, ?_⟩
    · show (d.showable && PyData.showableAll r) = true
      rw [z.sh, h1]
      rfl
    · show (d.hasDict || PyData.hasDictAll r) = false
      rw [z.nd, h2]
      rfl
    · exact Nat.max_le.mpr ⟨z.dp, h3⟩
/-- a list of small data is small, one deeper -/
theorem small_list {k n m : Nat} {ds : List PyData} (h : ∀ d ∈ ds, Small d k n) (hm : ds.length * (n + 2) + 2 ≤ m) : Small (.list ds) (k + 1) m := by
  obtain ⟨h1, h2, h3⟩ := small_all h
  refine ⟨h1, h2, Nat.succ_le_succ h3, Nat.le_trans (listText_le (m := n) fun t ht => ?_) (by rw [shownAll_len]; exact hm)⟩
  obtain ⟨d, hd, rfl⟩ := shownAll_mem ht
  exact (h d hd).ln
end KX

set_option Elab.async false
set_option maxRecDepth 100000
set_option maxHeartbeats 2000000
/-! Nested data: its type, what isinstance says of it; items of it; small walks. -/
namespace KX
open PySem PySem.Spec PyProof.Rows L2
def tyD : PyData → String
  | .none => "NoneType"
  | .bool _ => "bool"
  | .int _ => "int"
  | .str _ => "str"
  | .list _ => "list"
  | .tuple _ => "tuple"
  | .dict _ => "dict"
def isIntD : PyData → Bool
  | .int _ => true
  | _ => false
def isBoolD : PyData → Bool
  | .bool _ => true
  | _ => false
def isStrD : PyData → Bool
  | .str _ => true
  | _ => false
def isTupD : PyData → Bool
  | .tuple _ => true
  | _ => false
def isLstD : PyData → Bool
  | .list _ => true
  | _ => false
theorem dp_ty {K : PySem.W.Frag} {H : Hp} {v : V} {d : PyData} (h : Dp K H v d) : TyX K H v (.type (tyD d)) := by
  cases h with
  | non => exact .base .non
  | bl b => exact .base (.bl b)
  | int i => exact .base (.int i)
  | str z => exact .base (.str z)
  | tup h _ =>
    rcases h with h | ⟨o, its, n, h1, h2, _⟩
    · rcases h with h | ⟨o, h⟩
      · exact .base (.tup h)
      · exact .fTuple h
    · exact .kTuple h1 h2
  | lst h _ =>
    rcases h with h | ⟨o, its, n, h1, h2, _⟩
    · rcases h with h | ⟨o, h⟩
      · exact .base (.lst h)
      · exact .base (.frz h)
    · exact .kList h1 h2
theorem kit_int {K : PySem.W.Frag} (d : PyData) : PySem.W.kitOne K (.type (tyD d)) (.type "int") = some (isIntD d || isBoolD d) := by cases d <;> kernel_rfl
theorem kit_bool {K : PySem.W.Frag} (d : PyData) : PySem.W.kitOne K (.type (tyD d)) (.type "bool") = some (isBoolD d) := by cases d <;> kernel_rfl
theorem kit_str {K : PySem.W.Frag} (d : PyData) : PySem.W.kitOne K (.type (tyD d)) (.type "str") = some (isStrD d) := by cases d <;> kernel_rfl
theorem kit_tup {K : PySem.W.Frag} (d : PyData) : PySem.W.kitOne K (.type (tyD d)) (.type "tuple") = some (isTupD d) := by cases d <;> kernel_rfl
theorem kit_lst {K : PySem.W.Frag} (d : PyData) : PySem.W.kitOne K (.type (tyD d)) (.type "list") = some (isLstD d) := by cases d <;> kernel_rfl
theorem kit_seq {K : PySem.W.Frag} (d : PyData) : PySem.W.kitAny K (.type (tyD d)) [.type "list", .type "tuple"] = some (isLstD d || isTupD d) := by
  unfold PySem.W.kitAny PySem.W.kitAny PySem.W.kitAny
  rw [kit_lst, kit_tup]
  cases d <;> rfl
theorem ite2' {b : Bool} {A B : Prop} (h1 : b = true → A) (h2 : b = false → B) : if b = true then A else B := by
  cases b
  · exact h2 rfl
  · exact h1 rfl
theorem same_put {H : Hp} {p : Addr} {o : HO} (hp : H p = none) : Same H (upd H p o) := fun x u e => (upd_ne (ne_of_none e hp)).trans e
theorem sqL_same {K : PySem.W.Frag} {H H' : Hp} {a : Addr} {xs : List V} (s : Same H H') (h : SqL K H a xs) : SqL K H' a xs := by
  rcases h with (h | ⟨o, h⟩) | h
  · exact .inl (.inl (s _ _ h))
  · exact .inl (.inr ⟨o, s _ _ h⟩)
  · exact .inr h
theorem dpall_len {K : PySem.W.Frag} {H : Hp} : ∀ {xs : List V} {ds : List PyData}, DpAll K H xs ds → xs.length = ds.length
  | _, _, .nil => rfl
  | _, _, .cons _ h => congrArg (· + 1) (dpall_len h)
theorem dpall_at {K : PySem.W.Frag} {H : Hp} : ∀ {xs : List V} {ds : List PyData} {i : Nat} {x : V}, DpAll K H xs ds → xs[i]? = some x → ∃ d, ds[i]? = some d ∧ Dp K H x d
  | _, _, 0, _, .cons h _, e => ⟨_, rfl, by cases e; exact h⟩
  | _, _, i + 1, _, .cons _ t, e => dpall_at (i := i) t e
theorem dpall_snoc {K : PySem.W.Frag} {H : Hp} {x : V} {d : PyData} (h : Dp K H x d) : ∀ {xs : List V} {ds : List PyData}, DpAll K H xs ds → DpAll K H (xs ++ [x]) (ds ++ [d])
  | _, _, .nil => .cons h .nil
  | _, _, .cons h1 t => .cons h1 (dpall_snoc h t)
theorem dpall_app {K : PySem.W.Frag} {H : Hp} {ys : List V} {es : List PyData} (k : DpAll K H ys es) : ∀ {xs : List V} {ds : List PyData}, DpAll K H xs ds → DpAll K H (xs ++ ys) (ds ++ es)
  | _, _, .nil => k
  | _, _, .cons h1 t => .cons h1 (dpall_app k t)
theorem dpall_take {K : PySem.W.Frag} {H : Hp} : ∀ {xs : List V} {ds : List PyData} (i : Nat), DpAll K H xs ds → DpAll K H (xs.take i) (ds.take i)
  | _, _, 0, _ => .nil
  | _, _, _ + 1, .nil => .nil
  | _, _, i + 1, .cons h t => .cons h (dpall_take i t)
theorem dpall_drop {K : PySem.W.Frag} {H : Hp} : ∀ {xs : List V} {ds : List PyData} (i : Nat), DpAll K H xs ds → DpAll K H (xs.drop i) (ds.drop i)
  | _, _, 0, h => h
  | _, _, _ + 1, .nil => .nil
  | _, _, i + 1, .cons _ t => dpall_drop i t
theorem dpall_set {K : PySem.W.Frag} {H : Hp} {x : V} {d : PyData} (h : Dp K H x d) : ∀ {xs : List V} {ds : List PyData} (i : Nat), DpAll K H xs ds → DpAll K H (xs.set i x) (ds.set i d)
  | _, _, _, .nil => .nil
  | _, _, 0, .cons _ t => .cons h t
  | _, _, i + 1, .cons h1 t => .cons h1 (dpall_set h i t)
theorem dpall_erase {K : PySem.W.Frag} {H : Hp} : ∀ {xs : List V} {ds : List PyData} (i : Nat), DpAll K H xs ds → DpAll K H (xs.eraseIdx i) (ds.eraseIdx i)
  | _, _, _, .nil => .nil
  | _, _, 0, .cons _ t => t
  | _, _, i + 1, .cons h t => .cons h (dpall_erase i t)
theorem dpall_3 {K : PySem.W.Frag} {H : Hp} : ∀ {xs : List V} {ds : List PyData}, DpAll K H xs ds → xs.length = 3 → ∃ x y z a b c, xs = [x, y, z] ∧ ds = [a, b, c] ∧ Dp K H x a ∧ Dp K H y b ∧ Dp K H z c
  | _, _, .cons h1 (.cons h2 (.cons h3 .nil)), _ => ⟨_, _, _, _, _, _, rfl, rfl, h1, h2, h3⟩
  | _, _, .nil, e => nomatch e
  | _, _, .cons _ .nil, e => nomatch e
  | _, _, .cons _ (.cons _ .nil), e => nomatch e
  | _, _, .cons _ (.cons _ (.cons _ (.cons _ _))), e => absurd e (by simp)
/-- a text's data -/
theorem dpall_strs {K : PySem.W.Frag} {H : Hp} : ∀ zs : List Str, DpAll K H (zs.map V.str) (zs.map PyData.str)
  | [] => .nil
  | z :: zs => .cons (.str z) (dpall_strs zs)
/-- one of two walks -/
theorem pi_or {X : Cx} {tg e : Expr} {A B : TI} (ha : PI X tg e A) (hb : PI X tg e B) : PI X tg e (fun σ H R => A σ H R ∨ B σ H R) :=
  ⟨fun pins s σ H R I h => h.elim (ha.run pins s σ H R I) (hb.run pins s σ H R I)⟩
theorem take_at {α : Type} {xs : List α} {i : Nat} {x : α} (h : xs[i]? = some x) : xs.take (i + 1) = xs.take i ++ [x] := by
  rw [List.take_add_one, h]
  rfl
theorem ixN_nat {n j : Nat} (h : j < n) : ixN n (j : Int) = some j := by
  unfold ixN
  rw [if_pos (by omega), if_pos (by omega)]
  rfl
theorem len_is {α : Type} {xs : List α} (j : Nat) (c : decide (V.int ((xs.length : Nat) : Int) = V.int (j : Int)) = true) : xs.length = j := by
  have q := V.int.inj (of_decide_eq_true c)
  omega
theorem len_not {α : Type} {xs : List α} (j : Nat) (c : decide (V.int ((xs.length : Nat) : Int) = V.int (j : Int)) = false) : xs.length ≠ j := fun e => of_decide_eq_false c (by rw [e])
theorem len_isN {α : Type} {xs : List α} (j : Nat) (c : (!decide (V.int ((xs.length : Nat) : Int) = V.int (j : Int))) = false) : xs.length = j := by
  refine len_is j ?_
  revert c
  cases decide (V.int ((xs.length : Nat) : Int) = V.int (j : Int)) <;> intro q
  · cases q
  · rfl
theorem len_notN {α : Type} {xs : List α} (j : Nat) (c : (!decide (V.int ((xs.length : Nat) : Int) = V.int (j : Int))) = true) : xs.length ≠ j := by
  rintro e
  rw [e, decide_eq_true rfl] at c
  cases c
theorem lay_all {k : Nat} : ∀ {ds : List PyData}, (∀ d ∈ ds, d.canLay0 = true ∧ d.depth ≤ k) → PyData.canLayAll0 ds = true ∧ PyData.depthAll ds ≤ k
  | [], _ => ⟨rfl, Nat.zero_le _⟩
  | d :: ds, h => by
    obtain ⟨h1, h2⟩ := h d List.mem_cons_self
    obtain ⟨h3, h4⟩ := lay_all fun e he => h e (List.mem_cons_of_mem _ he)
    refine ⟨?_, ?_⟩
    · show (d.canLay0 && PyData.canLayAll0 ds) = true
      rw [h1, h3]
      rfl
    · show max d.depth (PyData.depthAll ds) ≤ k
      exact Nat.max_le.mpr ⟨h2, h4⟩
theorem list_shaped {ds : List PyData} (h : ∀ d ∈ ds, d.canLay0 = true ∧ d.depth ≤ 60) : SeqAt.shaped (.list ds) = true := by
  obtain ⟨h1, h2⟩ := lay_all h
  unfold SeqAt.shaped
  refine Bool.and_eq_true_iff.mpr ⟨h1, decide_eq_true ?_⟩
  show PyData.depthAll ds + 1 ≤ 64
  omega
end KX

set_option Elab.async false
set_option maxRecDepth 100000
set_option maxHeartbeats 2000000
/-! Names: texts of 1 to 8 letters a to z. -/
namespace KX
open PySem PySem.Spec PyProof.Rows L2
def isLet (c : Nat) : Bool := decide (97 ≤ c) && decide (c ≤ 122)
def isNm (z : Str) : Bool := decide (1 ≤ z.length) && decide (z.length ≤ 8) && z.cps.toList.all isLet
def nmD : PyData → Bool
  | .str z => isNm z
  | _ => false
def okN (d : PyData) : Prop := ∀ z, d = .str z → z.length ≤ 1000
theorem letters_eq : (("abcdefghijklmnopqrstuvwxyz" : Str)).cps.toList = [97, 98, 99, 100, 101, 102, 103, 104, 105, 106, 107, 108, 109, 110, 111, 112, 113, 114, 115, 116, 117, 118, 119, 120, 121, 122] := by decide +kernel
theorem mem_26 (c : Nat) : c ∈ ([97, 98, 99, 100, 101, 102, 103, 104, 105, 106, 107, 108, 109, 110, 111, 112, 113, 114, 115, 116, 117, 118, 119, 120, 121, 122] : List Nat) ↔ (97 ≤ c ∧ c ≤ 122) := by
  constructor
  · intro h
    have k : ∀ x ∈ ([97, 98, 99, 100, 101, 102, 103, 104, 105, 106, 107, 108, 109, 110, 111, 112, 113, 114, 115, 116, 117, 118, 119, 120, 121, 122] : List Nat), 97 ≤ x ∧ x ≤ 122 := by decide
    exact k c h
  · rintro ⟨h1, h2⟩
    obtain ⟨k, rfl⟩ : ∃ k, c = 97 + k := ⟨c - 97, by omega⟩
    have hk : k < 26 := by omega
    have z : ∀ k : Fin 26, 97 + k.val ∈ ([97, 98, 99, 100, 101, 102, 103, 104, 105, 106, 107, 108, 109, 110, 111, 112, 113, 114, 115, 116, 117, 118, 119, 120, 121, 122] : List Nat) := by decide
    exact z ⟨k, hk⟩
theorem mem_letters (c : Nat) : decide (c ∈ (("abcdefghijklmnopqrstuvwxyz" : Str)).cps.toList) = isLet c := by
  rw [letters_eq]
  unfold isLet
  by_cases h : 97 ≤ c ∧ c ≤ 122
  · rw [decide_eq_true h.1, decide_eq_true h.2]
    exact decide_eq_true ((mem_26 c).mpr h)
  · have e : (decide (97 ≤ c) && decide (c ≤ 122)) = false := by
      by_cases h1 : 97 ≤ c
      · rw [decide_eq_true h1, decide_eq_false (fun h2 => h ⟨h1, h2⟩)]
        rfl
      · rw [decide_eq_false h1]
        rfl
    rw [e]
    exact decide_eq_false fun q => h ((mem_26 c).mp q)
theorem one_lt (a b : Nat) : ([a] < [b]) ↔ a < b := by
  constructor
  · intro h
    rcases List.cons_lt_cons_iff.mp h with h | ⟨rfl, h⟩
    · exact h
    · exact absurd h (List.lt_irrefl _)
  · intro h
    exact List.cons_lt_cons_iff.mpr (.inl h)
theorem lo_let (c : Nat) : (!decide ((⟨#[c]⟩ : Str).cps.toList < (("a" : Str)).cps.toList)) = decide (97 ≤ c) := by
  have e : (("a" : Str)).cps.toList = [97] := by decide +kernel
  rw [e]
  show (!decide ([c] < [97])) = _
  by_cases h : 97 ≤ c
  · rw [decide_eq_true h, decide_eq_false (fun q => by have := (one_lt _ _).mp q; omega)]
    rfl
  · rw [decide_eq_false h, decide_eq_true ((one_lt _ _).mpr (by omega))]
    rfl
theorem hi_let (c : Nat) : (!decide ((("z" : Str)).cps.toList < (⟨#[c]⟩ : Str).cps.toList)) = decide (c ≤ 122) := by
  have e : (("z" : Str)).cps.toList = [122] := by decide +kernel
  rw [e]
  show (!decide ([122] < [c])) = _
  by_cases h : c ≤ 122
  · rw [decide_eq_true h, decide_eq_false (fun q => by have := (one_lt _ _).mp q; omega)]
    rfl
  · rw [decide_eq_false h, decide_eq_true ((one_lt _ _).mpr (by omega))]
    rfl
theorem nm_off {d : PyData} (h : isStrD d = false) : nmD d = false := by cases d <;> first | rfl | cases h
theorem nm_short {z : Str} (h : z.length < 1) : isNm z = false := by
  unfold isNm
  rw [decide_eq_false (by omega)]
  rfl
theorem nm_long {z : Str} (h : z.length > 8) : isNm z = false := by
  unfold isNm
  rw [decide_eq_false (show ¬ z.length ≤ 8 by omega), Bool.and_false]
  rfl
theorem nm_mid {z : Str} (h1 : ¬ z.length < 1) (h2 : ¬ z.length > 8) : isNm z = z.cps.toList.all isLet := by
  unfold isNm
  rw [decide_eq_true (by omega), decide_eq_true (by omega)]
  rfl
/-- what is promised of is_name -/
def spName (K : PySem.W.Frag) : Sp := fun vs H Q _ => ∃ (x : V) (d : PyData), vs = [x] ∧ Dp K H x d ∧ okN d ∧ ∀ H', Same H H' → Q (.bl (nmD d)) H'
def spInt (K : PySem.W.Frag) : Sp := fun vs H Q _ => ∃ (x : V) (d : PyData), vs = [x] ∧ Dp K H x d ∧ Q (.bl (isIntD d)) H
theorem str_dec (u v : Str) : decide (V.str u = V.str v) = decide (u = v) := by
  by_cases h : u = v
  · rw [h, decide_eq_true rfl, decide_eq_true rfl]
  · rw [decide_eq_false (fun q => h (V.str.inj q)), decide_eq_false h]
theorem str_dec' (u v : Str) : decide (V.str u = V.str v) = decide (v = u) := by
  rw [str_dec]
  by_cases h : u = v
  · rw [h]
  · rw [decide_eq_false h, decide_eq_false (fun q => h q.symm)]
end KX

set_option Elab.async false
set_option maxRecDepth 100000
set_option maxHeartbeats 2000000
/-! A walk over a thing that is a list or a tuple. -/
namespace KX
open PySem PySem.Spec PyProof.Rows L2
section
variable {X : Cx} {tg : Expr}
def Sq (K : PySem.W.Frag) (H : Hp) (a : Addr) (xs : List V) : Prop := SqL K H a xs ∨ SqT K H a xs
theorem Sq.same {K : PySem.W.Frag} {H H' : Hp} {a : Addr} {xs : List V} (s : Same H H') (h : Sq K H a xs) : Sq K H' a xs := h.imp (sqL_same s) (sqT_same s)
def iSeq (K : PySem.W.Frag) (tl : TE) : TI := fun σ H R => tl σ H fun x H1 => ∃ a xs, x = .ref a ∧ Sq K H1 a xs ∧ ∀ J, Walk J xs.length (fun G => Same H1 G) (YAt xs) → R J H1
theorem pi_seq {l : Expr} {tl : TE} (hl : PE X l tl) : PI X tg l (iSeq X.K tl) := by
  refine ⟨fun pins s σ H R I h => ?_⟩
  refine thn (hl.run pins s σ H _ I h) fun v s1 ⟨x, H1, I1, r1, q1⟩ => ?_
  obtain ⟨a, xs, e, hq, q⟩ := q1
  subst e
  cases r1
  rcases hq with hq | hq
  · obtain ⟨its, rv, p, hz⟩ := I1.list hq
    refine wpAny_pyIter_list p.isList ?_
    refine ⟨s1.heap.objs.size, [s1.heap.objs.size], _, _, H1, rfl, I1.kept (t' := s1.toks) fun b o e => Heap.get?_push_of_some _ e, turn_list a _, ⟨_, Heap.get?_push_size _ rfl, rfl, rfl⟩, fun b hb => ?_, q _ (walk_list.mono (fun G z => sqL_same z hq) fun _ _ _ _ _ _ y => y)⟩
    have e : b = s1.heap.objs.size := by simpa using hb
    subst e
    exact I1.fpOk (Nat.le_refl _) (I1.hok.fresh (Nat.le_refl _))
  · obtain ⟨its, rv, p, hz⟩ := I1.tuple hq
    refine wpAny_pyIter_tuple (show s1.heap.IsTuple a its.toArray from p) ?_
    refine ⟨s1.heap.objs.size, [s1.heap.objs.size], _, _, H1, rfl, I1.kept (t' := s1.toks) fun b o e => Heap.get?_push_of_some _ e, turn_tuple a _, ⟨_, Heap.get?_push_size _ rfl, rfl, rfl⟩, fun b hb => ?_, q _ (walk_tup.mono (fun G z => sqT_same z hq) fun _ _ _ _ _ _ y => y)⟩
    have e : b = s1.heap.objs.size := by simpa using hb
    subst e
    exact I1.fpOk (Nat.le_refl _) (I1.hok.fresh (Nat.le_refl _))
def iEnumS (K : PySem.W.Frag) (ta : TA) : TI := fun σ H R => ta σ H fun vs H1 => ∃ a xs, vs = [.ref a] ∧ Sq K H1 a xs ∧ ∀ J, Walk J xs.length (fun G => Same H1 G) (YPair (fun i => some (.int (i : Nat))) (fun i => xs[i]?)) → R J H1
theorem pi_enumS {e : Expr} {ta : TA} {p pos tpos : Pos} {elts : List Expr} {kk : Nat} (hg : Gl X "enumerate") (hm : X.mg "enumerate" = none) (ha : PA X [e] ta) (hs : starEach [e] X.env = [(false, eval e X.env)] := by rfl) :
    PI X (.Tuple elts kk tpos) (.Call (.Name "enumerate" p) [e] [] pos) (iEnumS X.K ta) := by
  refine ⟨fun pins s σ H R I h => Call_ (ld_blt I hg hm boot_enumerate (PyProof.Rows.callWith_type1 (thn (ha.run pos pins s σ H _ I h) fun us s1 hh => ?_) hs rfl))⟩
  obtain ⟨vs, H1, I1, r1, a, xs, rfl, hq, q⟩ := hh
  obtain rfl := Vals.ref1 r1
  rcases hq with hq | hq
  · obtain ⟨its, rv, p', hz⟩ := I1.list hq
    refine call_enumerate_list p'.isList fun h' he hit hsz hk => wpAny_pyIter_enum he ?_
    have I2 : Inv X pins σ H1 { s1 with heap := h' } := I1.kept (t' := s1.toks) hk
    refine ⟨s1.heap.objs.size + 1, [s1.heap.objs.size + 1, s1.heap.objs.size], _, _, H1, rfl, I2, turn_enum a (s1.heap.objs.size + 1) s1.heap.objs.size, ⟨⟨.none, he⟩, hit, Nat.succ_ne_self _⟩, fun b hb => ?_, q _ (walk_enum.mono (fun G z => sqL_same z hq) fun _ _ _ _ _ _ y => y)⟩
    have hle : s1.heap.objs.size ≤ b := by
      rcases List.mem_cons.mp hb with rfl | hb
      · exact Nat.le_succ _
      · rw [List.mem_singleton.mp hb]
        exact Nat.le_refl _
    exact I1.fpOk hle (I1.hok.fresh hle)
  · obtain ⟨its, rv, p', hz⟩ := I1.tuple hq
    refine enum_tup p' fun h' he hit hk => wpAny_pyIter_enum he ?_
    have I2 : Inv X pins σ H1 { s1 with heap := h' } := I1.kept (t' := s1.toks) hk
    refine ⟨s1.heap.objs.size + 1, [s1.heap.objs.size + 1, s1.heap.objs.size], _, _, H1, rfl, I2, turn_enumT a (s1.heap.objs.size + 1) s1.heap.objs.size, ⟨⟨.none, he⟩, hit, Nat.succ_ne_self _⟩, fun b hb => ?_, q _ (walk_enumT.mono (fun G z => sqT_same z hq) fun _ _ _ _ _ _ y => y)⟩
    have hle : s1.heap.objs.size ≤ b := by
      rcases List.mem_cons.mp hb with rfl | hb
      · exact Nat.le_succ _
      · rw [List.mem_singleton.mp hb]
        exact Nat.le_refl _
    exact I1.fpOk hle (I1.hok.fresh hle)
/-- xs[i] of a list or a tuple -/
theorem atI_len {α β : Type} (f : α → β) (xs : List α) (i : Int) : atI (xs.map f) i = (atI xs i).map f := by
  unfold atI
  rw [List.length_map]
  cases ixN xs.length i with
  | none => rfl
  | some j =>
    show (xs.map f)[j]? = (xs[j]?).map f
    rw [List.getElem?_map]
end
end KX
namespace KX
open PySem PySem.Spec PyProof.Rows L2
theorem ix_of {K : PySem.W.Frag} {H : Hp} {a : Addr} {xs : List V} {i : Int} {v : V} {Q : VK} (h : Sq K H a xs) (e : atI xs i = some v) (q : Q v H) : rIx K (.ref a) (.int i) H Q :=
  h.elim (fun h => .inl ⟨a, xs, i, v, rfl, rfl, h, e, q⟩) fun h => .inr (.inl ⟨a, xs, i, v, rfl, rfl, h, e, q⟩)
/-- the place ahead of i, around -/
def pred (n i : Nat) : Nat := if i = 0 then n - 1 else i - 1
theorem pred_lt {n i : Nat} (h : i < n) : pred n i < n := by unfold pred; split <;> omega
theorem ixN_pred {n i : Nat} (h : i < n) : ixN n ((i : Int) - 1) = some (pred n i) := by
  unfold ixN pred
  by_cases h0 : i = 0
  · subst h0
    rw [if_neg (by omega), if_pos (by omega), if_pos rfl]
    congr 1
    omega
  · rw [if_pos (by omega), if_pos (by omega), if_neg h0]
    congr 1
    omega
theorem atI_pred {α : Type} {xs : List α} {i : Nat} (h : i < xs.length) : atI xs ((i : Int) - 1) = xs[pred xs.length i]? := by
  unfold atI
  rw [ixN_pred h]
  rfl
theorem range_at {n i : Nat} : (List.range n).take n = List.range n := by rw [List.take_of_length_le (by rw [List.length_range]; exact Nat.le_refl _)]
theorem map_range_succ {α : Type} (f : Nat → α) (i : Nat) : (List.range (i + 1)).map f = (List.range i).map f ++ [f i] := by
  rw [List.range_succ, List.map_append]
  rfl
theorem walk_rng {n : Nat} : Walk (Itr 0 n) n (fun _ => True) (fun i H x H' => H' = H ∧ x = .int ((i : Nat) : Int)) :=
  walk_range.mono (fun _ h => h) fun i H x H' _ _ y => ⟨y.1, by rw [y.2]; show V.int (0 + (i : Int)) = _; rw [Int.zero_add]⟩
def rLenQ (K : PySem.W.Frag) : List V → Hp → VK → Prop := fun xs H Q => ∃ p ys, xs = [.ref p] ∧ (SqL K H p ys ∨ SqT K H p ys) ∧ Q (.int ys.length) H
end KX

set_option Elab.async false
set_option maxRecDepth 100000
set_option maxHeartbeats 2000000
/-! len, bool, abs, in, ==, >>, + of own instances, by own methods; max(.., default=). -/
namespace KX
open PySem PySem.Spec PySem.Calls PyProof.Rows L2
section
variable {X : Cx} {pins : List (Addr × Obj)} {σ : L2.St} {H : Hp} {s : Shared} {CX : CXT} {k : Nat} {f C : Addr} {fd : FuncData} {ps : List Str} {sp : Sp} {E : XK}
/-- f called by a built-in, one call deep -/
theorem run_in1 {us : List Value} {vs : List V} {Q : VK} (F : FnOk X.prog X.w X.K X.mg X.base CX k f fd ps sp) (hr : Room (k + 1) X.A) (hb : Binds X.K fd ps []) (hx : Passes CX X E) (I : Inv X pins σ H s) (r : Vals vs us) (h : sp vs H Q E) :
    wpAny (model X.prog X.w) X.A.in1 (call (.ref f) us) (EP X pins σ Q) X.xe s := by
  have hl : (us ++ []).length = ps.length := by
    rw [List.append_nil, ← r.length]
    exact F.len _ _ _ _ h
  have hbi := hb s us I.kIn hl
  rw [List.append_nil] at hbi
  refine wpAny_call (codeAny_mono (F.run X.A.in1 X.stack s H ⟨us, []⟩ us vs Q E hr.in1 I.env0.in1 hbi r h) fun res s' z => ?_)
  match res, z with
  | .error e, z => exact hx pins σ H s e s' I z
  | .ok (.ret u), z => exact I.after z
  | .ok .next, z => exact False.elim z
  | .ok .brk, z => exact False.elim z
  | .ok .cont, z => exact False.elim z
theorem run_in0 {us : List Value} {vs : List V} {Q : VK} (F : FnOk X.prog X.w X.K X.mg X.base CX k f fd ps sp) (hr : Room k X.A) (hb : Binds X.K fd ps []) (hx : Passes CX X E) (I : Inv X pins σ H s) (r : Vals vs us) (h : sp vs H Q E) :
    wpAny (model X.prog X.w) X.A (call (.ref f) us) (EP X pins σ Q) X.xe s :=
  run_fn (dvs := []) F hr hb .nil hx I r (by rw [List.append_nil]; exact h)
/-- an instance of C that H tracks -/
abbrev InsT (H : Hp) (a C : Addr) : Prop := ∃ dx fs, H a = some (.ins C dx fs)
theorem insT_at (I : Inv X pins σ H s) {a : Addr} (h : InsT H a C) : ∃ ox od, PySem.W.InstAt s.heap a ox C od := by
  obtain ⟨dx, fs, h⟩ := h
  obtain ⟨mA, O, _⟩ := ins_get I.hok h
  obtain ⟨od, J, _⟩ := O.look
  exact ⟨_, _, J⟩
/-- len(o) -/
theorem call_lenO (m : Meth X.K C "__len__" f) (F : FnOk X.prog X.w X.K X.mg X.base CX k f fd ps sp) (hr : Room (k + 1) X.A) (hb : Binds X.K fd ps []) (hx : Passes CX X E) :
    CallR X (.builtin "len") (fun xs H Q => ∃ a, xs = [.ref a] ∧ InsT H a C ∧ sp [.ref a] H (fun v H' => ∃ n : Nat, v = .int n ∧ n < 2 ^ 62 ∧ Q (.int n) H') E) := by
  intro pins s σ H xs us Q I r h
  obtain ⟨a, rfl, hi, q⟩ := h
  obtain rfl := Vals.ref1 r
  obtain ⟨ox, od, J⟩ := insT_at I hi
  obtain ⟨m', fr⟩ := I.fr
  refine PySem.W.len_K fr I.mod.kin J m.at_ m.fn (wpAny_mono (run_in1 F hr hb hx I r q) (fun u s' z => ?_) fun _ _ z => z)
  obtain ⟨v, H', I', rv, n, rfl, hn, q'⟩ := z
  obtain ⟨t, rfl⟩ := rv
  exact ⟨⟨by omega, by omega⟩, .int n, H', I'.tok _, ⟨_, rfl⟩, q'⟩
/-- the truth of o -/
theorem truthy_O (m : Meth X.K C "__bool__" f) (F : FnOk X.prog X.w X.K X.mg X.base CX k f fd ps sp) (hr : Room k X.A) (hb : Binds X.K fd ps []) (hx : Passes CX X E) {a : Addr} {Q : Bool → Hp → Prop} (I : Inv X pins σ H s) (hi : InsT H a C)
    (q : sp [.ref a] H (fun v H' => ∃ b, v = .bl b ∧ Q b H') E) : wpAny (model X.prog X.w) X.A (truthy (.ref a)) (TP X pins σ Q) X.xe s := by
  obtain ⟨ox, od, J⟩ := insT_at I hi
  obtain ⟨m', fr⟩ := I.fr
  refine PySem.W.truthy_K fr I.mod.kin J m.at_ m.fn (wpAny_mono (run_in0 F hr hb hx I (us := [.ref a]) (vs := [.ref a]) (.cons rfl .nil) q) (fun u s' z => ?_) fun _ _ z => z)
  obtain ⟨v, H', I', rv, b, rfl, q'⟩ := z
  cases (show u = Value.bool b from rv)
  exact ⟨H', I', q'⟩
/-- x in o -/
theorem op_inO (m : Meth X.K C "__contains__" f) (F : FnOk X.prog X.w X.K X.mg X.base CX k f fd ps sp) (hr : Room k X.A) (hb : Binds X.K fd ps []) (hx : Passes CX X E) :
    OpR X (compareOp .In) (fun x y H Q => ∃ a, y = .ref a ∧ InsT H a C ∧ sp [.ref a, x] H (fun v H' => ∃ b, v = .bl b ∧ Q (.bl b) H') E) := by
  intro pins s σ H x y v u Q I rx ry h
  obtain ⟨a, rfl, hi, q⟩ := h
  cases (show u = Value.ref a from ry)
  obtain ⟨ox, od, J⟩ := insT_at I hi
  obtain ⟨m', fr⟩ := I.fr
  refine PySem.W.in_K fr I.mod.kin J m.at_ m.fn (wpAny_mono (run_in0 F hr hb hx I (us := [.ref a, v]) (vs := [.ref a, x]) (.cons rfl (.cons rx .nil)) q) (fun u s' z => ?_) fun _ _ z => z)
  obtain ⟨v', H', I', rv, b, rfl, q'⟩ := z
  cases (show u = Value.bool b from rv)
  exact wpAny_truthy_bool ⟨.bl b, H', I', rfl, q'⟩
theorem op_notInO (m : Meth X.K C "__contains__" f) (F : FnOk X.prog X.w X.K X.mg X.base CX k f fd ps sp) (hr : Room k X.A) (hb : Binds X.K fd ps []) (hx : Passes CX X E) :
    OpR X (compareOp .NotIn) (fun x y H Q => ∃ a, y = .ref a ∧ InsT H a C ∧ sp [.ref a, x] H (fun v H' => ∃ b, v = .bl b ∧ Q (.bl (!b)) H') E) := by
  intro pins s σ H x y v u Q I rx ry h
  obtain ⟨a, rfl, hi, q⟩ := h
  cases (show u = Value.ref a from ry)
  obtain ⟨ox, od, J⟩ := insT_at I hi
  obtain ⟨m', fr⟩ := I.fr
  refine PySem.W.notIn_K fr I.mod.kin J m.at_ m.fn (wpAny_mono (run_in0 F hr hb hx I (us := [.ref a, v]) (vs := [.ref a, x]) (.cons rfl (.cons rx .nil)) q) (fun u s' z => ?_) fun _ _ z => z)
  obtain ⟨v', H', I', rv, b, rfl, q'⟩ := z
  cases (show u = Value.bool b from rv)
  exact wpAny_truthy_bool ⟨.bl (!b), H', I', rfl, q'⟩
/-- abs(o) -/
theorem call_absO (m : Meth X.K C "__abs__" f) (F : FnOk X.prog X.w X.K X.mg X.base CX k f fd ps sp) (hr : Room (k + 1) X.A) (hb : Binds X.K fd ps []) (hx : Passes CX X E) :
    CallR X (.builtin "abs") (fun xs H Q => ∃ a, xs = [.ref a] ∧ InsT H a C ∧ sp [.ref a] H Q E) := by
  intro pins s σ H xs us Q I r h
  obtain ⟨a, rfl, hi, q⟩ := h
  obtain rfl := Vals.ref1 r
  obtain ⟨ox, od, J⟩ := insT_at I hi
  refine call_function_entry kind_abs plain_abs entry_abs (args_abs _) ?_
  unfold Builtin.«abs»
  refine wpAny_bind (m := oneArg "abs" _) (wpAny_pure ?_)
  refine wpAny_bind (m := callSpecial? (.ref a) (Str.ofString "__abs__")) ?_
  refine PySem.W.special_fn I.kIn J m.at_ (beq_iff_eq.mp m.fn) ?_
  exact wpAny_mono (run_in1 F hr hb hx I r q) (fun u s' z => wpAny_pure ⟨u, rfl, z⟩) fun _ _ z => z
/-- max(xs, default=d), of whole numbers -/
def rMaxD (K : PySem.W.Frag) : List V → List V → Hp → VK → Prop := fun xs zs H Q => ∃ (a : Addr) (ns : List Int) (d : Int), xs = [.ref a] ∧ zs = [.int d] ∧ SqL K H a (ns.map V.int) ∧
  Q (.int (match ns with | [] => d | n :: r => r.foldl max n)) H
theorem cr_maxD (hc : X.calm = true) (hu : X.A.units + 64 < cLine) : CallRK X (.builtin "max") [Str.ofString "default"] (rMaxD X.K) := by
  intro pins s σ H xs zs us ws Q I r rz h
  obtain ⟨a, ns, d, rfl, rfl, hs, q⟩ := h
  obtain rfl := Vals.ref1 r
  obtain ⟨ud, rfl, td, rfl⟩ := vals1 rz
  obtain ⟨its, rv, hl, _⟩ := I.list hs
  obtain ⟨as, ra⟩ : ∃ as, ReadsAll s.heap its (ns.map PyData.int) as := by
    clear hs hl q
    rename_i hlen
    clear hlen
    induction ns generalizing its with
    | nil => cases rv; exact ⟨_, .nil⟩
    | cons n r ih =>
      cases rv with
      | cons h t =>
        obtain ⟨tk, rfl⟩ := h
        obtain ⟨as, ra⟩ := ih _ t
        exact ⟨_, .cons (.int _ _) ra⟩
  have dep : PyData.depthAll (ns.map PyData.int) = 0 := by
    clear ra hs q rv hl
    rename_i hlen
    clear hlen
    induction ns with
    | nil => rfl
    | cons n r ih => exact Nat.le_zero.mp (Nat.max_le.mpr ⟨Nat.le_refl _, Nat.le_of_eq ih⟩)
  refine PySem.W.max_list_default (I.ok.hd hc) hl.isList (by simpa using ra) ⟨fun x hx y hy => by
    obtain ⟨i, _, rfl⟩ := List.mem_map.mp hx
    obtain ⟨j, _, rfl⟩ := List.mem_map.mp hy
    rfl, fun x hx => by
    obtain ⟨i, _, rfl⟩ := List.mem_map.mp hx
    exact nofun⟩ (by rw [dep]; omega) (fun e h' tk kp => ?_) (fun y ys i v h' tk bs e hv hr kp => ?_)
  · have e0 : ns = [] := List.map_eq_nil_iff.mp e
    subst e0
    exact ⟨.int d, H, I.kept (t' := tk) kp, ⟨_, rfl⟩, q⟩
  · cases ns with
    | nil => cases e
    | cons n r =>
      cases e
      rw [PySem.W.maxD_ints] at hr
      cases hr
      exact ⟨.int _, H, I.kept (t' := tk) kp, ⟨_, rfl⟩, q⟩
/-- bool(o) -/
theorem bool_in {prog : Program} {w : World} (x : Value) : MeetsIn prog w (Builtin.«bool.__new__» ⟨[.type "bool", x], []⟩) (fun A R s => wpAny (model prog w) A.in1 (truthy x) (fun b s' => R (.ok (.ret (.bool b))) s') (fun e s' => R (.error e) s') s) :=
  .of_wp fun A R s h => by
    have f1 := F.conv_sub_bool
    obtain ⟨hp, g, d, tk, os⟩ := s
    repeat (any_goals (first | assumption | (with_reducible refine wpAny_bind (wpAny_mono h (fun b s' z => ?_) fun _ _ e => e)) | wp_step))
    exact ⟨_, rfl, z⟩
theorem op_eqO (m : Meth X.K C "__eq__" f) (F : FnOk X.prog X.w X.K X.mg X.base CX k f fd ps sp) (hr : Room k X.A) (hb : Binds X.K fd ps []) (hx : Passes CX X E) (hu : X.A.units < cLine) :
    OpR X (compareOp .Eq) (fun x y H Q => ∃ (a : Addr) (t : Value), x = .ref a ∧ InsT H a C ∧ TyX X.K H y t ∧ PySem.W.notFirst X.K C t = true ∧ sp [.ref a, y] H (fun v H' => ∃ b, v = .bl b ∧ Q (.bl b) H') E) := by
  intro pins s σ H x y v u Q I rx ry h
  obtain ⟨a, t, rfl, hi, ty, hn, q⟩ := h
  cases (show v = Value.ref a from rx)
  obtain ⟨ox, od, J⟩ := insT_at I hi
  obtain ⟨m', fr⟩ := I.fr
  obtain ⟨P, Z, p, _⟩ := kit_of I ry ty
  show wpAny _ _ (richCompare .Eq (.ref a) u) _ _ _
  refine PySem.W.cmp_K (op := .Eq) hu fr I.mod.kin J (Z.ty _ _ I.kIn p) hn m.at_ m.fn (wpAny_mono (run_in0 F hr hb hx I (us := [.ref a, u]) (vs := [.ref a, y]) (.cons rfl (.cons ry .nil)) q) (fun w s' z => ?_) fun _ _ z => z)
  obtain ⟨v', H', I', rv, b, rfl, q'⟩ := z
  cases (show w = Value.bool b from rv)
  exact ⟨.bl b, H', I', rfl, q'⟩
/-- bool(x), by the truth of x -/
theorem bool_of {x : Value} {Q : Bool → Hp → Prop} {R : VK} (h : wpAny (model X.prog X.w) X.A.in1.in1 (truthy x) (TP X pins σ Q) X.xe s) (q : ∀ b H', Q b H' → R (.bl b) H') : wpAny (model X.prog X.w) X.A (call (.type "bool") [x]) (EP X pins σ R) X.xe s :=
  callType_newIn F.called_bool F.newNe_bool (F.typeCall_bool_1 x) (F.newCall_bool_1 x) (fun obj => F.args_object_init_2 obj x) F.entry_bool_new (bool_in x) (wpAny_mono h (fun b s' z => by
    obtain ⟨H', I', q'⟩ := z
    exact ⟨PySem.typeIs_bool _ _, .bl b, H', I', rfl, q b H' q'⟩) fun _ _ z => z)
theorem run_in22 {us : List Value} {vs : List V} {Q : VK} (F : FnOk X.prog X.w X.K X.mg X.base CX k f fd ps sp) (hr : Room (k + 2) X.A) (hb : Binds X.K fd ps []) (hx : Passes CX X E) (I : Inv X pins σ H s) (r : Vals vs us) (h : sp vs H Q E) :
    wpAny (model X.prog X.w) X.A.in1.in1 (call (.ref f) us) (EP X pins σ Q) X.xe s := by
  have hl : (us ++ []).length = ps.length := by
    rw [List.append_nil, ← r.length]
    exact F.len _ _ _ _ h
  have hbi := hb s us I.kIn hl
  rw [List.append_nil] at hbi
  refine wpAny_call (codeAny_mono (F.run X.A.in1.in1 X.stack s H ⟨us, []⟩ us vs Q E hr.in1.in1 I.env0.in1.in1 hbi r h) fun res s' z => ?_)
  match res, z with
  | .error e, z => exact hx pins σ H s e s' I z
  | .ok (.ret u), z => exact I.after z
  | .ok .next, z => exact False.elim z
  | .ok .brk, z => exact False.elim z
  | .ok .cont, z => exact False.elim z
/-- bool(o) -/
theorem call_boolO (m : Meth X.K C "__bool__" f) (F : FnOk X.prog X.w X.K X.mg X.base CX k f fd ps sp) (hr : Room (k + 2) X.A) (hb : Binds X.K fd ps []) (hx : Passes CX X E) :
    CallR X (.type "bool") (fun xs H Q => ∃ a, xs = [.ref a] ∧ InsT H a C ∧ sp [.ref a] H (fun v H' => ∃ b, v = .bl b ∧ Q (.bl b) H') E) := by
  intro pins s σ H xs us Q I r h
  obtain ⟨a, rfl, hi, q⟩ := h
  obtain rfl := Vals.ref1 r
  obtain ⟨ox, od, J⟩ := insT_at I hi
  obtain ⟨m', fr⟩ := I.fr
  refine bool_of (Q := fun b H' => Q (.bl b) H') (PySem.W.truthy_K fr I.mod.kin J m.at_ m.fn (wpAny_mono (run_in22 F hr hb hx I r q) (fun u s' z => ?_) fun _ _ z => z)) fun b H' q => q
  obtain ⟨v, H', I', rv, b, rfl, q'⟩ := z
  cases (show u = Value.bool b from rv)
  exact ⟨H', I', q'⟩
/-- bool(t), t a tuple -/
theorem call_boolT : CallR X (.type "bool") (fun xs H Q => ∃ (a : Addr) (zs : List V), xs = [.ref a] ∧ SqT X.K H a zs ∧ Q (.bl (!zs.isEmpty)) H) := by
  intro pins s σ H xs us Q I r h
  obtain ⟨a, zs, rfl, hq, q⟩ := h
  obtain rfl := Vals.ref1 r
  obtain ⟨its, rv, pl, hz⟩ := I.tuple hq
  have hl := line63
  have hlen := rv.length
  exact bool_of (Q := fun b H' => Q (.bl b) H') (truthy_tuple pl (by simp only [List.size_toArray]; omega) ⟨H, I.tok _, by rw [isEmpty_of rv]; exact q⟩) fun b H' q => q
end
end KX

set_option Elab.async false
set_option maxRecDepth 100000
set_option maxHeartbeats 2000000
namespace KX
open PySem PySem.Spec PyProof.Rows L2
theorem call_isEdT {X : Cx} {a D d : Addr} {oe : Obj} {pn : List (Addr × Obj)} {bmB : List Value} {nid : String} (T : ExK X.K D bmB nid) (sp : PySem.W.specialIn X.K (.builtin "object.__class__") "__get__" = some (some (.builtin "getset_descriptor.__get__"))) (tk : PySem.W.takesIn X.K (.builtin "object.__class__") = some true)
    (hz : Zc (.ref D) (some d) oe) (hf : ∃ vs, oe.data = .fields vs) : CallR (X.suite a ((a, oe) :: pn)) (.builtin "isinstance") (fun xs H Q => (∃ fs, H d = some (.xd fs)) ∧ ∃ (tp : Addr) (cs : List V) (us : List Value) (b : Bool), xs = [.ref a, .ref tp] ∧ H tp = some (.tup cs) ∧ Paired ClsV cs us ∧ PySem.W.kitAny X.K (.ref D) us = some b ∧ Q (.bl b) H) := by
  intro pins s σ H xs us Q I r h
  obtain ⟨⟨fs, hd⟩, tp, cs, ws, b, rfl, hT, k, e, q⟩ := h
  obtain ⟨u1, u2, rfl, r1, r2⟩ := vals2 r
  cases (show u2 = Value.ref tp from r2)
  cases (show u1 = Value.ref a from r1)
  obtain ⟨_, its, rv, o, h1, h2, n, h3⟩ := (show ObjOk X.prog X.w H s.heap tp (.tup cs) from I.hok tp _ hT)
  obtain rfl := ClsV.all k rv
  obtain ⟨oc, od2, dt, sl⟩ := o
  simp only at h2 h3
  subst h2 h3
  obtain ⟨hget, _⟩ := I.pin (a, oe) (List.mem_append.mpr (.inl List.mem_cons_self))
  obtain ⟨vs, hv⟩ := hf
  have hx : ObjOk X.prog X.w H s.heap d (.xd fs) := I.hok d _ hd
  obtain ⟨mA, hns, rel⟩ := hx
  obtain ⟨od, ho, _⟩ := lookIn_ns hns
  obtain ⟨cd, hc, _⟩ := PySem.W.any_some T.hd
  have J : PySem.W.InstAt s.heap a oe D (some od) := ⟨hget, hz.1, by unfold PySem.W.notCls; rw [hv] <;> rfl, by rw [hz.2]; exact ho⟩
  exact PySem.W.kia_tup (PySem.W.kitx_exc (od := some od) (by rw [hc] <;> rfl) T.ga T.gg T.exC T.ha sp tk T.hm) I.kIn J h1 e (fun z => nomatch z) fun tk' => ⟨.bl b, H, I.tok tk', rfl, q⟩
theorem pss_only {X : Cx} {st : List Stmt} {p : Prop} {t : TS} (h : p → PSs X st t) : PSs X st (fun D σ H => p ∧ t D σ H) := ⟨fun pins s σ H D I q => (h q.1).run pins s σ H D I q.2⟩
theorem pss_no {X : Cx} {st : List Stmt} : PSs X st (fun _ _ _ => False) := ⟨fun _ _ _ _ _ _ q => q.elim⟩
def excBody : List Stmt → List Stmt
  | .Try _ (.ExceptHandler _ _ b _ :: _) _ _ _ :: _ => b
  | _ => []
/-- a suite told at the place where it is entered -/
def tsAt (X : Cx) (st : List Stmt) (a : Addr) (cls : Value) (d : Option Addr) : TS := fun D σ H => ∃ t, (∀ (oe : Obj) (pn : List (Addr × Obj)), L2N.Zn cls d oe → (∃ vs, oe.data = .fields vs) → PSs (X.suite a ((a, oe) :: pn)) st t) ∧ t D σ H
theorem tsAt_ok {X : Cx} {st : List Stmt} {a : Addr} {cls : Value} {d : Option Addr} {oe : Obj} {pn : List (Addr × Obj)} (hz : L2N.Zn cls d oe) (hf : ∃ vs, oe.data = .fields vs) : PSs (X.suite a ((a, oe) :: pn)) st (tsAt X st a cls d) :=
  ⟨fun pins s σ H D I q => (q.choose_spec.1 oe pn hz hf).run pins s σ H D I q.choose_spec.2⟩
theorem takesN0 {X : Cx} : L2N.Takes X (fun _ _ _ _ => False) := fun _ _ ⟨_, _, _, _, _, _, _, _, _, _, _, _, _, _, _, _, w⟩ => w.elim
end KX

set_option Elab.async false
set_option maxRecDepth 100000
set_option maxHeartbeats 2000000
/-! Defs called in an except suite that look at the exception itself: the promise is made for the pinned object p. -/
namespace KX
open PySem PySem.Spec PyProof.Rows L2 L2H
structure FnP0 (p : Addr × Obj) (P : Program) (w : World) (K : PySem.W.Frag) (mg : Str → Option Value) (base : Heap) (CX : CXT) (k : Nat) (f : Addr) (fd : FuncData) (ps : List Str) (sp : Sp) : Prop where
  len : ∀ vs H Q E, sp vs H Q E → vs.length = ps.length
  run : ∀ (A : Around) (outer : List Env) (s : Shared) (H : Hp) (args : Args) (us : List Value) (vs : List V) (Q : VK) (E : XK), RoomH k A → Hot1 A p → PinOk outer H s p → Env0 P w K mg base A outer s H → BindsTo s fd args (ps.zip us) → Vals vs us → sp vs H Q E →
    codeAny (model P w) A (.call (.ref f) args) (CR CX outer P w H s Q E) s
section
variable {p : Addr × Obj} {P : Program} {w : World} {K : PySem.W.Frag} {mg : Str → Option Value} {base : Heap} {CX : CXT} {k : Nat} {f : Addr} {x qual : Str} {params : Arguments} {body : List Stmt} {scope : Scope} {dvs : List V} {kws : List (Str × V)} {fd : FuncData} {N ps : List Str} {sp : Sp}
theorem fnP0_ok (F : FunD K x qual params body scope dvs kws f fd) (S : FnScope N ps scope) (len : ∀ vs H Q E, sp vs H Q E → vs.length = ps.length)
    (hb : ∀ (cdv : Value) (A : Around) (outer : List Env) (s : Shared) (H : Hp) (vs : List V) (Q : VK) (E : XK), Hot1 A p → RoomH k (A.deeper (envOfC qual scope s.heap.objs.size f cdv)) → sp vs H Q E →
      ∃ t, PSs (cxH CX P w K mg base N qual scope f cdv A outer s H E p) body t ∧ t { nx := fun _ H' => Q .non H', rt := Q } (start N vs) H) : FnP0 p P w K mg base CX (k + 1) f fd ps sp := by
  obtain ⟨oc, od, dV, kV, doc, pm, an, cdv, ct, osl, rfl, lk, hcd, _, _⟩ := F.ex
  refine ⟨len, fun A outer s H args us vs Q E hr hot hpin e0 bd r hsp => ?_⟩
  have hl := len _ _ _ _ hsp
  have KI : K.In s.heap := e0.mod.kin.keeps fun b o e => (e0.bs b o e).1
  have nl : s.heap.NoLimit := e0.mod.nolimit.keeps fun b o e => (e0.bs b o e).1
  have kinds : ∀ y ∈ ps.zip us, scope.names.lookup y.1 = some .local ∨ (scope.names.lookup y.1 = some .cell ∧ ((cellsFrom (s.heap.objs.size + 1) scope.names []).lookup y.1).isSome = true) := by
    rintro ⟨n, v⟩ hy
    exact (S.par n (List.of_mem_zip hy).1).imp id fun q => ⟨q, PySem.W.cellsFrom_some _ _ _ (.inl q)⟩
  refine codeAny_call_function hr.depth (KI _ _ lk) rfl S.co S.gen rfl (PySem.W.codeRec_of KI hcd) (bd _ _ _ _ ?_)
  refine wpAny_newFunctionEnv_cells S.kind kinds fun env he s1 xx => ?_
  subst he
  refine ⟨nl.keeps xx.toInCall.keep, codeAny_func ?_⟩
  obtain ⟨t, ht, hq⟩ := hb cdv A outer s H vs Q E hot (hr.deeper _) hsp
  have I : Inv (cxH CX P w K mg base N qual scope f cdv A outer s H E p) [] (L2.start N vs) H s1 := inv_startH S hpin e0 hl r xx
  refine wpAny_mono (ht.run [] s1 (L2.start N vs) H _ I hq) (fun fl s' hs => ?_) fun e s' hs => hs
  cases fl with
  | ret u =>
    obtain ⟨v, σ', H', J, rv, q⟩ := hs
    exact ⟨v, H', J.os, J.bare, J.base, J.hok, rv, q⟩
  | next =>
    obtain ⟨σ', H', J, q⟩ := hs
    exact ⟨V.non, H', J.os, J.bare, J.base, J.hok, rfl, q⟩
  | brk => exact False.elim hs.choose_spec.choose_spec.2
  | cont => exact False.elim hs.choose_spec.choose_spec.2
end
section
variable {X : Cx} {CX : CXT} {k : Nat} {f : Addr} {fd : FuncData} {ps : List Str} {sp : Sp} {E : L2.St → XK} {x : Str} {q pos : Pos} {e : Expr} {es : List Expr} {t : TA} {p : Addr × Obj}
theorem pe_callP0 (F : FnP0 p X.prog X.w X.K X.mg X.base CX k f fd ps sp) (hr : RoomH k X.A) (hot : Hot1 X.A p) (hp : p ∈ X.pn) (hg : Gl X x) (hm : X.mg x = some (.ref f)) (hk : PySem.W.keepIn X.K (.ref f) = true) (hb : Binds X.K fd ps []) (hx : ∀ σ, PassesAt CX X σ (E σ))
    (ha : PA X (e :: es) t) (hdb : (x == ("__debug__" : Str)) = false := by decide) (he : starEach (e :: es) X.env = (false, eval e X.env) :: starEach es X.env := by rfl) (hpl : (backTo pos (starEach es X.env)).any (·.1) = false := by rfl) :
    PE X (.Call (.Name x q) (e :: es) [] pos) (tCallS sp E t) := by
  refine ⟨fun pins s σ H Q I h => ?_⟩
  refine wpAny_Call_Name_kw (ld_glob I hg hm ?_ hdb)
  refine PySem.W.callWith_K (h₀ := X.base) I.ok.mod.kin hk (thn (ha.run pos pins s σ H _ I h) fun us s1 ⟨vs, H1, I1, r, hsp⟩ => ⟨I1.kIn, ?_⟩) he hpl
  have hl : us.length = ps.length := by rw [← r.length]; exact F.len _ _ _ _ hsp
  have b := hb s1 us I1.kIn (by rw [List.append_nil]; exact hl)
  rw [List.append_nil] at b
  have P1 := I1.pin p (List.mem_append_left _ hp)
  have hpin : PinOk X.stack H1 s1 p := ⟨P1.1, P1.2.1, fun hm => (List.mem_cons.mp (I1.stkSub p.1 hm)).elim P1.2.2.1 P1.2.2.2.1, P1.2.2.2.2⟩
  refine wpAny_call (codeAny_mono (F.run X.A X.stack s1 H1 ⟨us, []⟩ us vs Q (E σ) hr hot hpin I1.env0 b r hsp) fun r s' hq => ?_)
  cases r with
  | error e => exact hx σ pins H1 s1 e s' I1 hq
  | ok fl =>
    cases fl with
    | ret u => exact I1.after hq
    | next => exact False.elim hq
    | brk => exact False.elim hq
    | cont => exact False.elim hq
/-- isinstance of the pinned exception, of a class -/
theorem call_isEdG {a D d : Addr} {oe : Obj} {bmB : List Value} {nid : String} (hp : (a, oe) ∈ X.pn) (T : ExK X.K D bmB nid) (sp : PySem.W.specialIn X.K (.builtin "object.__class__") "__get__" = some (some (.builtin "getset_descriptor.__get__"))) (tk : PySem.W.takesIn X.K (.builtin "object.__class__") = some true)
    (hz : Zc (.ref D) (some d) oe) (hf : ∃ vs, oe.data = .fields vs) : CallR X (.builtin "isinstance") (fun xs H Q => (∃ fs, H d = some (.xd fs)) ∧ rIsE X.K D a xs H Q) := by
  intro pins s σ H xs us Q I r h
  obtain ⟨⟨fs, hd⟩, c, cv, b, rfl, hcv, e, q⟩ := h
  obtain ⟨u1, u2, rfl, rx, rt⟩ := vals2 r
  cases (show u1 = Value.ref a from rx)
  obtain rfl := hcv _ rt
  obtain ⟨hget, _⟩ := I.pin (a, oe) (List.mem_append_left _ hp)
  obtain ⟨vs, hv⟩ := hf
  obtain ⟨mA, hns, rel⟩ := (show ObjOk X.prog X.w H s.heap d (.xd fs) from I.hok d _ hd)
  obtain ⟨od, ho, _⟩ := lookIn_ns hns
  obtain ⟨cd, hc, _⟩ := PySem.W.any_some T.hd
  have J : PySem.W.InstAt s.heap a oe D (some od) := ⟨hget, hz.1, by unfold PySem.W.notCls; rw [hv] <;> rfl, by rw [hz.2]; exact ho⟩
  exact PySem.W.kia_one (PySem.W.kitx_exc (od := some od) (by rw [hc] <;> rfl) T.ga T.gg T.exC T.ha sp tk T.hm) I.kIn J e (fun z => nomatch z) fun tk' => ⟨.bl b, H, I.kept (t' := tk') fun _ _ z => z, rfl, q⟩
end
end KX

set_option Elab.async false
set_option maxRecDepth 100000
set_option maxHeartbeats 2000000
/-! What the written part says of an own exception class that stores: with its answers to isinstance and except. -/
namespace KX
open PySem PySem.Spec PyProof.Rows L2 He StX
structure Er (K : PySem.W.Frag) (c : Str) (bm : List Value) (nid : String) (flds : List Str) (own : List (Str × Bool)) (blt : List (String × Bool)) (exs : List (Str × Bool)) : Prop where
  T : ExK K (ga K c) bm nid
  X : XfC K (ga K c)
  ty : PySem.W.typeIn K (.ref (ga K c)) = some (.type "type")
  no : ∀ f ∈ flds, PySem.W.findIn K (.ref (ga K c)) f = some none
  iC : PySem.W.findIn K (.ref (ga K c)) "__init__" = some (some (.ref (ma K (ga K c) "__init__")))
  fn : PySem.W.isFn K (.ref (ma K (ga K c) "__init__")) = true
  kO : ∀ x ∈ own, PySem.W.kitOne K (.ref (ga K c)) (.ref (ga K x.1)) = some x.2
  kB : ∀ x ∈ blt, PySem.W.kitOne K (.ref (ga K c)) (.type x.1) = some x.2
  ex : ∀ x ∈ exs, PySem.W.exmOne K (.ref (ga K c)) (.ref (ga K x.1)) = some x.2
  sp : PySem.W.specialIn K (.builtin "object.__class__") "__get__" = some (some (.builtin "getset_descriptor.__get__"))
  tk : PySem.W.takesIn K (.builtin "object.__class__") = some true
def erB (K : PySem.W.Frag) (c : Str) (bm : List Value) (nid : String) (flds : List Str) (own : List (Str × Bool)) (blt : List (String × Bool)) (exs : List (Str × Bool)) : Bool :=
  let C := ga K c
  exkB K C bm nid && (xfB K C && (decide (PySem.W.typeIn K (.ref C) = some (.type "type")) && ((flds.all fun f => eqO (PySem.W.findIn K (.ref C) f) (some none)) && (eqO (PySem.W.findIn K (.ref C) "__init__") (some (some (.ref (ma K C "__init__")))) && (PySem.W.isFn K (.ref (ma K C "__init__"))
  && ((own.all fun x => decide (PySem.W.kitOne K (.ref C) (.ref (ga K x.1)) = some x.2)) && ((blt.all fun x => decide (PySem.W.kitOne K (.ref C) (.type x.1) = some x.2)) && ((exs.all fun x => decide (PySem.W.exmOne K (.ref C) (.ref (ga K x.1)) = some x.2))
  && (eqO (PySem.W.specialIn K (.builtin "object.__class__") "__get__") (some (some (.builtin "getset_descriptor.__get__"))) && decide (PySem.W.takesIn K (.builtin "object.__class__") = some true))))))))))
theorem er_of {K : PySem.W.Frag} {c : Str} {bm : List Value} {nid : String} {flds : List Str} {own : List (Str × Bool)} {blt : List (String × Bool)} {exs : List (Str × Bool)} (h : erB K c bm nid flds own blt exs = true) : Er K c bm nid flds own blt exs := by
  unfold erB at h
  obtain ⟨h1, h⟩ := Bool.and_eq_true_iff.mp h
  obtain ⟨h2, h⟩ := Bool.and_eq_true_iff.mp h
  obtain ⟨h3, h⟩ := Bool.and_eq_true_iff.mp h
  obtain ⟨h4, h⟩ := Bool.and_eq_true_iff.mp h
  obtain ⟨h5, h⟩ := Bool.and_eq_true_iff.mp h
  obtain ⟨h6, h⟩ := Bool.and_eq_true_iff.mp h
  obtain ⟨h7, h⟩ := Bool.and_eq_true_iff.mp h
  obtain ⟨h8, h⟩ := Bool.and_eq_true_iff.mp h
  obtain ⟨h9, h⟩ := Bool.and_eq_true_iff.mp h
  obtain ⟨h10, h11⟩ := Bool.and_eq_true_iff.mp h
  exact ⟨exkB_ok h1, xfB_ok h2, of_decide_eq_true h3, fun f hf => eqO_ok (List.all_eq_true.mp h4 f hf), eqO_ok h5, h6, fun x hx => of_decide_eq_true (List.all_eq_true.mp h7 x hx), fun x hx => of_decide_eq_true (List.all_eq_true.mp h8 x hx),
    fun x hx => of_decide_eq_true (List.all_eq_true.mp h9 x hx), eqO_ok h10, of_decide_eq_true h11⟩
end KX

set_option Elab.async false
set_option maxRecDepth 100000
set_option maxHeartbeats 0
namespace K24
open PySem PySem.Spec PyProof.Rows L2 He KX
def top (i : Nat) : Stmt := PySem.Challenge.pw_rowsinplace_k24_scenes_refused.main.body.getD i (.Pass ⟨0, 0, 0, 0⟩)
def vT : List Value := [.type "ValueError", .type "Exception", .type "BaseException", .type "object"]
def frees : List Str := ["isinstance", "int", "bool", "str", "len", "tuple", "list", "dict", "abs", "min", "max", "repr", "range", "ValueError"]
def gls : List Str := (["is_integer", "PlaceError", "BadOperation", "BadWorld", "BadNumber", "OPERATIONS", "ARGUMENTS", "NEW", "arguments_of", "Cast", "_is_there", "TWO_LISTS", "RANKS", "worlds_of", "Scene", "_fits", "_limits", "_limits_of_y", "_limits_of_k", "_law_pool", "_law_draw", "_law_op", "_law_worlds", "_law_there", "_law_upto"] : List Str) ++ (["_law_numbers", "_law_in", "_law_first_wrong", "_law_answer", "_law_worlds_answer", "law"] : List Str)
abbrev ErBO (K : PySem.W.Frag) : Prop := Er K "BadOperation" vT "ValueError.__new__" ["op"] [("PlaceError", true), ("BadWorld", false)] [] [("BadOperation", true)]
abbrev ErBW (K : PySem.W.Frag) : Prop := Er K "BadWorld" vT "ValueError.__new__" ["world"] [("PlaceError", true), ("BadNumber", false)] [] [("BadOperation", false), ("BadWorld", true)]
abbrev ErBN (K : PySem.W.Frag) : Prop := Er K "BadNumber" vT "ValueError.__new__" ["name"] [("PlaceError", true)] [("ValueError", true)] [("BadOperation", false), ("BadWorld", false), ("BadNumber", true)]
def errB (K : PySem.W.Frag) : Bool := erB K "BadOperation" vT "ValueError.__new__" ["op"] [("PlaceError", true), ("BadWorld", false)] [] [("BadOperation", true)] && (erB K "BadWorld" vT "ValueError.__new__" ["world"] [("PlaceError", true), ("BadNumber", false)] [] [("BadOperation", false), ("BadWorld", true)] && (erB K "BadNumber" vT "ValueError.__new__" ["name"] [("PlaceError", true)] [("ValueError", true)] [("BadOperation", false), ("BadWorld", false), ("BadNumber", true)]))
def flds : List Str := ["lists", "list_of", "row_of", "homes", "named", "is_within"]
def castB (K : PySem.W.Frag) : Bool := (Fa.mkr "Cast").ok K && ((Fa.cls "Cast").ok K && flds.all fun f => (Fa.noat "Cast" f).ok K)
def sfl : List Str := ["op", "world", "home", "to", "x", "y", "k", "other"]
def scnB (K : PySem.W.Frag) : Bool := (Fa.mkr "Scene").ok K && ((Fa.cls "Scene").ok K && sfl.all fun f => (Fa.noat "Scene" f).ok K)
def ops : List Str := ["put", "add", "take", "move", "send", "top", "bottom", "up", "down", "swap"]
def isRef : Option (Option Value) → Bool
  | some (some (.ref _)) => true
  | _ => false
def args : List (Str × List Str) := [("put", ["x", "to", "k"]), ("add", ["x", "to"]), ("take", ["x"]), ("move", ["x", "to", "k"]), ("send", ["x", "to"]), ("top", ["x"]), ("bottom", ["x"]), ("up", ["x"]), ("down", ["x"]), ("swap", ["x", "y"])]
/-- the table of arguments: a tuple of texts for each operation -/
def argB (K : PySem.W.Frag) (o : Str × List Str) : Bool := match PySem.W.nsIn K (ga K "ARGUMENTS") o.1 with
  | some (some (.ref a)) => tupB K a o.2
  | _ => false
def conB (K : PySem.W.Frag) : Bool := tupB K (ga K "OPERATIONS") ops && (tupB K (ga K "NEW") ["put", "add"] && (tupB K (ga K "TWO_LISTS") ["move", "send", "swap"] && ((Fa.int "GREATEST" (10 ^ 30)).ok K && args.all fun o => argB K o)))
def chk (K : PySem.W.Frag) : Bool := errB K && (castB K && (scnB K && (conB K && ((frees.all fun x => (Fa.free x).ok K) && (gls.all fun x => (Fa.glo x).ok K)))))
def initD (i : Nat) (c : Str) : DefD := ⟨(c, some "__init__"), "__init__", c ++ ".__init__", defArgs (inClass (top i) 0), defBody (inClass (top i) 0), defScope (inClass (top i) 0), [], []⟩
def fnD (i : Nat) (x : Str) : DefD := ⟨(x, none), x, x, defArgs (top i), defBody (top i), defScope (top i), [], []⟩
def fn : List DefD := [initD 5 "BadOperation", initD 6 "BadWorld", initD 7 "BadNumber", initD 14 "Cast", ⟨("Scene", some "__init__"), "__init__", "Scene.__init__", defArgs (inClass (top 21) 0), defBody (inClass (top 21) 0), defScope (inClass (top 21) 0), [], [("home", .int 0), ("to", .int 0), ("x", .int 0), ("y", .int 0), ("k", .int 0), ("other", .int 0)]⟩, fnD 2 "is_integer", fnD 12 "arguments_of", fnD 15 "_is_there", fnD 20 "worlds_of", fnD 22 "_fits", fnD 23 "_limits", fnD 24 "_limits_of_y", fnD 25 "_limits_of_k", fnD 27 "_law_pool", fnD 28 "_law_draw", fnD 29 "_law_op", fnD 30 "_law_worlds", fnD 31 "_law_there", fnD 32 "_law_upto", fnD 33 "_law_numbers", fnD 34 "_law_in", fnD 35 "_law_first_wrong", fnD 36 "_law_answer", fnD 37 "_law_worlds_answer", fnD 38 "law"]
def dics : List (Str × List Str) := [("ARGUMENTS", ops), ("RANKS", ["alone", "apart", "within", "itself"])]
abbrev R : PySem.W.OpenRow := PySem.W.OpenLaw.row PySem.Challenge.rw_rowsinplace_k24_scenes_refused
abbrev hk : PySem.W.Hook := hookD 4 chk fn dics
def ob (s : PySem.W.SharedT) : (Bool × List FnW) × KeyT := lookD 4 chk fn dics (HandSHeadRun.getT s)
theorem ob_eq (s : PySem.W.SharedT) : ob s = hk.obs s.abs := lookD_eq (HandSHeadRun.getT_eq s)
def loose : List Str := (["_wall", "is_integer", "PlaceError", "BadOperation", "BadWorld", "BadNumber", "OPERATIONS", "ARGUMENTS", "NEW", "arguments_of", "Cast", "_is_there", "TWO_LISTS", "RANKS", "GREATEST", "worlds_of", "Scene", "_fits", "_limits", "_limits_of_y", "_limits_of_k", "_law_pool", "_law_draw", "_law_op", "_law_worlds"] : List Str) ++ (["_law_there", "_law_upto", "_law_numbers", "_law_in", "_law_first_wrong", "_law_answer", "_law_worlds_answer"] : List Str)
theorem run1 (w : World) : HandSHeadRun.RunEq R (PySem.W.view R.prog [38]) hk ob 20000 loose (setF w true) := by
  intro os
  kernel_rfl
theorem run2 (w : World) : HandSHeadRun.RunEq R (PySem.W.view R.prog [38]) hk ob 20000 loose (setF w false) := by
  intro os
  kernel_rfl
theorem run (w : World) : HandSHeadRun.RunEq R (PySem.W.view R.prog [38]) hk ob 20000 loose w := run_two run1 run2 w
end K24

set_option Elab.async false
set_option maxRecDepth 100000
set_option maxHeartbeats 2000000
/-! Drawn names: what is promised of them, and their texts. -/
namespace KX
open PySem PySem.Spec PyProof.Rows L2
abbrev tlc (z : Str) : List Nat := z.cps.toList
theorem tlc_len (z : Str) : (tlc z).length = z.length := Array.length_toList
theorem tlc_app (x y : Str) : tlc (x ++ y) = tlc x ++ tlc y := Array.toList_append
theorem nm_inv {z : Str} (h : isNm z = true) : 1 ≤ z.length ∧ z.length ≤ 8 ∧ ∀ c ∈ tlc z, isLet c = true := by
  unfold isNm at h
  obtain ⟨h, h3⟩ := Bool.and_eq_true_iff.mp h
  obtain ⟨h1, h2⟩ := Bool.and_eq_true_iff.mp h
  exact ⟨of_decide_eq_true h1, of_decide_eq_true h2, List.all_eq_true.mp h3⟩
theorem nm_of {z : Str} (h1 : 1 ≤ z.length) (h2 : z.length ≤ 8) (h3 : ∀ c ∈ tlc z, isLet c = true) : isNm z = true := by
  unfold isNm
  rw [decide_eq_true h1, decide_eq_true h2, List.all_eq_true.mpr h3]
  rfl
theorem join0 : ∀ zs : List Nat, tlc (Str.join ⟨#[]⟩ (zs.map fun c => (⟨#[c]⟩ : Str))) = zs
  | [] => rfl
  | [c] => rfl
  | c :: d :: r => by
    have ih := join0 (d :: r)
    show tlc ((⟨#[c]⟩ : Str) ++ ⟨#[]⟩ ++ Str.join ⟨#[]⟩ ((d :: r).map fun c => (⟨#[c]⟩ : Str))) = _
    rw [tlc_app, tlc_app, ih]
    rfl
theorem letters_at : ∀ {j : Nat}, j < 26 → (("abcdefghijklmnopqrstuvwxyz" : Str)).cps.toList[j]? = some (97 + j) := by
  intro j h
  rw [letters_eq]
  have z : ∀ k : Fin 26, ([97, 98, 99, 100, 101, 102, 103, 104, 105, 106, 107, 108, 109, 110, 111, 112, 113, 114, 115, 116, 117, 118, 119, 120, 121, 122] : List Nat)[k.val]? = some (97 + k.val) := by decide
  exact z ⟨j, h⟩
theorem let_at {j : Nat} (h : j < 26) : isLet (97 + j) = true := by
  unfold isLet
  rw [decide_eq_true (by omega), decide_eq_true (by omega)]
  rfl
theorem inV_str (z : Str) (zs : List Str) : inV (.str z) (zs.map V.str) = decide (z ∈ zs) := by
  unfold inV
  rw [List.any_map]
  by_cases h : z ∈ zs
  · rw [decide_eq_true h]
    exact List.any_eq_true.mpr ⟨z, h, by show (z == z) = true; exact beq_self_eq_true z⟩
  · rw [decide_eq_false h]
    refine List.any_eq_false.mpr fun y hy => ?_
    show ¬ (y == z) = true
    rw [beq_iff_eq]
    rintro rfl
    exact h hy
theorem flat_strs (zs : List Str) : (zs.map V.str).all flatV = true := by
  rw [List.all_map]
  exact List.all_eq_true.mpr fun _ _ => rfl
theorem cutS_to {z : Str} {i : Nat} (h : i ≤ z.length) : tlc (cutS z none (some (i : Int))) = (tlc z).take i := by
  unfold cutS tlc
  rw [HT.sIx_none, HT.sIx_nat, List.drop_zero, Nat.min_eq_left h, Nat.sub_zero]
theorem cutS_from {z : Str} {i : Nat} (h : i ≤ z.length) : tlc (cutS z (some (i : Int)) none) = (tlc z).drop i := by
  unfold cutS tlc
  rw [HT.sIx_none, HT.sIx_nat, Nat.min_eq_left h]
  refine List.take_of_length_le ?_
  rw [List.length_drop, Array.length_toList]
  exact Nat.le_refl _
theorem nm_splice {one : Str} {at_ c : Nat} (h : isNm one = true) (ha : at_ < one.length) (hc : isLet c = true) : isNm (cutS one none (some (at_ : Int)) ++ ⟨#[c]⟩ ++ cutS one (some ((at_ : Int) + 1)) none) = true := by
  obtain ⟨h1, h2, h3⟩ := nm_inv h
  have e : tlc (cutS one none (some (at_ : Int)) ++ ⟨#[c]⟩ ++ cutS one (some ((at_ : Int) + 1)) none) = (tlc one).take at_ ++ [c] ++ (tlc one).drop (at_ + 1) := by
    rw [tlc_app, tlc_app, cutS_to (by omega)]
    congr 1
    exact cutS_from (i := at_ + 1) (by omega)
  have hl : (cutS one none (some (at_ : Int)) ++ ⟨#[c]⟩ ++ cutS one (some ((at_ : Int) + 1)) none).length = one.length := by
    rw [← tlc_len, e, List.length_append, List.length_append, List.length_take, List.length_drop, tlc_len]
    show min at_ one.length + 1 + (one.length - (at_ + 1)) = one.length
    omega
  refine nm_of (by omega) (by omega) fun d hd => ?_
  rw [e] at hd
  rcases List.mem_append.mp hd with hd | hd
  · rcases List.mem_append.mp hd with hd | hd
    · exact h3 d (List.mem_of_mem_take hd)
    · rw [List.mem_singleton.mp hd]
      exact hc
  · exact h3 d (List.mem_of_mem_drop hd)
theorem cutS_len (z : Str) (lo hi : Option Int) : (cutS z lo hi).length ≤ z.length := by
  rw [← tlc_len, ← tlc_len]
  unfold cutS tlc
  show (List.take _ (List.drop _ z.cps.toList)).length ≤ _
  rw [List.length_take, List.length_drop]
  omega
/-- _law_name -/
def spLName : Sp := fun vs H Q _ => ∃ (b : Addr) (n : Int), vs = [.ref b] ∧ Bag H b n ∧ n < 900000 ∧ ∀ z G, isNm z = true → Kept b H G → Bag G b (n + 9) → Q (.str z) G
/-- a new list of unlike names -/
def Names (b F : Addr) (H G : Hp) (zs : List Str) (m : Int) : Prop :=
  H F = none ∧ F ≠ b ∧ Kept b H G ∧ Bag G b m ∧ G F = some (.lst (zs.map V.str)) ∧ zs.Nodup ∧ ∀ z ∈ zs, isNm z = true
/-- _law_names -/
def spLNames : Sp := fun vs H Q _ => ∃ (b : Addr) (n : Int) (many : Nat), vs = [.ref b, .int (many : Int)] ∧ Bag H b n ∧ n < 800000 ∧ 1 ≤ many ∧ many ≤ 100 ∧ ∀ F zs G, Names b F H G zs (n + 20 * many) → 1 ≤ zs.length → zs.length ≤ many → Q (.ref F) G
/-- _law_numbers -/
def spLNums : Sp := fun vs H Q _ => ∃ (b : Addr) (n : Int) (many : Nat), vs = [.ref b, .int (many : Int)] ∧ Bag H b n ∧ n < 800000 ∧ 1 ≤ many ∧ many ≤ 100 ∧ ∀ F zs G, Names b F H G zs (n + 20 * many) → 1 ≤ zs.length → zs.length ≤ many + 1 → Q (.ref F) G
theorem seq_by {A B : TS} {D : Ends} {σ : L2.St} {H : Hp} (R : L2.St → Hp → Prop) (h2 : ∀ σ H, R σ H → B D σ H) (h1 : (∀ σ H, R σ H → B D σ H) → A { D with nx := fun σ H => B D σ H } σ H) : tSeq A B D σ H := h1 h2
theorem Bag.but {H G : Hp} {b : Addr} {m : Int} (k : But b H G) {x : Addr} (n : x ≠ b) : G x = H x := k x n
/-- within _law_names: the names found so far at F -/
structure LN (b F : Addr) (H G : Hp) (zs : List Str) (m : Int) : Prop where
  bag : Bag G b m
  fnd : G F = some (.lst (zs.map V.str))
  kept : Kept b H G
  ne : F ≠ b
  nd : zs.Nodup
  nm : ∀ z ∈ zs, isNm z = true
theorem LN.to {b F : Addr} {H G G' : Hp} {zs : List Str} {m m' : Int} (h : LN b F H G zs m) (k : Kept b G G') (hB : Bag G' b m') : LN b F H G' zs m' :=
  ⟨hB, k F _ h.ne h.fnd, h.kept.trans k, h.ne, h.nd, h.nm⟩
theorem LN.le {b F : Addr} {H G : Hp} {zs : List Str} {m m' : Int} (h : LN b F H G zs m) (q : m ≤ m') : LN b F H G zs m' := ⟨h.bag.mono q, h.fnd, h.kept, h.ne, h.nd, h.nm⟩
theorem LN.add {b F : Addr} {H G : Hp} {zs : List Str} {m : Int} {z : Str} (h : LN b F H G zs m) (hF : H F = none) (hz : isNm z = true) (n : z ∉ zs) : LN b F H (upd G F (.lst (zs.map V.str ++ [.str z]))) (zs ++ [z]) m := by
  refine ⟨h.bag.put h.ne, ?_, fun x o nx e => (upd_ne (ne_of_none e hF)).trans (h.kept x o nx e), h.ne, ?_, fun y hy => ?_⟩
  · rw [upd_same, List.map_append]
    rfl
  · refine List.nodup_append.mpr ⟨h.nd, by simp, fun x hx y hy => ?_⟩
    rw [List.mem_singleton.mp hy]
    rintro rfl
    exact n hx
  · rcases List.mem_append.mp hy with hy | hy
    · exact h.nm y hy
    · rw [List.mem_singleton.mp hy]
      exact hz
theorem atI_zero {α : Type} {xs : List α} (h : 0 < xs.length) : ∃ x, atI xs 0 = some x ∧ x ∈ xs := by
  match xs, h with
  | x :: r, _ => exact ⟨x, by unfold atI ixN; rw [if_pos (by decide), if_pos (by rw [List.length_cons]; omega)]; rfl, List.mem_cons_self⟩
theorem nm_line {z : Str} (h : isNm z = true) : z.length ≤ sizeLine := by
  have := (nm_inv h).2.1
  rw [sizeLine_eq]
  omega
theorem flt_take {α : Type} {xs : List α} {i : Nat} {x : α} {p : α → Bool} (h : xs[i]? = some x) : (xs.take (i + 1)).filter p = (xs.take i).filter p ++ (if p x = true then [x] else []) := by
  rw [take_at h, List.filter_append]
  congr 1
  by_cases e : p x = true
  · rw [if_pos e]
    exact List.filter_cons_of_pos e
  · rw [if_neg e]
    exact List.filter_cons_of_neg e
theorem ne_dec (u v : Str) : (!decide (V.str u = V.str v)) = decide (u ≠ v) := by
  rw [str_dec]
  by_cases h : u = v
  · rw [decide_eq_true h, decide_eq_false (fun q => q h)]
    rfl
  · rw [decide_eq_false h, decide_eq_true h]
    rfl
theorem atI_end {α : Type} {xs : List α} (h : 0 < xs.length) : ∃ x, atI xs (-1) = some x ∧ x ∈ xs := by
  have e : ixN xs.length (-1) = some (xs.length - 1) := by
    unfold ixN
    rw [if_neg (by decide), if_pos (by omega)]
    congr 1
    omega
  have hl : xs.length - 1 < xs.length := by omega
  refine ⟨xs[xs.length - 1], ?_, List.getElem_mem hl⟩
  unfold atI
  rw [e]
  exact List.getElem?_eq_getElem hl
theorem atI_map {α β : Type} {f : α → β} {xs : List α} {i : Int} {x : α} (h : atI xs i = some x) : atI (xs.map f) i = some (f x) := by
  rw [atI_len, h]
  rfl
theorem two_unlike {α : Type} : ∀ {xs : List α}, xs.Nodup → 2 ≤ xs.length → ∀ z, ∃ y ∈ xs, y ≠ z
  | x :: y :: r, h, _, z => by
    by_cases e : x = z
    · refine ⟨y, by simp, fun q => ?_⟩
      have := (List.nodup_cons.mp h).1
      rw [e, ← q] at this
      exact this (by simp)
    · exact ⟨x, by simp, e⟩
  | [_], _, h, _ => by simp at h
  | [], _, h, _ => by simp at h
theorem sum_le {m : Nat} : ∀ {ns : List Int}, (∀ x ∈ ns, x.natAbs ≤ m) → ns.sum.natAbs ≤ ns.length * m
  | [], _ => by simp
  | x :: r, h => by
    have h1 := h x List.mem_cons_self
    have h2 := sum_le (ns := r) fun y hy => h y (List.mem_cons_of_mem _ hy)
    rw [List.sum_cons, List.length_cons, Nat.succ_mul]
    omega
/-- a list that grows, made within -/
structure RD (b F : Addr) (H G : Hp) (rs : List Str) (m : Int) : Prop where
  bag : Bag G b m
  fnd : G F = some (.lst (rs.map V.str))
  kept : Kept b H G
  ne : F ≠ b
theorem RD.to {b F : Addr} {H G G' : Hp} {rs : List Str} {m m' : Int} (h : RD b F H G rs m) (k : Kept b G G') (hB : Bag G' b m') : RD b F H G' rs m' := ⟨hB, k F _ h.ne h.fnd, h.kept.trans k, h.ne⟩
theorem RD.le {b F : Addr} {H G : Hp} {rs : List Str} {m m' : Int} (h : RD b F H G rs m) (q : m ≤ m') : RD b F H G rs m' := ⟨h.bag.mono q, h.fnd, h.kept, h.ne⟩
theorem RD.set {b F : Addr} {H G : Hp} {rs qs : List Str} {m : Int} (h : RD b F H G rs m) (hF : H F = none) : RD b F H (upd G F (.lst (qs.map V.str))) qs m :=
  ⟨h.bag.put h.ne, upd_same, fun x o nx e => (upd_ne (ne_of_none e hF)).trans (h.kept x o nx e), h.ne⟩
end KX

set_option Elab.async false
set_option maxRecDepth 100000
set_option maxHeartbeats 2000000
/-! Bounds and rings, in plain words. -/
namespace KX
open PySem PySem.Spec PyProof.Rows L2
abbrev Bd := Str × Str × Int
/-- a bound, if it is one -/
def bd3 : PyData → Option Bd
  | .tuple [.str u, .str v, .int c] => if (isNm u && (isNm v && !decide (u = v))) = true then some (u, v, c) else none
  | _ => none
def bdD (d : PyData) : Bool := (bd3 d).isSome
def okBd (d : PyData) : Prop := ∀ ds, d = .tuple ds → ds.length ≤ 1000 ∧ ∀ e ∈ ds, okN e
def okRing (d : PyData) : Prop := ∀ ds, d = .list ds ∨ d = .tuple ds → ds.length ≤ 1000 ∧ ∀ e ∈ ds, okBd e
def jb (ts : List Bd) (i : Nat) : Bool :=
  match ts[pred ts.length i]?, ts[i]? with
  | some p, some q => decide (p.2.1 = q.1)
  | _, _ => false
def rgT (ts : List Bd) : Bool := (List.range ts.length).all (jb ts) && decide ((ts.map fun t => t.2.2).sum < 0)
def bdOf (d : PyData) : Bd := (bd3 d).getD (⟨#[]⟩, ⟨#[]⟩, 0)
def rgL (ds : List PyData) : Bool := ds.all bdD && rgT (ds.map bdOf)
def rgD : PyData → Bool
  | .list ds => rgL ds
  | .tuple ds => rgL ds
  | _ => false
theorem rg_nil : rgL [] = false := by
  show (true && ((List.range 0).all _ && decide (([] : List Int).sum < 0))) = false
  rfl
/-- a bound that stands at x -/
def BdAt (K : PySem.W.Frag) (H : Hp) (x : V) (t : Bd) : Prop := ∃ a, x = .ref a ∧ SqT K H a [.str t.1, .str t.2.1, .int t.2.2]
theorem bd3_inv {d : PyData} {t : Bd} (h : bd3 d = some t) : d = .tuple [.str t.1, .str t.2.1, .int t.2.2] ∧ isNm t.1 = true ∧ isNm t.2.1 = true ∧ t.1 ≠ t.2.1 := by
  unfold bd3 at h
  split at h
  · split at h
    · rename_i u v c hc
      cases h
      obtain ⟨h1, h2⟩ := Bool.and_eq_true_iff.mp hc
      obtain ⟨h2, h3⟩ := Bool.and_eq_true_iff.mp h2
      refine ⟨rfl, h1, h2, fun e => ?_⟩
      rw [decide_eq_true e] at h3
      cases h3
    · cases h
  · cases h
theorem dp_tup3 {K : PySem.W.Frag} {H : Hp} {x : V} {u v : Str} {c : Int} (h : Dp K H x (.tuple [.str u, .str v, .int c])) : BdAt K H x (u, v, c) := by
  cases h with
  | tup hS ha =>
    cases ha with
    | cons h1 ha =>
      cases ha with
      | cons h2 ha =>
        cases ha with
        | cons h3 ha =>
          cases ha
          cases h1
          cases h2
          cases h3
          exact ⟨_, rfl, hS⟩
theorem bd_at {K : PySem.W.Frag} {H : Hp} {x : V} {d : PyData} (h : Dp K H x d) (hb : bdD d = true) : BdAt K H x (bdOf d) := by
  unfold bdD at hb
  unfold bdOf
  cases e : bd3 d with
  | none =>
    rw [e] at hb
    cases hb
  | some t =>
    obtain ⟨rfl, _⟩ := bd3_inv e
    exact dp_tup3 h
theorem BdAt.same {K : PySem.W.Frag} {H H' : Hp} {x : V} {t : Bd} (s : Same H H') (h : BdAt K H x t) : BdAt K H' x t := h.imp fun a h => ⟨h.1, sqT_same s h.2⟩
theorem bd_off {d : PyData} (h : isTupD d = false) : bdD d = false := by cases d <;> first | rfl | cases h
theorem bd_len {ds : List PyData} (h : ds.length ≠ 3) : bdD (.tuple ds) = false := by
  unfold bdD
  cases e : bd3 (.tuple ds) with
  | none => rfl
  | some t =>
    have q := PyData.tuple.inj (bd3_inv e).1
    rw [q] at h
    exact absurd rfl h
/-- two texts are not the same one -/
def neS : PyData → PyData → Bool
  | .str u, .str v => !decide (u = v)
  | _, _ => true
/-- what bdD is, part by part -/
theorem bd_parts (a b c : PyData) : bdD (.tuple [a, b, c]) = (nmD a && (nmD b && (neS a b && isIntD c))) := by
  unfold bdD bd3
  cases a <;> try rfl
  rename_i u
  cases b <;> try (show (false : Bool) = (isNm u && (false && _)); cases isNm u <;> rfl)
  rename_i v
  cases c <;> try (show false = (isNm u && (isNm v && (!decide (u = v) && false))); cases isNm u <;> cases isNm v <;> cases decide (u = v) <;> rfl)
  show (if (isNm u && (isNm v && !decide (u = v))) = true then some ((u, v, _) : Bd) else none).isSome = (isNm u && (isNm v && (!decide (u = v) && true)))
  cases isNm u <;> cases isNm v <;> cases decide (u = v) <;> rfl
theorem bds_at {K : PySem.W.Frag} {H : Hp} {xs : List V} {ds : List PyData} {i : Nat} {x : V} (hA : DpAll K H xs ds) (hb : ds.all bdD = true) (h : xs[i]? = some x) : ∃ t, (ds.map bdOf)[i]? = some t ∧ BdAt K H x t := by
  obtain ⟨d, hd, hx⟩ := dpall_at hA h
  refine ⟨bdOf d, ?_, bd_at hx (List.all_eq_true.mp hb d (List.mem_of_getElem? hd))⟩
  rw [List.getElem?_map, hd]
  rfl
theorem jb_eq {ts : List Bd} {i : Nat} {p q : Bd} (hp : ts[pred ts.length i]? = some p) (hq : ts[i]? = some q) : jb ts i = decide (p.2.1 = q.1) := by
  unfold jb
  rw [hp, hq]
/-- what _law_is_round asks of a list of things -/
def okE (e : PyData) : Prop := okBd e ∧ e.canLay0 = true ∧ e.depth ≤ 60
def spRound (K : PySem.W.Frag) : Sp := fun vs H Q _ => ∃ (l : Addr) (xs : List V) (ds : List PyData), vs = [.ref l] ∧ SqL K H l xs ∧ DpAll K H xs ds ∧ ds.length ≤ 1000 ∧ (∀ e ∈ ds, okE e) ∧ ∀ H', Same H H' → Q (.bl (rgL ds)) H'
def spBound (K : PySem.W.Frag) : Sp := fun vs H Q _ => ∃ (x : V) (d : PyData), vs = [x] ∧ Dp K H x d ∧ okBd d ∧ ∀ H', Same H H' → Q (.bl (bdD d)) H'
def spOpp (K : PySem.W.Frag) : Sp := fun vs H Q _ => ∃ (a : Addr) (x y : V) (c : Int), vs = [.ref a] ∧ SqT K H a [x, y, .int c] ∧ ∀ p, H p = none → Q (.ref p) (upd H p (.tup [y, x, .int (-c - 1)]))
def spRing (K : PySem.W.Frag) : Sp := fun vs H Q _ => ∃ (x : V) (d : PyData), vs = [x] ∧ Dp K H x d ∧ okRing d ∧ ∀ H', Same H H' → Q (.bl (rgD d)) H'
/-- a bound's data, its constant not beyond m -/
def BdX (m : Nat) (d : PyData) : Prop := ∃ u v c, d = .tuple [.str u, .str v, .int c] ∧ isNm u = true ∧ isNm v = true ∧ c.natAbs ≤ m
/-- _law_round -/
def spRnd (K : PySem.W.Frag) : Sp := fun vs H Q _ => ∃ (b L : Addr) (n : Int) (zs : List Str), vs = [.ref b, .ref L] ∧ Bag H b n ∧ n < 700000 ∧ L ≠ b ∧ H L = some (.lst (zs.map V.str)) ∧ zs.Nodup ∧ 2 ≤ zs.length ∧ zs.length ≤ 100 ∧ (∀ z ∈ zs, isNm z = true) ∧
  ∀ R rs ds G, H R = none → R ≠ b → Kept b H G → Bag G b (n + 60) → G R = some (.lst rs) → DpAll K G rs ds → 1 ≤ ds.length → ds.length ≤ 8 → (∀ d ∈ ds, BdX (10 ^ 29) d) → Q (.ref R) G
/-- a bound's tuple, made within -/
def BdT (G : Hp) (x : V) (t : Bd) : Prop := ∃ a, x = .ref a ∧ G a = some (.tup [.str t.1, .str t.2.1, .int t.2.2])
theorem BdT.off {G : Hp} {x : V} {t : Bd} {R : Addr} {ys : List V} {o : HO} (h : BdT G x t) (e : G R = some (.lst ys)) : BdT (upd G R o) x t := by
  obtain ⟨a, rfl, ha⟩ := h
  refine ⟨a, rfl, (upd_ne ?_).trans ha⟩
  rintro rfl
  rw [e] at ha
  cases ha
theorem BdT.kept {b : Addr} {n : Int} {G G' : Hp} {x : V} {t : Bd} (h : BdT G x t) (hB : Bag G b n) (k : Kept b G G') : BdT G' x t := by
  obtain ⟨a, rfl, ha⟩ := h
  refine ⟨a, rfl, k a _ ?_ ha⟩
  rintro rfl
  obtain ⟨d, m, c, e, _⟩ := hB
  rw [e] at ha
  cases ha
theorem BdT.same {G G' : Hp} {x : V} {t : Bd} (h : BdT G x t) (k : Same G G') : BdT G' x t := h.imp fun a h => ⟨h.1, k _ _ h.2⟩
def bdX (t : Bd) : PyData := .tuple [.str t.1, .str t.2.1, .int t.2.2]
theorem bts_dp {K : PySem.W.Frag} {G : Hp} : ∀ {xs : List V} {ts : List Bd}, Paired (BdT G) xs ts → DpAll K G xs (ts.map bdX)
  | _, _, .nil => .nil
  | _, _, .cons h r => by
    obtain ⟨a, rfl, ha⟩ := h
    exact .cons (.tup (SqT.of ha) (.cons (.str _) (.cons (.str _) (.cons (.int _) .nil)))) (bts_dp r)
theorem pair_imp {α β : Type} {P Q : α → β → Prop} (h : ∀ x y, P x y → Q x y) : ∀ {xs : List α} {ys : List β}, Paired P xs ys → Paired Q xs ys
  | _, _, .nil => .nil
  | _, _, .cons a r => .cons (h _ _ a) (pair_imp h r)
theorem pair_snoc {α β : Type} {P : α → β → Prop} {x : α} {y : β} (h : P x y) : ∀ {xs : List α} {ys : List β}, Paired P xs ys → Paired P (xs ++ [x]) (ys ++ [y])
  | _, _, .nil => .cons h .nil
  | _, _, .cons a r => .cons a (pair_snoc h r)
theorem pair_len {α β : Type} {P : α → β → Prop} : ∀ {xs : List α} {ys : List β}, Paired P xs ys → xs.length = ys.length
  | _, _, .nil => rfl
  | _, _, .cons _ r => congrArg (· + 1) (pair_len r)
theorem cut_from {α : Type} (xs : List V) (i : Nat) (h : i ≤ xs.length) : cutV xs (some (i : Int)) none = xs.drop i := by
  unfold cutV
  rw [HT.sIx_none, HT.sIx_nat, Nat.min_eq_left h]
  refine List.take_of_length_le ?_
  rw [List.length_drop]
  exact Nat.le_refl _
end KX

set_option Elab.async false
set_option maxRecDepth 100000
set_option maxHeartbeats 2000000
/-! Small odd things: scalars, and lists and tuples of a few of them. -/
namespace KX
open PySem PySem.Spec PyProof.Rows L2
def ScD (m : Nat) : PyData → Prop
  | .none => True
  | .bool _ => True
  | .int i => i.natAbs ≤ m
  | .str z => z.length ≤ 100 ∧ ∀ c ∈ tlc z, c < 1000
  | _ => False
def ElX (m : Nat) (d : PyData) : Prop := ScD m d ∨ ∃ ds, ((d = .list ds ∧ ∃ z r, ds = .str z :: r) ∨ d = .tuple ds) ∧ ds.length ≤ 6 ∧ ∀ e ∈ ds, ScD m e
theorem ScD.mono {m m' : Nat} {d : PyData} (h : m ≤ m') (q : ScD m d) : ScD m' d := by
  cases d <;> first | exact q | exact Nat.le_trans q h
theorem ElX.mono {m m' : Nat} {d : PyData} (h : m ≤ m') (q : ElX m d) : ElX m' d := by
  rcases q with q | ⟨ds, e, hl, q⟩
  · exact .inl (q.mono h)
  · exact .inr ⟨ds, e, hl, fun x hx => (q x hx).mono h⟩
theorem nm_sc {m : Nat} {z : Str} (h : isNm z = true) : ScD m (.str z) := by
  obtain ⟨h1, h2, h3⟩ := nm_inv h
  refine ⟨by omega, fun c hc => ?_⟩
  have q := h3 c hc
  unfold isLet at q
  have := of_decide_eq_true (Bool.and_eq_true_iff.mp q).2
  exact Nat.lt_of_le_of_lt this (by decide)
theorem BdX.el {m : Nat} {d : PyData} (h : BdX m d) : ElX m d := by
  obtain ⟨u, v, c, rfl, hu, hv, hc⟩ := h
  refine .inr ⟨_, .inr rfl, by show 3 ≤ 6; decide, fun e he => ?_⟩
  rcases List.mem_cons.mp he with rfl | he
  · exact nm_sc hu
  rcases List.mem_cons.mp he with rfl | he
  · exact nm_sc hv
  rw [List.mem_singleton.mp he]
  exact hc
theorem sc_okN {m : Nat} {d : PyData} (h : ScD m d) : okN d := by
  rintro z rfl
  have := h.1
  omega
theorem str_ok {z : Str} (h : z.length ≤ 100 ∧ ∀ c ∈ tlc z, c < 1000) : PyData.canLay0 (.str z) = true := by
  show z.cps.all (· < 0x110000) = true
  rw [← Array.all_toList]
  exact List.all_eq_true.mpr fun c hc => decide_eq_true (Nat.lt_trans (h.2 c hc) (by decide))
theorem sc_lay {m : Nat} {d : PyData} (h : ScD m d) : d.canLay0 = true ∧ d.depth ≤ 0 := by
  cases d with
  | none => exact ⟨rfl, Nat.le_refl _⟩
  | bool => exact ⟨rfl, Nat.le_refl _⟩
  | int => exact ⟨rfl, Nat.le_refl _⟩
  | str z => exact ⟨str_ok h, Nat.le_refl _⟩
  | list => exact False.elim h
  | tuple => exact False.elim h
  | dict => exact False.elim h
theorem ElX.okE {m : Nat} {d : PyData} (h : ElX m d) : okE d := by
  rcases h with h | ⟨ds, e, hl, q⟩
  · refine ⟨fun ds e => ?_, (sc_lay h).1, Nat.le_trans (sc_lay h).2 (by decide)⟩
    subst e
    exact False.elim h
  · obtain ⟨l1, l2⟩ := lay_all (k := 0) fun x hx => sc_lay (q x hx)
    rcases e with ⟨rfl, _⟩ | rfl
    · exact ⟨fun es e => (nomatch e), l1, by show PyData.depthAll ds + 1 ≤ 60; omega⟩
    · refine ⟨fun es e => ?_, l1, by show PyData.depthAll ds + 1 ≤ 60; omega⟩
      cases e
      exact ⟨by omega, fun x hx => sc_okN (q x hx)⟩
theorem sc_small {m : Nat} {d : PyData} (hm : m < 10 ^ 40) (h : ScD m d) : Small d 0 1002 := by
  cases d with
  | none => exact ⟨rfl, rfl, Nat.le_refl _, by show ("None" : Str).length ≤ 1002; decide⟩
  | bool b => exact ⟨rfl, rfl, Nat.le_refl _, by cases b <;> (show (_ : Str).length ≤ 1002; decide)⟩
  | int i =>
    have hi : i.natAbs < 10 ^ 40 := Nat.lt_of_le_of_lt h hm
    refine ⟨decide_eq_true ?_, rfl, Nat.le_refl _, ?_⟩
    · have h2 : i.natAbs < 2 ^ 140 := Nat.lt_trans hi (by decide)
      exact Nat.lt_trans (PySem.Flt.log2_lt_of (by decide) h2) (by decide)
    · have q := int_text_length_le10 (k := 40) (by decide) hi
      show (Str.ofString (toString i)).length ≤ 1002
      rw [PySem.ofString_length]
      omega
  | str z =>
    refine ⟨rfl, rfl, Nat.le_refl _, ?_⟩
    have q := PySem.StrLaws.reprText_len z fun c hc => Nat.lt_trans (h.2 c hc) (by decide)
    have := h.1
    show (reprText z).length ≤ 1002
    omega
  | list => exact False.elim h
  | tuple => exact False.elim h
  | dict => exact False.elim h
theorem piled_le {m : Nat} : ∀ {ts : List Str}, (∀ t ∈ ts, t.length ≤ m) → piled ts ≤ ts.length * (m + 2)
  | [], _ => Nat.zero_le _
  | t :: r, h => by
    have h1 := h t List.mem_cons_self
    have h2 := piled_le (ts := r) fun u hu => h u (List.mem_cons_of_mem _ hu)
    rw [List.length_cons, Nat.succ_mul]
    simp only [piled, List.map_cons, List.sum_cons] at h2 ⊢
    omega
theorem tupleText_le {m : Nat} {ts : List Str} (h : ∀ t ∈ ts, t.length ≤ m) : (tupleText ts).length ≤ ts.length * (m + 2) + 4 := by
  unfold tupleText
  have e1 : (("(" : String) : Str).length = 1 := by decide
  have e2 : ((if ts.length == 1 then ",)" else ")" : String) : Str).length ≤ 2 := by split <;> decide
  rw [Str.length_append, Str.length_append]
  cases ts with
  | nil =>
    have : (Str.join ", " ([] : List Str)).length = 0 := rfl
    omega
  | cons x r =>
    have q := join_length_add (x :: r) (by simp)
    have p := piled_le h
    omega
theorem small_tuple {k n m : Nat} {ds : List PyData} (h : ∀ d ∈ ds, Small d k n) (hm : ds.length * (n + 2) + 4 ≤ m) : Small (.tuple ds) (k + 1) m := by
  obtain ⟨h1, h2, h3⟩ := small_all h
  refine ⟨h1, h2, Nat.succ_le_succ h3, Nat.le_trans (tupleText_le (m := n) fun t ht => ?_) (by rw [shownAll_len]; exact hm)⟩
  obtain ⟨d, hd, rfl⟩ := shownAll_mem ht
  exact (h d hd).ln
theorem Small.mono {d : PyData} {k k' n n' : Nat} (h : Small d k n) (hk : k ≤ k') (hn : n ≤ n') : Small d k' n' := ⟨h.sh, h.nd, Nat.le_trans h.dp hk, Nat.le_trans h.ln hn⟩
theorem ElX.small {m : Nat} {d : PyData} (hm : m < 10 ^ 40) (h : ElX m d) : Small d 1 6100 := by
  rcases h with h | ⟨ds, e, hl, q⟩
  · exact (sc_small hm h).mono (by decide) (by decide)
  · have hs : ∀ e ∈ ds, Small e 0 1002 := fun e he => sc_small hm (q e he)
    have hb : ds.length * (1002 + 2) ≤ 6 * 1004 := Nat.mul_le_mul_right _ hl
    rcases e with ⟨rfl, _⟩ | rfl
    · exact small_list hs (by omega)
    · exact small_tuple hs (by omega)
/-- what _law_changed makes -/
def spChg (K : PySem.W.Frag) : Sp := fun vs H Q _ => ∃ (b R L : Addr) (n : Int) (rs : List V) (ds : List PyData) (zs : List Str) (m : Nat), vs = [.ref b, .ref R, .ref L] ∧ Bag H b n ∧ n < 700000 ∧ R ≠ b ∧ L ≠ b ∧ H R = some (.lst rs) ∧ DpAll K H rs ds ∧ 1 ≤ ds.length ∧ ds.length ≤ 100 ∧ (∀ d ∈ ds, BdX m d) ∧
  H L = some (.lst (zs.map V.str)) ∧ 1 ≤ zs.length ∧ zs.length ≤ 100 ∧ (∀ z ∈ zs, isNm z = true) ∧
  ∀ F fs es G, H F = none → F ≠ b → Kept b H G → Bag G b (n + 3) → G F = some (.lst fs) → DpAll K G fs es → es.length ≤ 2 * ds.length → (∀ e ∈ es, ElX (m + 10 ^ 29) e) → Q (.ref F) G
theorem sc_any {K : PySem.W.Frag} {G G' : Hp} {m : Nat} {v : V} {d : PyData} (h : ScD m d) (q : Dp K G v d) : Dp K G' v d := by
  cases q with
  | non => exact .non
  | bl b => exact .bl b
  | int i => exact .int i
  | str x => exact .str x
  | lst => exact False.elim h
  | tup => exact False.elim h
theorem sc_anys {K : PySem.W.Frag} {G G' : Hp} {m : Nat} : ∀ {vs : List V} {ds : List PyData}, (∀ e ∈ ds, ScD m e) → DpAll K G vs ds → DpAll K G' vs ds
  | _, _, _, .nil => .nil
  | _, _, h, .cons a r => .cons (sc_any (h _ List.mem_cons_self) a) (sc_anys (fun e he => h e (List.mem_cons_of_mem _ he)) r)
/-- such a thing stands while all but the bag stands -/
theorem el_kept {K : PySem.W.Frag} {G G' : Hp} {b : Addr} {n : Int} {m : Nat} {v : V} {d : PyData} (hB : Bag G b n) (k : Kept b G G') (h : ElX m d) (q : Dp K G v d) : Dp K G' v d := by
  obtain ⟨bd, bm, bc, eb, _⟩ := hB
  rcases h with h | ⟨ds, e, hl, hs⟩
  · exact sc_any h q
  · rcases e with ⟨rfl, z, r, rfl⟩ | rfl
    · cases q with
      | lst hS hA =>
        refine .lst ?_ (sc_anys hs hA)
        cases hA with
        | cons h1 _ =>
          cases h1
          have hne : ∀ {a : Addr} {u : HO}, G a = some u → (∀ xs, u = .lst (.int bd :: xs) → False) → a ≠ b := by
            rintro a u h1 h2 rfl
            rw [eb] at h1
            exact h2 _ (Option.some.inj h1).symm
          rcases hS with (h | ⟨o2, h⟩) | h
          · exact .inl (.inl (k _ _ (hne h (fun _ z => nomatch z)) h))
          · exact .inl (.inr ⟨o2, k _ _ (hne h (fun _ z => nomatch z)) h⟩)
          · exact .inr h
    · cases q with
      | tup hS hA =>
        refine .tup ?_ (sc_anys hs hA)
        have hne : ∀ {a : Addr} {u : HO}, G a = some u → (∀ xs, u ≠ .lst xs) → a ≠ b := by
          rintro a u h1 h2 rfl
          rw [eb] at h1
          exact h2 _ (Option.some.inj h1).symm
        rcases hS with (h | ⟨o2, h⟩) | h
        · exact .inl (.inl (k _ _ (hne h (fun _ z => nomatch z)) h))
        · exact .inl (.inr ⟨o2, k _ _ (hne h (fun _ z => nomatch z)) h⟩)
        · exact .inr h
theorem els_kept {K : PySem.W.Frag} {G G' : Hp} {b : Addr} {n : Int} {m : Nat} (hB : Bag G b n) (k : Kept b G G') : ∀ {vs : List V} {ds : List PyData}, (∀ e ∈ ds, ElX m e) → DpAll K G vs ds → DpAll K G' vs ds
  | _, _, _, .nil => .nil
  | _, _, h, .cons a r => .cons (el_kept hB k (h _ List.mem_cons_self) a) (els_kept hB k (fun e he => h e (List.mem_cons_of_mem _ he)) r)
theorem el_bd {m : Nat} {d : PyData} (h : ElX m d) (q : bdD d = true) : BdX m d := by
  unfold bdD at q
  cases e : bd3 d with
  | none => rw [e] at q; cases q
  | some t =>
    obtain ⟨rfl, h1, h2, _⟩ := bd3_inv e
    refine ⟨t.1, t.2.1, t.2.2, rfl, h1, h2, ?_⟩
    rcases h with h | ⟨ds, e2, _, hs⟩
    · exact False.elim h
    · rcases e2 with ⟨e2, _⟩ | e2
      · cases e2
      · cases e2
        exact hs (.int t.2.2) (by simp)
end KX

set_option Elab.async false
set_option maxRecDepth 100000
set_option maxHeartbeats 2000000
/-! Facts that stand while nothing tracked changes (mv), or nothing but the bag (mb). -/
namespace KX
open PySem PySem.Spec PySem.Calls PyProof.Rows L2
theorem new_same {H G : Hp} {p : Addr} {o : HO} (e : upd H p o = G) (np : H p = none) : Same H G := e ▸ same_put np
theorem new_at {H G : Hp} {p : Addr} {o : HO} (e : upd H p o = G) : G p = some o := e ▸ upd_same
/-- a list at a, which is not the bag -/
structure LsA (b : Addr) (H : Hp) (a : Addr) (xs : List V) : Prop where
  ne : a ≠ b
  at_ : H a = some (.lst xs)
/-- what stood at first stands, and the bag is new -/
structure SmN (b : Addr) (H0 H : Hp) : Prop where
  no : H0 b = none
  sm : Same H0 H
theorem bag_nt {H : Hp} {b : Addr} {n : Int} (hB : Bag H b n) {a : Addr} {u : HO} (h : H a = some u) (q : ∀ xs, u ≠ .lst xs) : a ≠ b := by
  obtain ⟨d, m, c, e, _⟩ := hB
  rintro rfl
  rw [e] at h
  exact q _ (Option.some.inj h).symm
section
variable {K : PySem.W.Frag} {b a : Addr} {H G : Hp} {n : Int}
theorem _root_.Eq.mv {o : HO} (h : H a = some o) (s : Same H G) : G a = some o := s _ _ h
theorem _root_.L2.SqL.mv {xs : List V} (h : SqL K H a xs) (s : Same H G) : SqL K G a xs := s.seq h
theorem _root_.L2.SqT.mv {xs : List V} (h : SqT K H a xs) (s : Same H G) : SqT K G a xs := sqT_same s h
theorem _root_.L2.Dp.mv {x : V} {d : PyData} (h : Dp K H x d) (s : Same H G) : Dp K G x d := dp_same s _ _ h
theorem _root_.L2.DpAll.mv {xs : List V} {ds : List PyData} (h : DpAll K H xs ds) (s : Same H G) : DpAll K G xs ds := dps_same s _ _ h
theorem _root_.L2.Same.mv {H0 : Hp} (h : Same H0 H) (s : Same H G) : Same H0 G := h.trans s
theorem Bag.mv (h : Bag H b n) (s : Same H G) : Bag G b n := by obtain ⟨d, m, c, e, r⟩ := h; exact ⟨d, m, c, s _ _ e, r⟩
theorem LsA.mv {xs : List V} (h : LsA b H a xs) (s : Same H G) : LsA b G a xs := ⟨h.1, s _ _ h.2⟩
theorem SmN.mv {H0 : Hp} (h : SmN b H0 H) (s : Same H G) : SmN b H0 G := ⟨h.1, h.2.trans s⟩
theorem _root_.Eq.mb {o : HO} (h : H a = some o) (hB : Bag H b n) (k : Kept b H G) (q : ∀ xs, o ≠ .lst xs := by exact nofun) : G a = some o := k _ _ (bag_nt hB h q) h
theorem _root_.L2.SqT.mb {xs : List V} (h : SqT K H a xs) (hB : Bag H b n) (k : Kept b H G) : SqT K G a xs := by
  rcases h with (h | ⟨o2, h⟩) | h
  · exact .inl (.inl (k _ _ (bag_nt hB h nofun) h))
  · exact .inl (.inr ⟨o2, k _ _ (bag_nt hB h nofun) h⟩)
  · exact .inr h
theorem LsA.mb {xs : List V} (h : LsA b H a xs) (_ : Bag H b n) (k : Kept b H G) : LsA b G a xs := ⟨h.1, k _ _ h.1 h.2⟩
theorem SmN.mb {H0 : Hp} (h : SmN b H0 H) (_ : Bag H b n) (k : Kept b H G) : SmN b H0 G := ⟨h.1, fun x o e => k x o (ne_of_none e h.1) (h.2 _ _ e)⟩
end
theorem SmN.off {b D : Addr} {H0 H : Hp} {o : HO} (h : SmN b H0 H) (n : H0 D = none) : SmN b H0 (upd H D o) := ⟨h.1, fun y u e => (upd_ne (ne_of_none e n)).trans (h.2 _ _ e)⟩
theorem LsA.off {b a D : Addr} {H : Hp} {xs : List V} {o : HO} (h : LsA b H a xs) (n : a ≠ D) : LsA b (upd H D o) a xs := ⟨h.1, (upd_ne n).trans h.2⟩
theorem intsDp {K : PySem.W.Frag} {H : Hp} : ∀ zs : List Int, DpAll K H (zs.map V.int) (zs.map PyData.int)
  | [] => .nil
  | z :: r => .cons (.int z) (intsDp r)
theorem listSh {ds : List PyData} {k : Nat} (hk : k < 60) (h : ∀ d ∈ ds, d.canLay0 = true ∧ d.depth ≤ k) : SeqAt.shaped (.list ds) = true := by
  obtain ⟨l1, l2⟩ := lay_all (k := k) h
  exact Bool.and_eq_true_iff.mpr ⟨l1, decide_eq_true (by show PyData.depthAll ds + 1 ≤ _; omega)⟩
theorem tupSh {ds : List PyData} {k : Nat} (hk : k < 60) (h : ∀ d ∈ ds, d.canLay0 = true ∧ d.depth ≤ k) : SeqAt.shaped (.tuple ds) = true := by
  obtain ⟨l1, l2⟩ := lay_all (k := k) h
  exact Bool.and_eq_true_iff.mpr ⟨l1, decide_eq_true (by show PyData.depthAll ds + 1 ≤ _; omega)⟩
theorem intsSh (zs : List Int) : SeqAt.shaped (.list (zs.map PyData.int)) = true := listSh (k := 0) (by decide) fun d hd => by
  obtain ⟨z, _, rfl⟩ := List.mem_map.mp hd
  exact ⟨rfl, Nat.zero_le _⟩
theorem fresh_k {b p : Addr} {H G : Hp} (k : Kept b H G) (ne : p ≠ b) (n : G p = none) : H p = none := by
  cases e : H p with
  | none => rfl
  | some o => rw [k p o ne e] at n; cases n
theorem kept_upd {b p : Addr} {H G : Hp} {o : HO} (k : Kept b H G) (n : H p = none) : Kept b H (upd G p o) := fun x u ne e => (upd_ne (ne_of_none e n)).trans (k x u ne e)
theorem _root_.KX.Kept.mv {b : Addr} {H G G' : Hp} (k : Kept b H G) (s : Same G G') : Kept b H G' := fun x o ne e => s _ _ (k x o ne e)
theorem mergeK_new {kvs : List (Key × V)} (h : (kvs.map (·.1)).Nodup) : mergeK [] kvs = kvs := by
  have : ∀ (kvs acc : List (Key × V)), ((acc ++ kvs).map (·.1)).Nodup → mergeK acc kvs = acc ++ kvs := by
    intro kvs
    induction kvs with
    | nil => intro acc _; simp [mergeK]
    | cons kv r ih =>
      intro acc hn
      unfold mergeK
      rw [List.foldl_cons]
      have hnot : (acc.any fun x => decide (x.1 = kv.1)) = false := by
        rw [List.any_eq_false]
        intro x hx
        rw [List.map_append, List.nodup_append] at hn
        have := hn.2.2 x.1 (List.mem_map_of_mem hx) kv.1 (by simp)
        simpa using this
      have e : putK acc kv.1 kv.2 = acc ++ [kv] := by
        unfold putK
        rw [hnot]
        rfl
      rw [e]
      have := ih (acc ++ [kv]) (by rw [List.append_assoc]; exact hn)
      unfold mergeK at this
      rw [this, List.append_assoc]
      rfl
  have := this kvs [] (by simpa using h)
  simpa using this
/-- a new object, and all as it was -/
theorem LsA.new {b p : Addr} {H : Hp} {n : Int} {xs : List V} {G : Hp} (hB : Bag H b n) (np : H p = none) (h : G p = some (.lst xs)) : LsA b G p xs := ⟨hB.ne np, h⟩
section
variable {X : Cx} {CX : CXT} {k : Nat} {f C : Addr} {sp : Sp} {E : L2.St → XK} {x : Str} {e : Expr} {es : List Expr} {t : TA} {p pos : Pos}
/-- C(..) in a try: what is raised may be told by the slots -/
def tMakeRS (C : Addr) (sp : Sp) (E : L2.St → XK) (t : TA) : TE := fun σ H Q => t σ H fun vs H1 => ∀ x dx, H1 x = Option.none → H1 dx = Option.none → dx ≠ x →
  sp (V.ref x :: vs) (upd (upd H1 dx (.own x)) x (.ins C dx [])) (fun v H2 => v = .non ∧ Q (.ref x) H2) (E σ)
theorem run_makeRS {pins : List (Addr × Obj)} {σ : L2.St} {H : Hp} {s : Shared} {Q : VK} {us : List Value} {vs : List V} {E : XK} (M : Mk X.K C f) (F : FnR X.prog X.w X.K X.mg X.base CX k f sp) (hr : Room (k + 1) X.A) (hx : PassesAt CX X σ E) (I : Inv X pins σ H s) (r : Vals vs us)
    (h : ∀ x dx, H x = Option.none → H dx = Option.none → dx ≠ x → sp (V.ref x :: vs) (upd (upd H dx (.own x)) x (.ins C dx [])) (fun v H2 => v = .non ∧ Q (.ref x) H2) E) :
    wpAny (model X.prog X.w) X.A (call (.ref C) us) (EP X pins σ Q) X.xe s := by
  have hq := h (s.heap.objs.size + 1) s.heap.objs.size (I.hok.fresh (Nat.le_succ _)) (I.hok.fresh (Nat.le_refl _)) (Nat.ne_of_lt (Nat.lt_succ_self _))
  have I2 := Inv.made (C := C) I
  have r2 : Vals (V.ref (s.heap.objs.size + 1) :: vs) (Value.ref (s.heap.objs.size + 1) :: us) := .cons rfl r
  refine wpAny_call (make_map (f := f) I.kIn M.makes M.init (beq_iff_eq.mp M.fn) (codeAny_mono (F _ X.stack _ _ (Value.ref (s.heap.objs.size + 1) :: us) _ _ E (hr.make C us []) (I2.env0.make C us []) r2 hq) fun r s' hq' => ?_))
  cases r with
  | error e => exact hx pins _ _ e s' I2 hq'
  | ok fl =>
    cases fl with
    | ret u =>
      obtain ⟨v, H', I3, rv, ev, q3⟩ := I2.after hq'
      subst ev
      exact ⟨rv, ⟨V.ref (s.heap.objs.size + 1), H', I3, rfl, q3⟩⟩
    | next => exact False.elim hq'
    | brk => exact False.elim hq'
    | cont => exact False.elim hq'
theorem pe_makeRS (M : Mk X.K C f) (F : FnR X.prog X.w X.K X.mg X.base CX k f sp) (hr : Room (k + 1) X.A) (hg : Gl X x) (hm : X.mg x = some (.ref C)) (hx : ∀ σ, PassesAt CX X σ (E σ)) (ha : PA X (e :: es) t) (hdb : (x == ("__debug__" : Str)) = false := by decide)
    (he : starEach (e :: es) X.env = (false, eval e X.env) :: starEach es X.env := by rfl) (hpl : (backTo pos (starEach es X.env)).any (·.1) = false := by rfl) : PE X (.Call (.Name x p) (e :: es) [] pos) (tMakeRS C sp E t) := by
  refine ⟨fun pins s σ H Q I h => ?_⟩
  refine wpAny_Call_Name_kw (ld_glob I hg hm ?_ hdb)
  refine PySem.W.callWith_K (h₀ := X.base) I.ok.mod.kin M.kp (thn (ha.run pos pins s σ H _ I h) fun us s1 ⟨vs, H1, I1, r, q⟩ => ⟨I1.kIn, ?_⟩) he hpl
  exact run_makeRS M F hr (hx σ) I1 r q
theorem pe_makeR0S (M : Mk X.K C f) (F : FnR X.prog X.w X.K X.mg X.base CX k f sp) (hr : Room (k + 1) X.A) (hg : Gl X x) (hm : X.mg x = some (.ref C)) (hx : ∀ σ, PassesAt CX X σ (E σ))
    (hdb : (x == ("__debug__" : Str)) = false := by decide) : PE X (.Call (.Name x p) [] [] pos) (tMakeRS C sp E tNil) := by
  refine ⟨fun pins s σ H Q I h => ?_⟩
  refine wpAny_Call_Name_kw (ld_glob I hg hm ?_ hdb)
  exact PySem.W.callWith_K0 I.kIn M.kp (run_makeRS (us := []) M F hr (hx σ) I .nil h)
end
end KX

set_option Elab.async false
set_option maxRecDepth 100000
set_option maxHeartbeats 2000000
/-! The pool that a law draws from: what stands in it, what is promised of a draw. -/
namespace KX
open PySem PySem.Spec PyProof.Rows L2
/-- the pool at p, whose great numbers stand at g -/
def Pool (H : Hp) (p g : Addr) : Prop := ∃ (s : Addr) (c m : Int) (gs ss : List Int), H p = some (.lst [.int c, .int m, .ref g, .ref s]) ∧ 0 ≤ c ∧ 0 ≤ m ∧ m < 2147483647 ∧ H g = some (.lst (gs.map V.int)) ∧ (∀ x ∈ gs, 0 ≤ x) ∧ gs.length ≤ 63 ∧
  H s = some (.lst (ss.map V.int)) ∧ (∀ x ∈ ss, 0 ≤ x ∧ x < 10 ^ 18) ∧ 1 ≤ ss.length ∧ ss.length ≤ 64 ∧ p ≠ g ∧ p ≠ s ∧ g ≠ s
/-- what was tracked is as it was, but the pool -/
def KeptP (p g : Addr) (H H' : Hp) : Prop := ∀ x o, x ≠ p → x ≠ g → H x = some o → H' x = some o
theorem KeptP.refl (p g : Addr) (H : Hp) : KeptP p g H H := fun _ _ _ _ e => e
theorem KeptP.trans {p g : Addr} {H H1 H2 : Hp} (h : KeptP p g H H1) (k : KeptP p g H1 H2) : KeptP p g H H2 := fun x o n n2 e => k x o n n2 (h x o n n2 e)
theorem KeptP.same {p g : Addr} {H H1 H2 : Hp} (h : KeptP p g H H1) (k : Same H1 H2) : KeptP p g H H2 := fun x o n n2 e => k x o (h x o n n2 e)
theorem Pool.mv {H G : Hp} {p g : Addr} (h : Pool H p g) (k : Same H G) : Pool G p g := by
  obtain ⟨s, c, m, gs, ss, h1, h2, h3, h4, h5, h6, h7, h8, h9⟩ := h
  exact ⟨s, c, m, gs, ss, k _ _ h1, h2, h3, h4, k _ _ h5, h6, h7, k _ _ h8, h9⟩
theorem Pool.ne {H : Hp} {p g q : Addr} (h : Pool H p g) (hq : H q = none) : q ≠ p ∧ q ≠ g := by
  obtain ⟨s, c, m, gs, ss, h1, h2, h3, h4, h5, _⟩ := h
  exact ⟨(ne_of_none h1 hq).symm, (ne_of_none h5 hq).symm⟩
/-- what is no list stands while is drawn -/
theorem Pool.nt {H : Hp} {p g : Addr} (hB : Pool H p g) {a : Addr} {u : HO} (h : H a = some u) (q : ∀ xs, u ≠ .lst xs) : a ≠ p ∧ a ≠ g := by
  obtain ⟨s, c, m, gs, ss, h1, h2, h3, h4, h5, _⟩ := hB
  refine ⟨?_, ?_⟩
  · rintro rfl
    rw [h1] at h
    exact q _ (Option.some.inj h).symm
  · rintro rfl
    rw [h5] at h
    exact q _ (Option.some.inj h).symm
/-- _law_pool -/
def spPool (K : PySem.W.Frag) : Sp := fun vs H Q _ => ∃ (a : Addr) (ns : List Int), vs = [.ref a] ∧ SqL K H a (ns.map V.int) ∧ ns.length ≤ 63 ∧ ∀ p g G, H p = none → H g = none → Same H G → Pool G p g → Q (.ref p) G
/-- _law_draw -/
def spDrawP : Sp := fun vs H Q _ => ∃ (p g : Addr) (limit : Int), vs = [.ref p, .int limit] ∧ Pool H p g ∧ 0 < limit ∧ limit.natAbs < 2 ^ 200 ∧ ∀ (r : Int) (G : Hp), 0 ≤ r → r < limit → KeptP p g H G → Pool G p g → Q (.int r) G
end KX

set_option Elab.async false
set_option maxRecDepth 100000
set_option maxHeartbeats 2000000
namespace K24
open PySem PySem.Spec PyProof.Rows L2 He KX
abbrev FnP (K : PySem.W.Frag) (x : Str) (st : Stmt) (f : Addr) (fd : FuncData) : Prop := FunD K x x (defArgs st) (defBody st) (defScope st) [] [] f fd
abbrev sLPool : Stmt := top 27
abbrev sLDraw : Stmt := top 28
theorem yes {b : Bool} {A B : Prop} (h : b = true) (a : A) : if b = true then A else B := by rw [if_pos h]; exact a
theorem no {b : Bool} {A B : Prop} (h : b = false) (a : B) : if b = true then A else B := by rw [if_neg (by rw [h]; decide)]; exact a
theorem seq_by {A B : TS} {D : Ends} {σ : L2.St} {H : Hp} (R : L2.St → Hp → Prop) (h2 : ∀ σ H, R σ H → B D σ H) (h1 : (∀ σ H, R σ H → B D σ H) → A { D with nx := fun σ H => B D σ H } σ H) : tSeq A B D σ H := h1 h2
theorem a0 (x : Int) (r : List Int) : atI ((x :: r).map V.int) 0 = some (.int x) := atI_nat (j := 0) rfl
section
variable {P : Program} {w : World} {K : PySem.W.Frag} {mg : Str → Option Value} {base : Heap}
theorem scLDraw : FnScope ["pool", "limit", "small", "mixed", "great", "drawn"] ["pool", "limit"] (defScope sLDraw) := ⟨rfl, rfl, rfl, by decide +kernel, rfl, by decide +kernel, by decide +kernel⟩
theorem ok_drawP {f : Addr} {fd : FuncData} (F : FnP K "_law_draw" sLDraw f fd) (n_int : mg "int" = none) (n_len : mg "len" = none) : FnOk P w K mg base CX0 1 f fd ["pool", "limit"] spDrawP := by
  refine F.ok scLDraw (fun vs H Q E h => ?_) (fun cdv A outer s H vs Q E hr h => ?_)
  · obtain ⟨p, g, limit, rfl, _⟩ := h
    rfl
  · obtain ⟨p, g, limit, rfl, ⟨s0, c, m, gs, ss, hp, hc, hm0, hm, hg, hgs, hgl, hs, hss, hs1, hs2, npg, nps, ngs⟩, hl, hw, k⟩ := h
    have nd := scLDraw.nd
    have hu64 := hr.units
    have hu := Nat.lt_of_le_of_lt (Nat.add_le_add_left (by decide : 1 ≤ 64) _) hr.units
    refine ⟨_, PSs.nox (pss_cons (ps_asg (pe_op op_add (pe_ix ix_list (pv 0) pe_int (fun _ _ => rfl)) pe_int) (pg_sub (pv 0) pe_int set_list))
(pss_cons (ps_set (i := 2) nd rfl (Or.inl rfl) (pe_ix ix_list (pv 0) pe_int (fun _ _ => rfl)))
(pss_cons (ps_set (i := 3) nd rfl (Or.inl rfl) (pe_op op_add (pe_op op_mul (pe_ix ix_list (pv 0) pe_int (fun _ _ => rfl)) pe_int) (pe_op op_mul (pe_ix ix_list (pv 2) (pe_op op_modN (pe_ix ix_list (pv 0) pe_int (fun _ _ => rfl)) (pe_callB call_len_seq (by rfl) n_len PySem.boot_len (pa_cons (pv 2) pa_nil))) (fun _ _ => rfl)) pe_int)))
(pss_cons (ps_asg (pe_op op_modN (pe_callTy call_int1 (by rfl) n_int (by decide +kernel) (pa_cons (pe_op op_add (pe_op op_add (pv 3) (pe_op op_mul (pe_ix ix_list (pv 0) pe_int (fun _ _ => rfl)) pe_int)) pe_int) pa_nil)) pe_int) (pg_sub (pv 0) pe_int set_list))
(pss_cons (ps_set (i := 4) nd rfl (Or.inl rfl) (pe_ix ix_list (pv 0) pe_int (fun _ _ => rfl)))
(pss_cons (ps_while PassesOwn.never (PW.pt (pw_and (pt_cmpR (op_neD hu64) (pv 4) (pe_lst pa_nil) (nomark _)) (pw_and1 (pt_cmpR op_eq (pe_ix ix_list (pv 4) pe_int (fun _ _ => rfl)) pe_int (nomark _)))))
(pss_one (ps_expr (pe_bm PySem.F.plainAttrs_list PySem.F.slot_list_pop PySem.F.type_list_pop mt_popAt (pv 4) (pa_cons pe_int pa_nil)))))
(pss_cons (ps_if (pt_cmpR (op_eqD hu64) (pv 4) (pe_lst pa_nil) (nomark _))
(pss_one (ps_ret (pe_op op_modN (pe_callTy call_int1 (by rfl) n_int (by decide +kernel) (pa_cons (pe_op op_fdivN (pe_ix ix_list (pv 0) pe_int (fun _ _ => rfl)) pe_int) pa_nil)) (pv 1))))
pss_nil)
(pss_cons (ps_set (i := 5) nd rfl (Or.inl rfl) (pe_op op_modN (pe_callTy call_int1 (by rfl) n_int (by decide +kernel) (pa_cons (pe_ix ix_list (pv 4) pe_int (fun _ _ => rfl)) pa_nil)) (pv 1)))
(pss_cons (ps_asg (pe_op op_fdivW (pe_ix ix_list (pv 4) pe_int (fun _ _ => rfl)) (pv 1)) (pg_sub (pv 4) pe_int set_list))
(pss_one (ps_ret (pv 5)))))))))))), ?_⟩
    -- the count
    refine ⟨_, rfl, _, _, _, _, rfl, rfl, SqL.of hp, rfl, _, _, rfl, rfl, _, rfl, p, _, 0, _, rfl, rfl, hp, rfl, ?_⟩
    have hp1 : upd H p (.lst [.int (c + 1), .int m, .ref g, .ref s0]) p = some (.lst [.int (c + 1), .int m, .ref g, .ref s0]) := upd_same
    have hg1 := (upd_ne (H := H) (o := .lst [.int (c + 1), .int m, .ref g, .ref s0]) npg.symm).trans hg
    have hs1' := (upd_ne (H := H) (o := .lst [.int (c + 1), .int m, .ref g, .ref s0]) nps.symm).trans hs
    have kk : KeptP p g H (upd H p (.lst [.int (c + 1), .int m, .ref g, .ref s0])) := fun x o n _ e => (upd_ne n).trans e
    -- small, mixed
    obtain ⟨f1, f2⟩ := fmod_in (x := c + 1) (y := (ss.length : Int)) (by omega)
    obtain ⟨jx, hjx⟩ : ∃ j : Nat, (c + 1).fmod (ss.length : Int) = j := ⟨_, (Int.toNat_of_nonneg f1).symm⟩
    have hj : jx < ss.length := by omega
    have hx : atI (ss.map V.int) ((c + 1).fmod (ss.length : Int)) = some (.int ss[jx]) := by
      rw [hjx]
      exact atI_nat (by rw [List.getElem?_map, List.getElem?_eq_getElem hj]; rfl)
    have hmem := hss _ (List.getElem_mem hj)
    refine ⟨_, rfl, _, _, _, _, rfl, rfl, SqL.of hp1, rfl, ?_⟩
    dsimp only [gName, List.set]
    refine ⟨_, rfl, _, _, _, _, rfl, rfl, SqL.of hp1, rfl, _, _, rfl, rfl, .inr ⟨by decide, by decide⟩, _, rfl, _, rfl, _, _, _, _, rfl, rfl, SqL.of hp1, rfl, _, rfl, s0, _, rfl, .inl (SqL.of hs1'), _, _, rfl, rfl, (by rw [List.length_map]; omega), s0, _, _, _, rfl, rfl, SqL.of hs1', (by rw [List.length_map]; exact hx), _, _, rfl, rfl, .inr ⟨by decide, by decide⟩, _, _, rfl, rfl, ?_⟩
    refine ⟨_, rfl, _, rfl, _, _, _, _, rfl, rfl, SqL.of hp1, rfl, _, _, rfl, rfl, .inr ⟨by decide, by decide⟩, _, _, rfl, rfl, _, _, rfl, rfl, .inl ⟨_, rfl, _, _, rfl, rfl, (by show (2147483647 : Int) ≠ 0; decide), ?_⟩⟩
    have hp2 : upd (upd H p (.lst [.int (c + 1), .int m, .ref g, .ref s0])) p (.lst [.int (c + 1), .int ((m * 69621 + ss[jx] * 48271 + (c + 1) * 40503 + 977).fmod 2147483647), .ref g, .ref s0]) p = some (.lst [.int (c + 1), .int ((m * 69621 + ss[jx] * 48271 + (c + 1) * 40503 + 977).fmod 2147483647), .ref g, .ref s0]) := upd_same
    have hg2 := (upd_ne (o := .lst [.int (c + 1), .int ((m * 69621 + ss[jx] * 48271 + (c + 1) * 40503 + 977).fmod 2147483647), .ref g, .ref s0]) npg.symm).trans hg1
    have hs2' := (upd_ne (o := .lst [.int (c + 1), .int ((m * 69621 + ss[jx] * 48271 + (c + 1) * 40503 + 977).fmod 2147483647), .ref g, .ref s0]) nps.symm).trans hs1'
    have kk2 : KeptP p g H (upd (upd H p (.lst [.int (c + 1), .int m, .ref g, .ref s0])) p (.lst [.int (c + 1), .int ((m * 69621 + ss[jx] * 48271 + (c + 1) * 40503 + 977).fmod 2147483647), .ref g, .ref s0])) := fun x o n n2 e => (upd_ne n).trans (kk x o n n2 e)
    refine ⟨_, rfl, p, _, 1, _, rfl, rfl, hp1, rfl, ?_⟩
    refine ⟨_, rfl, _, _, _, _, rfl, rfl, SqL.of hp2, rfl, ?_⟩
    dsimp only [gName, List.set]
    obtain ⟨q1, q2⟩ := fmod_in (x := m * 69621 + ss[jx] * 48271 + (c + 1) * 40503 + 977) (y := 2147483647) (by decide)
    refine seq_by (fun σ G => ∃ (m2 : Int) (gs2 : List Int) (v3 v5 : Option V), σ = [some (.ref p), some (.int limit), some (.ref s0), v3, some (.ref g), v5] ∧ G p = some (.lst [.int (c + 1), .int m2, .ref g, .ref s0]) ∧ 0 ≤ m2 ∧ m2 < 2147483647 ∧ G g = some (.lst (gs2.map V.int)) ∧ (∀ x ∈ gs2, 0 ≤ x) ∧ gs2.length ≤ 63 ∧ G s0 = some (.lst (ss.map V.int)) ∧ KeptP p g H G) ?_ (fun nxt => ?_)
    · clear hp hg hs hp1 hg1 hs1' hp2 hg2 hs2' kk kk2 q1 q2 hgs hgl
      rintro σ G ⟨m2, gs2, v3, v5, rfl, hp, hm20, hm21, hg, hgs, hgl, hs, kk⟩
      refine ⟨_, rfl, by decide, fun E2 nE2 => ?_⟩
      generalize e_G2 : upd _ E2 _ = G2
      have s_E2 := new_same e_G2 nE2
      have f_E2 := new_at e_G2
      clear e_G2
      have hp := hp.mv s_E2
      have hg := hg.mv s_E2
      have hs := hs.mv s_E2
      have kk := kk.same s_E2
      refine ⟨_, _, .lst (SqL.of hg) (intsDp gs2), .lst (SqL.of f_E2) .nil, intsSh gs2, by decide, _, rfl, ?_⟩
      clear s_E2 f_E2 nE2
      cases gs2 with
      | nil =>
        refine yes rfl ?_
        refine ⟨_, rfl, _, _, _, _, rfl, rfl, SqL.of hp, rfl, _, _, rfl, rfl, ⟨by decide, by decide⟩, .inl ⟨_, rfl, _, rfl, _, _, rfl, rfl, (by omega), ?_⟩⟩
        exact k _ _ (fmod_in hl).1 (fmod_in hl).2 kk ⟨s0, c + 1, m2, [], ss, hp, by omega, hm20, hm21, hg, hgs, hgl, hs, hss, hs1, hs2, npg, nps, ngs⟩
      | cons x r =>
        refine no rfl ?_
        refine ⟨_, rfl, _, _, _, .int x, rfl, rfl, SqL.of hg, a0 x r, .inl ⟨_, rfl, _, rfl, _, _, rfl, rfl, (by omega), ?_⟩⟩
        dsimp only [gName, List.set]
        refine ⟨_, rfl, _, _, _, .int x, rfl, rfl, SqL.of hg, a0 x r, _, rfl, _, _, rfl, rfl, wide_div hl hw (by decide) (by decide), _, rfl, g, _, 0, 0, rfl, rfl, hg, ixN_nat (j := 0) (by rw [List.length_map]; exact Nat.succ_pos _), ?_⟩
        refine ⟨_, rfl, ?_⟩
        refine k _ _ (fmod_in hl).1 (fmod_in hl).2 (fun y o n n2 e => (upd_ne n2).trans (kk y o n n2 e)) ⟨s0, c + 1, m2, (x / limit) :: r, ss, (upd_ne npg).trans hp, by omega, hm20, hm21, upd_same, fun y hy => ?_, hgl, (upd_ne ngs.symm).trans hs, hss, hs1, hs2, npg, nps, ngs⟩
        rcases List.mem_cons.mp hy with rfl | hy
        · exact Int.ediv_nonneg (hgs x List.mem_cons_self) (by omega)
        · exact hgs y (List.mem_cons_of_mem _ hy)
    · refine ⟨fun n σ G => ∃ (gs2 : List Int) (v3 v5 : Option V), n = gs2.length ∧ σ = [some (.ref p), some (.int limit), some (.ref s0), v3, some (.ref g), v5] ∧ G p = some (.lst [.int (c + 1), .int ((m * 69621 + ss[jx] * 48271 + (c + 1) * 40503 + 977).fmod 2147483647), .ref g, .ref s0]) ∧ G g = some (.lst (gs2.map V.int)) ∧ (∀ x ∈ gs2, 0 ≤ x) ∧ gs2.length ≤ 63 ∧ G s0 = some (.lst (ss.map V.int)) ∧ KeptP p g H G, ⟨_, gs, _, _, rfl, rfl, hp2, hg2, hgs, hgl, hs2', kk2⟩, ?_⟩
      clear hp hg hs hp1 hg1 hs1' hp2 hg2 hs2' kk kk2 hgs hgl
      rintro n σ G ⟨gs2, v3, v5, rfl, rfl, hp, hg, hgs, hgl, hs, kk⟩
      refine ⟨_, rfl, by decide, fun E1 nE1 => ?_⟩
      generalize e_G2 : upd _ E1 _ = G2
      have s_E1 := new_same e_G2 nE1
      have f_E1 := new_at e_G2
      clear e_G2
      have hp := hp.mv s_E1
      have hg := hg.mv s_E1
      have hs := hs.mv s_E1
      have kk := kk.same s_E1
      refine ⟨_, _, .lst (SqL.of hg) (intsDp gs2), .lst (SqL.of f_E1) .nil, intsSh gs2, by decide, _, rfl, ?_⟩
      clear s_E1 f_E1 nE1
      cases gs2 with
      | nil =>
        refine no rfl (no rfl ?_)
        exact nxt _ _ ⟨_, [], v3, v5, rfl, hp, q1, q2, hg, hgs, hgl, hs, kk⟩
      | cons x r =>
        refine yes rfl ?_
        refine ⟨_, rfl, _, _, _, .int x, rfl, rfl, SqL.of hg, a0 x r, rfl, _, rfl, ?_⟩
        by_cases cx : x = 0
        · refine yes (decide_eq_true (congrArg V.int cx)) ?_
          refine ⟨_, fun _ _ h => h, ?_⟩
          refine ⟨_, rfl, .inl ⟨rfl, _, SqL.of hg⟩, g, (x :: r).map V.int, 0, 0, .int x, rfl, rfl, hg, by decide, by decide, seqIndex_of (k := 0) (by decide) (by rw [List.length_map, List.length_cons]; omega), rfl, ?_⟩
          refine ⟨r.length, Nat.lt_succ_self _, r, v3, v5, rfl, rfl, (upd_ne npg).trans hp, upd_same, fun y hy => hgs y (List.mem_cons_of_mem _ hy), by rw [List.length_cons] at hgl; omega, (upd_ne ngs.symm).trans hs, fun y o n n2 e => (upd_ne n2).trans (kk y o n n2 e)⟩
        · refine no (decide_eq_false fun e => cx (by injection e)) ?_
          exact nxt _ _ ⟨_, x :: r, v3, v5, rfl, hp, q1, q2, hg, hgs, hgl, hs, kk⟩
theorem scLPool : FnScope ["script", "great", "small", "cell", "number"] ["script"] (defScope sLPool) := ⟨rfl, rfl, rfl, by decide +kernel, rfl, by decide +kernel, by decide +kernel⟩
theorem ok_poolP {f : Addr} {fd : FuncData} (F : FnP K "_law_pool" sLPool f fd) (n_int : mg "int" = none) (n_len : mg "len" = none) (n_abs : mg "abs" = none) (n_min : mg "min" = none) : FnOk P w K mg base CX0 1 f fd ["script"] (spPool K) := by
  refine F.ok scLPool (fun vs H Q E h => ?_) (fun cdv A outer s H vs Q E hr h => ?_)
  · obtain ⟨a, ns, rfl, _⟩ := h
    rfl
  · obtain ⟨a, ns, rfl, hS, hl, k⟩ := h
    have nd := scLPool.nd
    have hu := Nat.lt_of_le_of_lt (Nat.add_le_add_left (by decide : 1 ≤ 64) _) hr.units
    refine ⟨_, PSs.nox (pss_cons (ps_set (i := 1) nd rfl (Or.inl rfl) (pe_lst pa_nil))
(pss_cons (ps_set (i := 2) nd rfl (Or.inl rfl) (pe_lst (pa_cons pe_int pa_nil)))
(pss_cons (ps_for PassesOwn.never rfl (pi_list (pe_slice sl_list (pv 0) po_none (po_some pe_int))) (pg_name (i := 3) nd rfl (Or.inl rfl))
(pss_cons (ps_set (i := 4) nd rfl (Or.inl rfl) (pe_op op_add (pe_op op_mul (pe_callB call_abs (by rfl) n_abs (by decide +kernel) (pa_cons (pe_callTy call_int1 (by rfl) n_int (by decide +kernel) (pa_cons (pv 3) pa_nil)) pa_nil)) pe_int) (pe_callTy call_int1 (by rfl) n_int (by decide +kernel) (pa_cons (pe_cmpR op_lt (pv 3) pe_int (nomark _)) pa_nil))))
(pss_one (ps_if (pt_cmpR op_ge (pv 4) (pe_op op_pow pe_int pe_int) (nomark _))
(pss_one (ps_expr (pe_bm PySem.F.plainAttrs_list PySem.F.slot_list_append PySem.F.type_list_append mt_append (pv 1) (pa_cons (pv 4) pa_nil))))
(pss_one (ps_expr (pe_bm PySem.F.plainAttrs_list PySem.F.slot_list_append PySem.F.type_list_append mt_append (pv 2) (pa_cons (pv 4) pa_nil))))))))
(pss_one (ps_ret (pe_lst (pa_cons pe_int (pa_cons pe_int (pa_cons (pv 1) (pa_cons (pe_slice sl_list (pv 2) (po_some (pe_callB (call_min2 rfl) (by rfl) n_min (by decide +kernel) (pa_cons pe_int (pa_cons (pe_op op_sub (pe_callB call_len_seq (by rfl) n_len PySem.boot_len (pa_cons (pv 2) pa_nil)) pe_int) pa_nil)))) po_none) pa_nil)))))))))), ?_⟩
    refine ⟨by decide, fun g ng => ?_⟩
    generalize e_G1 : upd _ g _ = G1
    have s_g := new_same e_G1 ng
    have f_g := new_at e_G1
    clear e_G1
    refine ⟨(by show 1 ≤ sizeLine; decide), fun t nt => ?_⟩
    have ntH := s_g.free nt
    have ngt : g ≠ t := ne_of_none f_g nt
    generalize e_G2 : upd _ t _ = G2
    have s_t := new_same e_G2 nt
    have f_t := new_at e_G2
    clear e_G2
    have s_g := s_g.mv s_t
    have f_g := f_g.mv s_t
    dsimp only [gName, List.set]
    refine ⟨_, rfl, _, rfl, a, _, rfl, s_g.seq hS, fun C nC => ?_⟩
    have nCH := s_g.free nC
    have nCg : g ≠ C := ne_of_none f_g nC
    have nCt : t ≠ C := ne_of_none f_t nC
    have ecut : cutV (ns.map V.int) none (some 63) = ns.map V.int := by
      unfold cutV
      rw [show (some 63 : Option Int) = some ((63 : Nat) : Int) from rfl, HT.sIx_nat, show HT.sIx (ns.map V.int).length 0 none = 0 from rfl, List.drop_zero]
      exact List.take_of_length_le (by rw [List.length_map]; omega)
    rw [ecut]
    generalize e_G3 : upd _ C _ = G3
    have s_C := new_same e_G3 nC
    have f_C := new_at e_G3
    clear e_G3
    have s_g := s_g.mv s_C
    have f_g := f_g.mv s_C
    have f_t := f_t.mv s_C
    refine ⟨C, rfl, ⟨_, SqL.of f_C⟩, ?_⟩
    refine for_it (walk_list (K := K) (a := C) (xs := ns.map V.int)) (fun j σ G => ∃ (v3 v4 : Option V) (gs ss : List Int), σ = [some (.ref a), some (.ref g), some (.ref t), v3, v4] ∧ Same H G ∧ G C = some (.lst (ns.map V.int)) ∧ G g = some (.lst (gs.map V.int)) ∧ (∀ x ∈ gs, 0 ≤ x) ∧ gs.length ≤ j ∧ G t = some (.lst ((0 :: ss).map V.int)) ∧ (∀ x ∈ ss, 0 ≤ x ∧ x < 10 ^ 18) ∧ ss.length ≤ j)
      ⟨_, _, [], [], rfl, s_g, f_C, f_g, (fun _ z => nomatch z), Nat.le_refl _, f_t, (fun _ z => nomatch z), Nat.le_refl _⟩ (fun _ _ _ _ h => by obtain ⟨_, _, _, _, _, _, q, _⟩ := h; exact SqL.of q) ?_ ?_
    · clear s_g f_g f_t f_C
      rintro j x σ G' G hj ⟨v3, v4, gs, ss, rfl, sH, hC, hg, hgs, hgl, ht, hss, hsl⟩ ⟨rfl, hx⟩
      obtain ⟨z, hz, rfl⟩ := Option.map_eq_some_iff.mp ((List.getElem?_map ..).symm.trans hx)
      rw [List.length_map] at hj
      dsimp only [gName, List.set]
      refine ⟨_, rfl, .inl ⟨_, rfl, _, rfl, _, _, rfl, rfl, .inr ⟨by decide, by decide⟩, ?_⟩⟩
      refine ⟨_, rfl, _, _, rfl, rfl, .inr ⟨_, rfl, _, _, rfl, rfl, ?_⟩⟩
      obtain ⟨nm, hnm⟩ : ∃ nm : Int, (if z < 0 then -z else z) * 2 + (if decide (z < 0) = true then 1 else 0) = nm := ⟨_, rfl⟩
      have hnm0 : 0 ≤ nm := by
        rw [← hnm]
        split <;> split <;> omega
      dsimp only [gName, List.set]
      rw [hnm]
      refine ⟨_, rfl, _, _, rfl, rfl, ⟨by decide, by decide, by decide⟩, _, _, rfl, rfl, _, rfl, ?_⟩
      have e18 : (10 : Int) ^ Int.toNat 18 = 10 ^ 18 := by decide
      rw [e18]
      by_cases c : (10 : Int) ^ 18 ≤ nm
      · refine yes (decide_eq_true c) ?_
        refine ⟨_, rfl, .inl ⟨rfl, _, SqL.of hg⟩, _, rfl, g, _, _, rfl, rfl, hg, by rw [List.length_map, sizeLine_eq]; omega, ?_⟩
        refine ⟨_, _, gs ++ [nm], ss, rfl, fun y o e => (upd_ne (ne_of_none e ng)).trans (sH _ _ e), (upd_ne nCg.symm).trans hC, by rw [upd_same, List.map_append]; rfl, fun y hy => (List.mem_append.mp hy).elim (hgs y) (fun h => by rw [List.mem_singleton.mp h]; exact hnm0), by rw [List.length_append]; show gs.length + 1 ≤ _; omega, (upd_ne ngt.symm).trans ht, hss, by omega⟩
      · refine no (decide_eq_false c) ?_
        refine ⟨_, rfl, .inl ⟨rfl, _, SqL.of ht⟩, _, rfl, t, _, _, rfl, rfl, ht, by rw [List.length_map, List.length_cons, sizeLine_eq]; omega, ?_⟩
        refine ⟨_, _, gs, ss ++ [nm], rfl, fun y o e => (upd_ne (ne_of_none e ntH)).trans (sH _ _ e), (upd_ne nCt.symm).trans hC, (upd_ne ngt).trans hg, hgs, by omega, by rw [upd_same, ← List.map_singleton, ← List.map_append]; rfl, fun y hy => (List.mem_append.mp hy).elim (hss y) (fun h => by rw [List.mem_singleton.mp h]; exact ⟨hnm0, by omega⟩), by rw [List.length_append]; show ss.length + 1 ≤ _; omega⟩
    · rintro σ G ⟨v3, v4, gs, ss, rfl, sH, hC, hg, hgs, hgl, ht, hss, hsl⟩
      rw [List.length_map] at hgl hsl
      refine ⟨_, rfl, _, rfl, _, rfl, t, _, rfl, .inl (SqL.of ht), _, _, rfl, rfl, _, _, rfl, _, rfl, t, _, rfl, SqL.of ht, fun S nS => ?_⟩
      obtain ⟨ss2, e2, hs2, h1, h2⟩ : ∃ ss2 : List Int, cutV ((0 :: ss).map V.int) (some (if (((0 :: ss).map V.int).length : Int) - 1 < 1 then (((0 :: ss).map V.int).length : Int) - 1 else 1)) none = ss2.map V.int ∧ (∀ x ∈ ss2, 0 ≤ x ∧ x < 10 ^ 18) ∧ 1 ≤ ss2.length ∧ ss2.length ≤ 64 := by
        cases ss with
        | nil => exact ⟨[0], rfl, fun x h => by rw [List.mem_singleton.mp h]; exact ⟨by decide, by decide⟩, by decide, by decide⟩
        | cons y r =>
          refine ⟨y :: r, ?_, hss, by rw [List.length_cons]; omega, by omega⟩
          rw [if_neg (by rw [List.length_map, List.length_cons, List.length_cons]; omega)]
          unfold cutV
          rw [show (some 1 : Option Int) = some ((1 : Nat) : Int) from rfl, HT.sIx_nat, HT.sIx_none, Nat.min_eq_left (by rw [List.length_map, List.length_cons]; omega), List.map_cons, List.drop_one, List.tail_cons, List.length_cons, Nat.add_sub_cancel]
          exact List.take_of_length_le (Nat.le_refl _)
      rw [e2]
      have nSH := sH.free nS
      have nSg : g ≠ S := ne_of_none hg nS
      generalize e_G4 : upd _ S _ = G4
      have s_S := new_same e_G4 nS
      have f_S := new_at e_G4
      clear e_G4
      have sH := sH.mv s_S
      have hg := hg.mv s_S
      refine ⟨(by show 4 ≤ sizeLine; decide), fun p np => ?_⟩
      have npH := sH.free np
      have npg : g ≠ p := ne_of_none hg np
      have npS : S ≠ p := ne_of_none f_S np
      generalize e_G5 : upd _ p _ = G5
      have s_p := new_same e_G5 np
      have f_p := new_at e_G5
      clear e_G5
      have sH := sH.mv s_p
      have hg := hg.mv s_p
      have f_S := f_S.mv s_p
      exact k p g G5 npH ng sH ⟨S, 0, 1, gs, ss2, f_p, by decide, by decide, by decide, hg, hgs, by omega, f_S, hs2, h1, h2, npg.symm, npS.symm, nSg⟩
end
end K24

set_option Elab.async false
set_option maxRecDepth 100000
set_option maxHeartbeats 2000000
/-! x in t, x not in t: data, t a tuple of data. -/
namespace KX
open PySem PySem.Spec PyProof.Rows L2
variable {X : Cx}
def rInDT (K : PySem.W.Frag) (neg : Bool) : R2 := fun x y H Q => ∃ d ds, Dp K H x d ∧ Dp K H y (.tuple ds) ∧ SeqAt.shaped d = true ∧ SeqAt.shaped (.tuple ds) = true ∧ Q (.bl (if neg then !ds.any fun z => PyData.eqv z d else ds.any fun z => PyData.eqv z d)) H
theorem op_inDT (hu : X.A.units + 65 < cLine) : OpR X (compareOp .In) (rInDT X.K false) := by
  intro pins s σ H x y v u Q I rx ry h
  obtain ⟨d, ds, hd, he, sd, se, q⟩ := h
  obtain ⟨as, r1⟩ := Dp.reads I d x v hd rx
  obtain ⟨bs, r2⟩ := Dp.reads I (.tuple ds) y u he ry
  exact SeqAt.in_tuple_reads r2 r1 (SeqAt.canLay_of_shaped se) (SeqAt.canLay_of_shaped sd) (room_in_shaped sd hu) ⟨.bl _, H, I, rfl, q⟩
theorem op_notInDT (hu : X.A.units + 65 < cLine) : OpR X (compareOp .NotIn) (rInDT X.K true) := by
  intro pins s σ H x y v u Q I rx ry h
  obtain ⟨d, ds, hd, he, sd, se, q⟩ := h
  obtain ⟨as, r1⟩ := Dp.reads I d x v hd rx
  obtain ⟨bs, r2⟩ := Dp.reads I (.tuple ds) y u he ry
  exact SeqAt.notIn_tuple_reads r2 r1 (SeqAt.canLay_of_shaped se) (SeqAt.canLay_of_shaped sd) (room_in_shaped sd hu) ⟨.bl _, H, I, rfl, q⟩
theorem strs_dp {K : PySem.W.Frag} {H : Hp} : ∀ zs : List Str, DpAll K H (zs.map V.str) (zs.map PyData.str)
  | [] => .nil
  | z :: r => .cons (.str z) (strs_dp r)
/-- is the thing one of the texts -/
def inS (zs : List Str) (d : PyData) : Bool := (zs.map PyData.str).any fun z => PyData.eqv z d
theorem inS_str (zs : List Str) (z : Str) : inS zs (.str z) = decide (z ∈ zs) := by
  unfold inS
  rw [List.any_map]
  by_cases h : z ∈ zs
  · rw [decide_eq_true h]
    exact List.any_eq_true.mpr ⟨z, h, by show (z == z) = true; exact beq_self_eq_true z⟩
  · rw [decide_eq_false h]
    refine List.any_eq_false.mpr fun y hy => ?_
    show ¬ (y == z) = true
    rw [beq_iff_eq]
    rintro rfl
    exact h hy
end KX

set_option Elab.async false
set_option maxRecDepth 100000
set_option maxHeartbeats 2000000
namespace K24
open PySem PySem.Spec PyProof.Rows L2 He KX StX
abbrev sBOI : Stmt := inClass (top 5) 0
abbrev sBWI : Stmt := inClass (top 6) 0
abbrev sBNI : Stmt := inClass (top 7) 0
abbrev sArg : Stmt := top 12
abbrev sWor : Stmt := top 20
def spX1 (C : Addr) (f : Str) : Sp := fun vs H Q _ => ∃ (a : Addr) (x : V) (H0 : Hp), vs = [.ref a, x] ∧ H = upd H0 a (exo a C none) ∧ H0 a = none ∧
  ∀ d H', H0 d = none → d ≠ a → H' a = some (exo a C (some d)) → H' d = some (exd d [(f, x)]) → (∀ y, y ≠ a → y ≠ d → H' y = H0 y) → Q .non H'
/-- what is raised: all that was there stands, and the exception's own dict -/
def Raised (C : Addr) (H : Hp) (fs : List (Str × V)) (E : XK) : Prop := ∀ d H', Same H H' → H' d = some (.xd fs) → E (.ref C) (some d) H'
theorem Raised.mv {C : Addr} {H J : Hp} {fs : List (Str × V)} {E : XK} (h : Raised C H fs E) (s : Same H J) : Raised C J fs E := fun d H' s2 e => h d H' (s.trans s2) e
theorem raised_at {C : Addr} {H : Hp} {fs : List (Str × V)} {E : XK} (h : Raised C H fs E) {e d : Addr} {H' : Hp} (he : H e = none) (hd : H d = none) (hne : d ≠ e) (h3 : ∀ y, y ≠ e → y ≠ d → H' y = H y) : E (.ref C) (some d) (upd (del H' e) d (.xd fs)) := by
  refine h d _ (fun b o q => ?_) upd_same
  have nb : b ≠ d := ne_of_none q hd
  have ne : b ≠ e := ne_of_none q he
  rw [upd_ne nb, del_ne ne, h3 b ne nb]
  exact q
theorem dp_str {K : PySem.W.Frag} {H : Hp} {v : V} {z : Str} (h : Dp K H v (.str z)) : v = .str z := by cases h; rfl
theorem inS_true {zs : List Str} {d : PyData} (h : inS zs d = true) : ∃ z ∈ zs, d = .str z := by
  unfold inS at h
  obtain ⟨x, hx, e⟩ := List.any_eq_true.mp h
  obtain ⟨z, hz, rfl⟩ := List.mem_map.mp hx
  cases d with
  | str y => exact ⟨z, hz, by rw [show z = y from beq_iff_eq.mp (show (z == y) = true from e)]⟩
  | _ => cases e
theorem strs_shaped {zs : List Str} (h : ∀ z ∈ zs, SeqAt.shaped (.str z) = true) : SeqAt.shaped (.tuple (zs.map PyData.str)) = true := tupSh (k := 0) (by decide) fun d hd => by
  obtain ⟨z, hz, rfl⟩ := List.mem_map.mp hd
  exact ⟨(Bool.and_eq_true_iff.mp (h z hz)).1, Nat.zero_le _⟩
section
variable {P : Program} {w : World} {K : PySem.W.Frag} {mg : Str → Option Value} {base : Heap}
theorem scBOI : FnScope ["self", "op"] ["self", "op"] (defScope sBOI) := ⟨rfl, rfl, rfl, by decide +kernel, rfl, by decide +kernel, by decide +kernel⟩
theorem scBWI : FnScope ["self", "world"] ["self", "world"] (defScope sBWI) := ⟨rfl, rfl, rfl, by decide +kernel, rfl, by decide +kernel, by decide +kernel⟩
theorem scBNI : FnScope ["self", "name"] ["self", "name"] (defScope sBNI) := ⟨rfl, rfl, rfl, by decide +kernel, rfl, by decide +kernel, by decide +kernel⟩
theorem ok_boi {f : Addr} {fd : FuncData} (F : FunD K "__init__" "BadOperation.__init__" (defArgs sBOI) (defBody sBOI) (defScope sBOI) [] [] f fd) (B : ErBO K) : FnOk P w K mg base CX0 1 f fd ["self", "op"] (spX1 (ga K "BadOperation") "op") := by
  refine F.ok scBOI (fun vs H Q E h => ?_) (fun cdv A outer s H vs Q E hr h => ?_)
  · obtain ⟨a, x, H0, rfl, _⟩ := h
    rfl
  · obtain ⟨a, x, H0, rfl, rfl, ha, k⟩ := h
    refine ⟨_, PSs.nox (pss_one (ps_st (pv 0) (pv 1))), ?_⟩
    refine ⟨_, rfl, _, rfl, a, _, _, _, rfl, B.T, bsV, B.no _ List.mem_cons_self, .inl ⟨upd_same, fun d hd hda => ?_⟩⟩
    exact k d _ ((upd_ne hda).symm.trans hd) hda upd_same ((upd_ne hda).trans upd_same) (fun x n1 n2 => (upd_ne n1).trans ((upd_ne n2).trans (upd_ne n1)))
theorem ok_bwi {f : Addr} {fd : FuncData} (F : FunD K "__init__" "BadWorld.__init__" (defArgs sBWI) (defBody sBWI) (defScope sBWI) [] [] f fd) (B : ErBW K) : FnOk P w K mg base CX0 1 f fd ["self", "world"] (spX1 (ga K "BadWorld") "world") := by
  refine F.ok scBWI (fun vs H Q E h => ?_) (fun cdv A outer s H vs Q E hr h => ?_)
  · obtain ⟨a, x, H0, rfl, _⟩ := h
    rfl
  · obtain ⟨a, x, H0, rfl, rfl, ha, k⟩ := h
    refine ⟨_, PSs.nox (pss_one (ps_st (pv 0) (pv 1))), ?_⟩
    refine ⟨_, rfl, _, rfl, a, _, _, _, rfl, B.T, bsV, B.no _ List.mem_cons_self, .inl ⟨upd_same, fun d hd hda => ?_⟩⟩
    exact k d _ ((upd_ne hda).symm.trans hd) hda upd_same ((upd_ne hda).trans upd_same) (fun x n1 n2 => (upd_ne n1).trans ((upd_ne n2).trans (upd_ne n1)))
theorem ok_bni {f : Addr} {fd : FuncData} (F : FunD K "__init__" "BadNumber.__init__" (defArgs sBNI) (defBody sBNI) (defScope sBNI) [] [] f fd) (B : ErBN K) : FnOk P w K mg base CX0 1 f fd ["self", "name"] (spX1 (ga K "BadNumber") "name") := by
  refine F.ok scBNI (fun vs H Q E h => ?_) (fun cdv A outer s H vs Q E hr h => ?_)
  · obtain ⟨a, x, H0, rfl, _⟩ := h
    rfl
  · obtain ⟨a, x, H0, rfl, rfl, ha, k⟩ := h
    refine ⟨_, PSs.nox (pss_one (ps_st (pv 0) (pv 1))), ?_⟩
    refine ⟨_, rfl, _, rfl, a, _, _, _, rfl, B.T, bsV, B.no _ List.mem_cons_self, .inl ⟨upd_same, fun d hd hda => ?_⟩⟩
    exact k d _ ((upd_ne hda).symm.trans hd) hda upd_same ((upd_ne hda).trans upd_same) (fun x n1 n2 => (upd_ne n1).trans ((upd_ne n2).trans (upd_ne n1)))
/-- arguments_of -/
def spArg (K : PySem.W.Frag) : Sp := fun vs H Q E => ∃ v d, vs = [v] ∧ Dp K H v d ∧ SeqAt.shaped d = true ∧ (inS ops d = true → ∀ u, Q u H) ∧ (inS ops d = false → Raised (ga K "BadOperation") H [("op", v)] E)
theorem ops_shaped : SeqAt.shaped (.tuple (ops.map PyData.str)) = true := by decide +kernel
theorem scArg : FnScope ["op"] ["op"] (defScope sArg) := ⟨rfl, rfl, rfl, by decide +kernel, rfl, by decide +kernel, by decide +kernel⟩
theorem ok_arg {f : Addr} {fd fdE : FuncData} (F : FnP K "arguments_of" sArg f fd) (BO : ErBO K) (gBO : mg "BadOperation" = some (.ref (ga K "BadOperation")))
    (FE : FunD K "__init__" "BadOperation.__init__" (defArgs sBOI) (defBody sBOI) (defScope sBOI) [] [] (ma K (ga K "BadOperation") "__init__") fdE)
    (hO : ∀ H, SqT K H (ga K "OPERATIONS") (ops.map V.str)) (gOPS : mg "OPERATIONS" = some (.ref (ga K "OPERATIONS"))) (hA : ∀ z ∈ ops, ∃ v, KDct K w (ga K "ARGUMENTS") z v) (gARG : mg "ARGUMENTS" = some (.ref (ga K "ARGUMENTS"))) :
    FnOk P w K mg base (L2N.CX P w) 3 f fd ["op"] (spArg K) := by
  have GE : FnOk P w K mg base CX0 1 (ma K (ga K "BadOperation") "__init__") fdE ["self", "op"] (spX1 (ga K "BadOperation") "op") := ok_boi FE BO
  have bE : Binds K fdE ["self", "op"] [] := FE.bindsN fun _ _ _ _ _ _ us hl => match us, hl with | [_, _], _ => rfl
  refine F.ok scArg (fun vs H Q E h => ?_) (fun cdv A outer s H vs Q E hr h => ?_)
  · obtain ⟨v, d, rfl, _⟩ := h
    rfl
  · obtain ⟨v, d, rfl, hd, hs, k1, k2⟩ := h
    have nd := scArg.nd
    have hu65 : (A.deeper (envOfC "arguments_of" (defScope sArg) s.heap.objs.size f cdv)).units + 65 < cLine := by have := hr.un; omega
    refine ⟨_, (by exact (pss_cons (ps_if (pt_cmpR (op_notInDT hu65) (pv 0) (pe_glob (v := .ref (ga K "OPERATIONS")) rfl gOPS rfl) rfl)
(pss_one (L2N.ps_raise rfl (L2N.takes_of rfl rfl rfl rfl) (by exact (pmk_x BO.T BO.ty bsV BO.iC BO.fn GE hr bE pass0 rfl gBO (pa_cons (pv 0) pa_nil)))))
pss_nil)
(pss_one (ps_ret (pe_ix ix_kdict (pe_glob (v := .ref (ga K "ARGUMENTS")) rfl gARG rfl) (pv 0) (fun _ _ => rfl)))))), ?_⟩
    refine ⟨_, rfl, d, _, hd, .tup (hO H) (strs_dp ops), hs, ops_shaped, _, rfl, ?_⟩
    rw [if_pos rfl]
    show if (!inS ops d) = true then _ else _
    cases hi : inS ops d with
    | false => exact yes rfl ⟨_, rfl, (by show 1 ≤ 1000; decide), fun e he => ⟨e, _, H, rfl, rfl, he, fun d' H' hd' hde h1 h2 h3 => ⟨rfl, d', _, h1, h2, hd', raised_at (k2 hi) he hd' hde h3⟩⟩⟩
    | true =>
      obtain ⟨z, hz, rfl⟩ := inS_true hi
      obtain rfl := dp_str hd
      obtain ⟨u, hu⟩ := hA z hz
      exact no rfl ⟨_, rfl, _, z, u, rfl, rfl, hu, k1 hi u⟩
/-- worlds_of -/
def wor (op : Str) : List Str := if op = "swap" then ["apart", "within", "itself"] else if op ∈ (["move", "send", "swap"] : List Str) then ["apart", "within"] else ["alone"]
def spWor (K : PySem.W.Frag) : Sp := fun vs H Q E => ∃ v d, vs = [v] ∧ Dp K H v d ∧ SeqAt.shaped d = true ∧ (∀ z ∈ ops, d = .str z → ∀ T, H T = none → Q (.ref T) (upd H T (.tup ((wor z).map V.str)))) ∧ (inS ops d = false → Raised (ga K "BadOperation") H [("op", v)] E)
theorem scWor : FnScope ["op"] ["op"] (defScope sWor) := ⟨rfl, rfl, rfl, by decide +kernel, rfl, by decide +kernel, by decide +kernel⟩
theorem ok_wor {f fA : Addr} {fd fdA : FuncData} (F : FnP K "worlds_of" sWor f fd) (GA : FnOk P w K mg base (L2N.CX P w) 3 fA fdA ["op"] (spArg K)) (bA : Binds K fdA ["op"] []) (kA : PySem.W.keepIn K (.ref fA) = true) (gA : mg "arguments_of" = some (.ref fA))
    (hT : ∀ H, SqT K H (ga K "TWO_LISTS") ((["move", "send", "swap"] : List Str).map V.str)) (gTWO : mg "TWO_LISTS" = some (.ref (ga K "TWO_LISTS"))) : FnOk P w K mg base (L2N.CX P w) 4 f fd ["op"] (spWor K) := by
  refine F.ok scWor (fun vs H Q E h => ?_) (fun cdv A outer s H vs Q E hr h => ?_)
  · obtain ⟨v, d, rfl, _⟩ := h
    rfl
  · obtain ⟨v, d, rfl, hd, hs, k1, k2⟩ := h
    have nd := scWor.nd
    have hr2 := hr.mono (j := 3) (by decide)
    refine ⟨_, (by exact (pss_cons (ps_expr (by exact (pe_callS GA hr2 (by rfl) gA kA bA (fun σ => L2N.passAt (L2N.takes_of rfl rfl rfl rfl) σ) (pa_cons (pv 0) pa_nil))))
(pss_cons (ps_if (pt_cmpR op_eq (pv 0) pe_str (nomark _))
(pss_one (ps_ret (pe_tup (pa_cons pe_str (pa_cons pe_str (pa_cons pe_str pa_nil))))))
pss_nil)
(pss_one (ps_ret (pe_ifExp (pt_cmpR op_in_seq (pv 0) (pe_glob (v := .ref (ga K "TWO_LISTS")) rfl gTWO rfl) rfl) (pe_tup (pa_cons pe_str (pa_cons pe_str pa_nil))) (pe_tup (pa_cons pe_str pa_nil)))))))), ?_⟩
    refine ⟨_, rfl, v, d, rfl, hd, hs, fun hi u => ?_, k2⟩
    obtain ⟨z, hz, rfl⟩ := inS_true hi
    obtain rfl := dp_str hd
    have k1 := k1 z hz rfl
    unfold wor at k1
    refine ⟨_, rfl, rfl, _, rfl, ?_⟩
    by_cases c : z = "swap"
    · refine yes (decide_eq_true (congrArg V.str c)) ?_
      rw [if_pos c] at k1
      exact ⟨(by show 3 ≤ sizeLine; decide), fun T nT => k1 T nT⟩
    · refine no (decide_eq_false fun e => c (by injection e)) ?_
      rw [if_neg c] at k1
      refine ⟨_, rfl, _, _, rfl, .inr (hT H), rfl, rfl, _, rfl, ?_⟩
      rw [if_neg Bool.false_ne_true, inV_str]
      by_cases c2 : z ∈ (["move", "send", "swap"] : List Str)
      · refine yes (decide_eq_true c2) ?_
        rw [if_pos c2] at k1
        exact ⟨(by show 2 ≤ sizeLine; decide), fun T nT => k1 T nT⟩
      · refine no (decide_eq_false c2) ?_
        rw [if_neg c2] at k1
        exact ⟨(by show 1 ≤ sizeLine; decide), fun T nT => k1 T nT⟩
end
end K24

set_option Elab.async false
set_option maxRecDepth 100000
set_option maxHeartbeats 2000000
namespace K24
open PySem PySem.Spec PyProof.Rows L2 He KX
/-! The numbers of a scene: what fits, by the program and by the law; no Lean of the program. -/
abbrev newL : List Str := ["put", "add"]
def nk : List Str := ["home", "to", "x", "y", "k", "other"]
def G30 : Int := 1000000000000000000000000000000
def limY (op wd : Str) (h t : Int) : Int × Int := if op ≠ "swap" ∨ wd = "itself" then (0, 0) else if wd = "apart" then (1, t) else (1, h)
def limK (op wd : Str) (h t : Int) : Int × Int := if op ∉ (["put", "move"] : List Str) then (0, 0) else if wd = "within" then (1, h) else (1, min (t + 1) G30)
def limP (op wd z : Str) (h t : Int) : Int × Int :=
  if z = "home" then (if op ∈ newL then (0, 0) else (if op = "swap" ∧ wd = "within" then 2 else 1, G30))
  else if z = "to" then (if op ∈ newL ∨ wd = "apart" then (if op = "swap" then 1 else 0, G30) else (0, 0))
  else if z = "x" then (if op ∈ newL then (0, 0) else (1, h))
  else if z = "y" then limY op wd h t
  else if z = "k" then limK op wd h t
  else (0, G30)
def inR (p : Int × Int) (v : Int) : Bool := decide (p.1 ≤ v) && decide (v ≤ p.2)
def fitP (op wd z : Str) (v h t x : Int) : Bool := if z = "y" ∧ wd = "within" ∧ v = x then false else inR (limP op wd z h t) v
def iv : PyData → Int
  | .int i => i
  | _ => 0
def okP (op wd : Str) (n : Str → PyData) (z : Str) : Bool := isIntD (n z) && fitP op wd z (iv (n z)) (iv (n "home")) (iv (n "to")) (iv (n "x"))
/-- the first of the names that is not well -/
def wrong (ok : Str → Bool) : Option Str := if ok "home" = true then (if ok "to" = true then (if ok "x" = true then (if ok "y" = true then (if ok "k" = true then (if ok "other" = true then none else some "other") else some "k") else some "y") else some "x") else some "to") else some "home"
theorem wrong_none {ok : Str → Bool} (h : ∀ z ∈ nk, ok z = true) : wrong ok = none := by
  unfold wrong
  rw [if_pos (h _ (by decide)), if_pos (h _ (by decide)), if_pos (h _ (by decide)), if_pos (h _ (by decide)), if_pos (h _ (by decide)), if_pos (h _ (by decide))]
theorem wrong_all {ok : Str → Bool} (h : wrong ok = none) : ∀ z ∈ nk, ok z = true := by
  unfold wrong at h
  split at h
  case isFalse => cases h
  case isTrue h1 =>
  split at h
  case isFalse => cases h
  case isTrue h2 =>
  split at h
  case isFalse => cases h
  case isTrue h3 =>
  split at h
  case isFalse => cases h
  case isTrue h4 =>
  split at h
  case isFalse => cases h
  case isTrue h5 =>
  split at h
  case isFalse => cases h
  case isTrue h6 =>
  intro z hz
  rcases List.mem_cons.mp hz with rfl | hz
  · exact h1
  rcases List.mem_cons.mp hz with rfl | hz
  · exact h2
  rcases List.mem_cons.mp hz with rfl | hz
  · exact h3
  rcases List.mem_cons.mp hz with rfl | hz
  · exact h4
  rcases List.mem_cons.mp hz with rfl | hz
  · exact h5
  rw [List.mem_singleton.mp hz]
  exact h6
theorem int_of {d : PyData} (h : isIntD d = true) : d = .int (iv d) := by
  cases d <;> first | rfl | cases h
/-- the law's own -/
def inL (d : PyData) (lo hi : Int) : Bool := isIntD d && (decide (lo ≤ iv d) && (decide (iv d ≤ hi) && decide (iv d ≤ G30)))
def bi (b : Bool) : Int := if b = true then 1 else 0
def newB (op : Str) : Bool := decide (op ∈ newL)
def twoB (op wd : Str) : Bool := decide (op = "swap") && decide (wd = "within")
def apaB (wd : Str) : Bool := decide (wd = "apart")
def ownB (op wd : Str) : Bool := decide (op = "swap") && !decide (wd = "itself")
def kApB (op wd : Str) : Bool := decide (op = "put") || (decide (op = "move") && decide (wd = "apart"))
def kWiB (op wd : Str) : Bool := decide (op = "move") && decide (wd = "within")
def mostY (op wd : Str) (h t : Int) : Int := if ownB op wd = true then (if apaB wd = true then t else h) else 0
def mostK (op wd : Str) (h t : Int) : Int := if kWiB op wd = true then h else if kApB op wd = true then t + 1 else 0
def okL (op wd : Str) (n : Str → PyData) (z : Str) : Bool :=
  if z = "home" then inL (n z) (if newB op = true then 0 else 1 + bi (twoB op wd)) (if newB op = true then 0 else G30)
  else if z = "to" then inL (n z) (bi (decide (op = "swap") && apaB wd)) (if (newB op || apaB wd) = true then G30 else 0)
  else if z = "x" then inL (n z) (bi (!newB op)) (iv (n "home"))
  else if z = "y" then inL (n z) (bi (ownB op wd)) (mostY op wd (iv (n "home")) (iv (n "to"))) && !(ownB op wd && (decide (wd = "within") && decide (iv (n "y") = iv (n "x"))))
  else if z = "k" then inL (n z) (bi (decide (op ∈ (["put", "move"] : List Str)))) (mostK op wd (iv (n "home")) (iv (n "to")))
  else inL (n z) 0 G30
theorem w_step {a b : Bool} {x y r : Option Str} (h : a = b) (h2 : a = true → x = y) : (if a = true then x else r) = (if b = true then y else r) := by
  subst h
  cases a
  · rfl
  · rw [if_pos rfl, if_pos rfl, h2 rfl]
theorem wrong_congr {a b : Str → Bool} (h1 : a "home" = b "home") (h2 : a "home" = true → a "to" = b "to") (h3 : a "home" = true → a "to" = true → a "x" = b "x") (h4 : a "home" = true → a "to" = true → a "x" = true → a "y" = b "y")
    (h5 : a "home" = true → a "to" = true → a "x" = true → a "y" = true → a "k" = b "k") (h6 : a "other" = b "other") : wrong a = wrong b := by
  unfold wrong
  exact w_step h1 fun e1 => w_step (h2 e1) fun e2 => w_step (h3 e1 e2) fun e3 => w_step (h4 e1 e2 e3) fun e4 => w_step (h5 e1 e2 e3 e4) fun e5 => w_step h6 fun _ => rfl
theorem and_ints {d : PyData} {p q : Bool} (h : isIntD d = true → p = q) : (isIntD d && p) = (isIntD d && q) := by
  cases e : isIntD d with
  | false => rfl
  | true => rw [h e]
theorem rg_eq {a b c d : Int} (h : a = c ∧ b = d ∧ d ≤ G30) (v : Int) : inR (a, b) v = (decide (c ≤ v) && (decide (v ≤ d) && decide (v ≤ G30))) := by
  obtain ⟨rfl, rfl, h⟩ := h
  unfold inR
  by_cases q : v ≤ b
  · rw [decide_eq_true (show v ≤ G30 by omega), Bool.and_true]
  · rw [decide_eq_false q, Bool.false_and]
theorem okP_sp {op wd z : Str} {n : Str → PyData} (h : okP op wd n z = true) : n z = .int (iv (n z)) ∧ (limP op wd z (iv (n "home")) (iv (n "to"))).1 ≤ iv (n z) ∧ iv (n z) ≤ (limP op wd z (iv (n "home")) (iv (n "to"))).2 := by
  unfold okP fitP at h
  obtain ⟨h1, h2⟩ := Bool.and_eq_true_iff.mp h
  refine ⟨int_of h1, ?_⟩
  split at h2
  · cases h2
  · obtain ⟨a, b⟩ := Bool.and_eq_true_iff.mp h2
    exact ⟨of_decide_eq_true a, of_decide_eq_true b⟩
theorem home_le {op wd : Str} {n : Str → PyData} (h : okP op wd n "home" = true) : iv (n "home") ≤ G30 := by
  obtain ⟨_, _, h2⟩ := okP_sp h
  refine Int.le_trans h2 ?_
  unfold limP
  rw [if_pos rfl]
  split <;> first | decide | exact Int.le_refl _
theorem to_le {op wd : Str} {n : Str → PyData} (h : okP op wd n "to" = true) : iv (n "to") ≤ G30 := by
  obtain ⟨_, _, h2⟩ := okP_sp h
  refine Int.le_trans h2 ?_
  unfold limP
  rw [if_neg (by decide +kernel), if_pos rfl]
  split <;> first | decide | exact Int.le_refl _
theorem in_eq {op wd z : Str} {n : Str → PyData} {c d : Int} (hz : z ≠ "y") (h : isIntD (n z) = true → (limP op wd z (iv (n "home")) (iv (n "to"))).1 = c ∧ (limP op wd z (iv (n "home")) (iv (n "to"))).2 = min d G30) : okP op wd n z = inL (n z) c d := by
  unfold okP inL
  refine and_ints fun e => ?_
  obtain ⟨h1, h2⟩ := h e
  unfold fitP inR
  rw [if_neg (fun q => hz q.1), h1, h2]
  congr 1
  by_cases q1 : iv (n z) ≤ d
  · by_cases q2 : iv (n z) ≤ G30
    · rw [decide_eq_true q1, decide_eq_true q2, decide_eq_true (by omega)]; rfl
    · rw [decide_eq_false q2, Bool.and_false, decide_eq_false (by omega)]
  · rw [decide_eq_false q1, Bool.false_and, decide_eq_false (by omega)]
theorem g30 : G30 = 1000000000000000000000000000000 := rfl
theorem wds : ∀ op ∈ ops, ∀ wd ∈ wor op, (op ∈ newL → op ≠ "swap" ∧ op ≠ "move" ∧ wd = "alone") ∧ (op ∉ newL → op ≠ "put") ∧ (op = "put" → op ∈ newL) ∧ (op = "move" → wd = "apart" ∨ wd = "within") ∧ (op = "swap" → wd = "apart" ∨ wd = "within" ∨ wd = "itself") := by decide +kernel
theorem sne : ("to" : Str) ≠ "home" ∧ ("x" : Str) ≠ "home" ∧ ("x" : Str) ≠ "to" ∧ ("y" : Str) ≠ "home" ∧ ("y" : Str) ≠ "to" ∧ ("y" : Str) ≠ "x" ∧ ("k" : Str) ≠ "home" ∧ ("k" : Str) ≠ "to" ∧ ("k" : Str) ≠ "x" ∧ ("k" : Str) ≠ "y" ∧ ("other" : Str) ≠ "home" ∧ ("other" : Str) ≠ "to" ∧ ("other" : Str) ≠ "x" ∧ ("other" : Str) ≠ "y" ∧ ("other" : Str) ≠ "k" := by decide +kernel
theorem une : ("alone" : Str) ≠ "apart" ∧ ("alone" : Str) ≠ "within" ∧ ("alone" : Str) ≠ "itself" ∧ ("apart" : Str) ≠ "within" ∧ ("apart" : Str) ≠ "itself" ∧ ("within" : Str) ≠ "itself" ∧ ("within" : Str) ≠ "apart" ∧ ("itself" : Str) ≠ "apart" ∧ ("itself" : Str) ≠ "within" ∧ ("move" : Str) ≠ "put" ∧ ("put" : Str) ≠ "move" := by decide +kernel
theorem ok_eq {op : Str} (hop : op ∈ ops) {wd : Str} (hwd : wd ∈ wor op) (n : Str → PyData) : wrong (okP op wd n) = wrong (okL op wd n) := by
  obtain ⟨w1, w2, w3, w4, w5⟩ := wds op hop wd hwd
  obtain ⟨s1, s2, s3, s4, s5, s6, s7, s8, s9, s10, s11, s12, s13, s14, s15⟩ := sne
  obtain ⟨u1, u2, u3, u4, u5, u6, u7, u8, u9, u10, u11⟩ := une
  have gg := g30
  refine wrong_congr ?_ (fun e1 => ?_) (fun e1 e2 => ?_) (fun e1 e2 e3 => ?_) (fun e1 e2 e3 e4 => ?_) ?_
  · -- home
    unfold okL
    rw [if_pos rfl]
    refine in_eq s4.symm fun _ => ?_
    unfold limP newB twoB bi
    rw [if_pos rfl]
    by_cases c : op ∈ newL
    · rw [if_pos c, decide_eq_true c, if_pos rfl, if_pos rfl]
      exact ⟨rfl, by omega⟩
    · rw [if_neg c, decide_eq_false c, if_neg Bool.false_ne_true, if_neg Bool.false_ne_true]
      refine ⟨?_, by show G30 = _; omega⟩
      by_cases c2 : op = "swap"
      · by_cases c3 : wd = "within"
        · rw [if_pos ⟨c2, c3⟩, decide_eq_true c2, decide_eq_true c3]; rfl
        · rw [if_neg (fun h => c3 h.2), decide_eq_false c3, Bool.and_false]; rfl
      · rw [if_neg (fun h => c2 h.1), decide_eq_false c2]; rfl
  · -- to
    unfold okL
    rw [if_neg s1, if_pos rfl]
    refine in_eq s5.symm fun _ => ?_
    unfold limP newB apaB bi
    rw [if_neg s1, if_pos rfl]
    by_cases c : op ∈ newL
    · obtain ⟨q1, q2, rfl⟩ := w1 c
      rw [if_pos (Or.inl c), decide_eq_true c, decide_eq_false q1, if_neg q1]
      exact ⟨rfl, by show G30 = min G30 G30; omega⟩
    · by_cases c2 : wd = "apart"
      · rw [if_pos (Or.inr c2), decide_eq_true c2, Bool.or_true, if_pos rfl, Bool.and_true]
        refine ⟨?_, by show G30 = min G30 G30; omega⟩
        by_cases c3 : op = "swap"
        · rw [if_pos c3, decide_eq_true c3]; rfl
        · rw [if_neg c3, decide_eq_false c3]; rfl
      · rw [if_neg (fun h => h.elim c c2), decide_eq_false c, decide_eq_false c2, Bool.and_false]
        exact ⟨rfl, by show (0 : Int) = min 0 G30; omega⟩
  · -- x
    have hh := home_le e1
    unfold okL
    rw [if_neg s2, if_neg s3, if_pos rfl]
    refine in_eq s6.symm fun _ => ?_
    obtain ⟨_, h1, h2⟩ := okP_sp e1
    unfold limP at h1 h2
    rw [if_pos rfl] at h1 h2
    unfold limP newB bi
    rw [if_neg s2, if_neg s3, if_pos rfl]
    by_cases c : op ∈ newL
    · rw [if_pos c] at h1 h2 ⊢
      rw [decide_eq_true c]
      have h1 : (0 : Int) ≤ iv (n "home") := h1
      have h2 : iv (n "home") ≤ (0 : Int) := h2
      exact ⟨rfl, by show (0 : Int) = _; omega⟩
    · rw [if_neg c, decide_eq_false c]
      exact ⟨rfl, by show iv (n "home") = _; omega⟩
  · -- y
    have hh := home_le e1
    have ht := to_le e2
    obtain ⟨_, x1, x2⟩ := okP_sp e3
    have key : isIntD (n "y") = true → (limP op wd "y" (iv (n "home")) (iv (n "to"))).1 = bi (ownB op wd) ∧ (limP op wd "y" (iv (n "home")) (iv (n "to"))).2 = min (mostY op wd (iv (n "home")) (iv (n "to"))) G30 := fun _ => by
      unfold limP limY mostY ownB bi apaB
      rw [if_neg s4, if_neg s5, if_neg s6, if_pos rfl]
      by_cases c : op = "swap"
      · by_cases c2 : wd = "itself"
        · rw [if_pos (Or.inr c2), decide_eq_true c2, Bool.not_true, Bool.and_false]
          exact ⟨rfl, by show (0 : Int) = min 0 G30; omega⟩
        · rw [if_neg (fun h => h.elim (fun q => q c) c2), decide_eq_false c2, decide_eq_true c]
          by_cases c3 : wd = "apart"
          · rw [if_pos c3, decide_eq_true c3]
            exact ⟨rfl, by show iv (n "to") = min (iv (n "to")) G30; omega⟩
          · rw [if_neg c3, decide_eq_false c3]
            exact ⟨rfl, by show iv (n "home") = min (iv (n "home")) G30; omega⟩
      · rw [if_pos (Or.inl c), decide_eq_false c, Bool.false_and]
        exact ⟨rfl, by show (0 : Int) = min 0 G30; omega⟩
    unfold okL
    rw [if_neg s4, if_neg s5, if_neg s6, if_pos rfl]
    unfold okP inL
    rw [Bool.and_assoc]
    refine and_ints fun e => ?_
    obtain ⟨k1, k2⟩ := key e
    have base : inR (limP op wd "y" (iv (n "home")) (iv (n "to"))) (iv (n "y")) = (decide (bi (ownB op wd) ≤ iv (n "y")) && (decide (iv (n "y") ≤ mostY op wd (iv (n "home")) (iv (n "to"))) && decide (iv (n "y") ≤ G30))) := by
      unfold inR
      rw [k1, k2]
      congr 1
      by_cases q1 : iv (n "y") ≤ mostY op wd (iv (n "home")) (iv (n "to"))
      · by_cases q2 : iv (n "y") ≤ G30
        · rw [decide_eq_true q1, decide_eq_true q2, decide_eq_true (by omega)]; rfl
        · rw [decide_eq_false q2, Bool.and_false, decide_eq_false (by omega)]
      · rw [decide_eq_false q1, Bool.false_and, decide_eq_false (by omega)]
    unfold fitP
    rw [← base]
    by_cases c : wd = "within"
    · by_cases c2 : iv (n "y") = iv (n "x")
      · rw [if_pos ⟨rfl, c, c2⟩, decide_eq_true c, decide_eq_true c2]
        by_cases c3 : op = "swap"
        · have : ownB op wd = true := by
            unfold ownB
            rw [decide_eq_true c3, decide_eq_false (by rw [c]; exact u6)]; rfl
          rw [this]
          show false = (_ && !true)
          rw [Bool.not_true, Bool.and_false]
        · -- y must be 0, x at least 1
          have o : ownB op wd = false := by
            unfold ownB
            rw [decide_eq_false c3]; rfl
          rw [o]
          show false = (_ && !false)
          rw [Bool.not_false, Bool.and_true]
          have nn : op ∉ newL := fun h => by
            obtain ⟨_, _, q⟩ := w1 h
            rw [q] at c
            exact u2 c
          unfold limP at x1
          rw [if_neg s2, if_neg s3, if_pos rfl, if_neg nn] at x1
          have x1 : 1 ≤ iv (n "x") := x1
          unfold inR
          rw [k1, k2]
          have m0 : mostY op wd (iv (n "home")) (iv (n "to")) = 0 := by unfold mostY; rw [o]; rfl
          rw [m0, decide_eq_false (show ¬ iv (n "y") ≤ min 0 G30 by omega), Bool.and_false]
      · rw [if_neg (fun h => c2 h.2.2), decide_eq_false c2, Bool.and_false, Bool.and_false, Bool.not_false, Bool.and_true]
    · rw [if_neg (fun h => c h.2.1), decide_eq_false c, Bool.false_and, Bool.and_false, Bool.not_false, Bool.and_true]
  · -- k
    have hh := home_le e1
    have ht := to_le e2
    unfold okL
    rw [if_neg s7, if_neg s8, if_neg s9, if_neg s10, if_pos rfl]
    refine in_eq s10 fun _ => ?_
    unfold limP limK mostK kWiB kApB bi
    rw [if_neg s7, if_neg s8, if_neg s9, if_neg s10, if_pos rfl]
    by_cases c : op ∈ (["put", "move"] : List Str)
    · rw [if_neg (fun h => h c), decide_eq_true c, if_pos rfl]
      rcases List.mem_cons.mp c with rfl | c
      · obtain ⟨_, _, rfl⟩ := w1 (w3 rfl)
        rw [if_neg u2, decide_eq_false u11, decide_eq_true rfl]
        exact ⟨rfl, rfl⟩
      · obtain rfl := List.mem_singleton.mp c
        rw [decide_eq_true (rfl : ("move" : Str) = "move"), decide_eq_false u10]
        rcases w4 rfl with rfl | rfl
        · rw [if_neg u4, decide_eq_false u4, decide_eq_true (rfl : ("apart" : Str) = "apart")]
          exact ⟨rfl, rfl⟩
        · rw [if_pos rfl, decide_eq_true (rfl : ("within" : Str) = "within")]
          exact ⟨rfl, by show iv (n "home") = min (iv (n "home")) G30; omega⟩
    · have c1 : op ≠ "put" := fun h => c (by rw [h]; decide)
      have c2 : op ≠ "move" := fun h => c (by rw [h]; decide)
      rw [if_pos c, decide_eq_false c, decide_eq_false c1, decide_eq_false c2]
      exact ⟨rfl, by show (0 : Int) = min 0 G30; omega⟩
  · unfold okL
    rw [if_neg s11, if_neg s12, if_neg s13, if_neg s14, if_neg s15]
    refine in_eq s14 fun _ => ?_
    unfold limP
    rw [if_neg s11, if_neg s12, if_neg s13, if_neg s14, if_neg s15]
    exact ⟨rfl, by show G30 = min G30 G30; omega⟩
end K24

set_option Elab.async false
set_option maxRecDepth 100000
set_option maxHeartbeats 2000000
namespace K24
open PySem PySem.Spec PyProof.Rows L2 KX
abbrev sInt : Stmt := top 2
section
variable {P : Program} {w : World} {K : PySem.W.Frag} {mg : Str → Option Value} {base : Heap}
theorem scInt : FnScope ["thing"] ["thing"] (defScope sInt) := ⟨rfl, rfl, rfl, by decide +kernel, rfl, by decide +kernel, by decide +kernel⟩
theorem ok_int {f : Addr} {fd : FuncData} (F : FnP K "is_integer" sInt f fd) (gI : mg "isinstance" = none) (gInt : mg "int" = none) (gB : mg "bool" = none) : FnOk P w K mg base CX0 1 f fd ["thing"] (spInt K) := by
  refine F.ok scInt (fun vs H Q E h => ?_) (fun cdv A outer s H vs Q E hr h => ?_)
  · obtain ⟨x, t, rfl, _⟩ := h
    rfl
  · obtain ⟨x, d, rfl, hk, k⟩ := h
    refine ⟨_, PSs.nox (pss_one (ps_ret (pe_and (pe_callB call_isi (by rfl) gI (by decide +kernel) (pa_cons (pv 0) (pa_cons (pe_bltn (v := .ty "int") (by rfl) gInt (by decide +kernel) rfl) pa_nil)))
      (pe_one (pe_not (pe_callB call_isi (by rfl) gI (by decide +kernel) (pa_cons (pv 0) (pa_cons (pe_bltn (v := .ty "bool") (by rfl) gB (by decide +kernel) rfl) pa_nil)))))))), ?_⟩
    refine ⟨_, rfl, _, _, _, _, _, rfl, .ty _, dp_ty hk, kit_int d, _, rfl, ite2' (fun c => ?_) (fun c => ?_)⟩
    · refine ⟨_, rfl, _, _, _, _, _, rfl, .ty _, dp_ty hk, kit_bool d, _, rfl, ?_⟩
      cases d <;> first | exact k | exact absurd c Bool.false_ne_true
    · have e : isIntD d = false := by cases d <;> first | rfl | exact absurd c.symm Bool.false_ne_true
      rw [← e]
      exact k
end
end K24

set_option Elab.async false
set_option maxRecDepth 100000
set_option maxHeartbeats 2000000
namespace K24
open PySem PySem.Spec PyProof.Rows L2 He KX
abbrev sLiY : Stmt := top 24
abbrev sLiK : Stmt := top 25
abbrev sLim : Stmt := top 23
abbrev sFit : Stmt := top 22
/-- a pair of integers is told -/
def PairIs (H : Hp) (p : Int × Int) (Q : VK) : Prop := ∀ T G, H T = none → Same H G → G T = some (.tup [.int p.1, .int p.2]) → Q (.ref T) G
def spLiY : Sp := fun vs H Q _ => ∃ (op wd : Str) (h t : Int), vs = [.str op, .str wd, .int h, .int t] ∧ PairIs H (limY op wd h t) Q
def spLiK : Sp := fun vs H Q _ => ∃ (op wd : Str) (h t : Int), vs = [.str op, .str wd, .int h, .int t] ∧ PairIs H (limK op wd h t) Q
def spLim : Sp := fun vs H Q _ => ∃ (z op wd : Str) (u v : V) (h t : Int), vs = [.str z, .str op, .str wd, u, v] ∧ (z ∈ (["x", "y", "k"] : List Str) → u = .int h) ∧ (z ∈ (["y", "k"] : List Str) → v = .int t) ∧ PairIs H (limP op wd z h t) Q
def spFit : Sp := fun vs H Q _ => ∃ (z op wd : Str) (b : Int) (u v a : V) (h t x : Int), vs = [.str z, .int b, .str op, .str wd, u, v, a] ∧ (z ∈ (["x", "y", "k"] : List Str) → u = .int h) ∧ (z ∈ (["y", "k"] : List Str) → v = .int t) ∧ (z = "y" → a = .int x) ∧ ∀ G, Same H G → Q (.bl (fitP op wd z b h t x)) G
section
variable {P : Program} {w : World} {K : PySem.W.Frag} {mg : Str → Option Value} {base : Heap}
theorem dstr (a b : Str) : decide (V.str a = V.str b) = decide (a = b) := by
  by_cases h : a = b
  · rw [decide_eq_true h, decide_eq_true (congrArg V.str h)]
  · rw [decide_eq_false h, decide_eq_false (fun e : V.str a = V.str b => h (by injection e))]
theorem scLiY : FnScope ["op", "world", "home", "to"] ["op", "world", "home", "to"] (defScope sLiY) := ⟨rfl, rfl, rfl, by decide +kernel, rfl, by decide +kernel, by decide +kernel⟩
theorem ok_liy {f : Addr} {fd : FuncData} (F : FnP K "_limits_of_y" sLiY f fd) : FnOk P w K mg base CX0 1 f fd ["op", "world", "home", "to"] spLiY := by
  refine F.ok scLiY (fun vs H Q E h => ?_) (fun cdv A outer s H vs Q E hr h => ?_)
  · obtain ⟨op, wd, h, t, rfl, _⟩ := h
    rfl
  · obtain ⟨op, wd, h, t, rfl, k⟩ := h
    have nd := scLiY.nd
    refine ⟨_, PSs.nox (pss_cons (ps_if (PW.pt (pw_or (pt_cmpR op_ne (pv 0) pe_str (nomark _)) (pw_or1 (pt_cmpR op_eq (pv 1) pe_str (nomark _)))))
(pss_one (ps_ret (pe_tup (pa_cons pe_int (pa_cons pe_int pa_nil)))))
pss_nil)
(pss_one (ps_ret (pe_ifExp (pt_cmpR op_eq (pv 1) pe_str (nomark _)) (pe_tup (pa_cons pe_int (pa_cons (pv 3) pa_nil))) (pe_tup (pa_cons pe_int (pa_cons (pv 2) pa_nil))))))), ?_⟩
    have zero : limY op wd h t = (0, 0) → ∀ T, H T = none → Q (.ref T) (upd H T (.tup [.int 0, .int 0])) := fun e T nT => by
      rw [e] at k
      exact k T _ nT (same_put nT) upd_same
    have rest : limY op wd h t = (if wd = "apart" then (1, t) else (1, h)) → (tIf (tTest (tOp rEq (tVar 1) (tC (V.str "apart")))) (tTup (tCons (tC (V.int 1)) (tCons (tVar 3) tNil))) (tTup (tCons (tC (V.int 1)) (tCons (tVar 2) tNil)))) [some (.str op), some (.str wd), some (.int h), some (.int t)] H Q := fun e => by
      rw [e] at k
      refine ⟨_, rfl, rfl, _, rfl, ?_⟩
      by_cases c : wd = "apart"
      · refine yes (decide_eq_true (congrArg V.str c)) ?_
        rw [if_pos c] at k
        exact ⟨_, rfl, (by show 2 ≤ sizeLine; decide), fun T nT => k T _ nT (same_put nT) upd_same⟩
      · refine no (decide_eq_false fun e => c (by injection e)) ?_
        rw [if_neg c] at k
        exact ⟨_, rfl, (by show 2 ≤ sizeLine; decide), fun T nT => k T _ nT (same_put nT) upd_same⟩
    refine ⟨_, rfl, rfl, _, rfl, ?_⟩
    by_cases c : op = "swap"
    · refine no (by rw [dstr, decide_eq_true c]; rfl) ?_
      refine ⟨_, rfl, rfl, _, rfl, ?_⟩
      by_cases c2 : wd = "itself"
      · refine yes (decide_eq_true (congrArg V.str c2)) ?_
        exact ⟨(by show 2 ≤ sizeLine; decide), zero (if_pos (.inr c2))⟩
      · refine no (decide_eq_false fun e => c2 (by injection e)) ?_
        exact rest (if_neg fun h => h.elim (fun h => h c) c2)
    · refine yes (by rw [dstr, decide_eq_false c]; rfl) ?_
      exact ⟨(by show 2 ≤ sizeLine; decide), zero (if_pos (.inl c))⟩
theorem scLiK : FnScope ["op", "world", "home", "to"] ["op", "world", "home", "to"] (defScope sLiK) := ⟨rfl, rfl, rfl, by decide +kernel, rfl, by decide +kernel, by decide +kernel⟩
theorem ok_lik {f : Addr} {fd : FuncData} {t30 : Tok} (F : FnP K "_limits_of_k" sLiK f fd) (gGR : mg "GREATEST" = some (.int G30 t30)) (n_min : mg "min" = none) : FnOk P w K mg base CX0 1 f fd ["op", "world", "home", "to"] spLiK := by
  refine F.ok scLiK (fun vs H Q E h => ?_) (fun cdv A outer s H vs Q E hr h => ?_)
  · obtain ⟨op, wd, h, t, rfl, _⟩ := h
    rfl
  · obtain ⟨op, wd, h, t, rfl, k⟩ := h
    have nd := scLiK.nd
    refine ⟨_, PSs.nox (pss_cons (ps_if (pt_cmpR op_notIn_seq (pv 0) (pe_tup (pa_cons pe_str (pa_cons pe_str pa_nil))) rfl)
(pss_one (ps_ret (pe_tup (pa_cons pe_int (pa_cons pe_int pa_nil)))))
pss_nil)
(pss_one (ps_ret (pe_ifExp (pt_cmpR op_eq (pv 1) pe_str (nomark _)) (pe_tup (pa_cons pe_int (pa_cons (pv 2) pa_nil))) (pe_tup (pa_cons pe_int (pa_cons (pe_callB (call_min2 rfl) (by rfl) n_min (by decide +kernel) (pa_cons (pe_op op_add (pv 3) pe_int) (pa_cons (pe_glob (v := .int G30) rfl gGR ⟨_, rfl⟩) pa_nil))) pa_nil))))))), ?_⟩
    unfold limK at k
    refine ⟨_, rfl, (by show 2 ≤ sizeLine; decide), fun T nT => ?_⟩
    generalize e_G1 : upd _ T _ = G1
    have s_T := new_same e_G1 nT
    have f_T := new_at e_G1
    clear e_G1
    refine ⟨T, (["put", "move"] : List Str).map V.str, rfl, .inr (SqT.of f_T), rfl, rfl, _, rfl, ?_⟩
    rw [if_pos rfl, inV_str]
    by_cases c : op ∈ (["put", "move"] : List Str)
    · rw [if_neg (fun h => h c)] at k
      refine no (by rw [decide_eq_true c]; rfl) ?_
      refine ⟨_, rfl, rfl, _, rfl, ?_⟩
      by_cases c2 : wd = "within"
      · refine yes (decide_eq_true (congrArg V.str c2)) ?_
        rw [if_pos c2] at k
        refine ⟨_, rfl, (by show 2 ≤ sizeLine; decide), fun R nR => ?_⟩
        exact k R _ (s_T.free nR) (s_T.trans (same_put nR)) upd_same
      · refine no (decide_eq_false fun e => c2 (by injection e)) ?_
        rw [if_neg c2] at k
        refine ⟨_, rfl, _, _, rfl, rfl, _, _, rfl, (by show 2 ≤ sizeLine; decide), fun R nR => ?_⟩
        have em : min (t + 1) G30 = if G30 < t + 1 then G30 else t + 1 := by split <;> omega
        rw [em] at k
        exact k R _ (s_T.free nR) (s_T.trans (same_put nR)) upd_same
    · rw [if_pos c] at k
      refine yes (by rw [decide_eq_false c]; rfl) ?_
      refine ⟨(by show 2 ≤ sizeLine; decide), fun R nR => ?_⟩
      exact k R _ (s_T.free nR) (s_T.trans (same_put nR)) upd_same
theorem scLim : FnScope ["name", "op", "world", "home", "to", "least"] ["name", "op", "world", "home", "to"] (defScope sLim) := ⟨rfl, rfl, rfl, by decide +kernel, rfl, by decide +kernel, by decide +kernel⟩
theorem ok_lim {f fY fK : Addr} {fd fdY fdK : FuncData} {t30 : Tok} (F : FnP K "_limits" sLim f fd) (gGR : mg "GREATEST" = some (.int G30 t30)) (hN : ∀ H, SqT K H (ga K "NEW") (newL.map V.str)) (gNEW : mg "NEW" = some (.ref (ga K "NEW")))
    (GY : FnOk P w K mg base CX0 1 fY fdY ["op", "world", "home", "to"] spLiY) (bY : Binds K fdY ["op", "world", "home", "to"] []) (kY : PySem.W.keepIn K (.ref fY) = true) (gY : mg "_limits_of_y" = some (.ref fY))
    (GK : FnOk P w K mg base CX0 1 fK fdK ["op", "world", "home", "to"] spLiK) (bK : Binds K fdK ["op", "world", "home", "to"] []) (kK : PySem.W.keepIn K (.ref fK) = true) (gK : mg "_limits_of_k" = some (.ref fK)) : FnOk P w K mg base CX0 2 f fd ["name", "op", "world", "home", "to"] spLim := by
  refine F.ok scLim (fun vs H Q E h => ?_) (fun cdv A outer s H vs Q E hr h => ?_)
  · obtain ⟨z, op, wd, u, v, h, t, rfl, _⟩ := h
    rfl
  · obtain ⟨z, op, wd, u, v, h, t, rfl, hu1, hv1, k⟩ := h
    have nd := scLim.nd
    have hr1 := hr.mono (j := 1) (by decide)
    refine ⟨_, PSs.nox (pss_cons (ps_if (pt_cmpR op_eq (pv 0) pe_str (nomark _))
(pss_cons (ps_set (i := 5) nd rfl (Or.inl rfl) (pe_ifExp (PW.pt (pw_and (pt_cmpR op_eq (pv 1) pe_str (nomark _)) (pw_and1 (pt_cmpR op_eq (pv 2) pe_str (nomark _))))) pe_int pe_int))
(pss_one (ps_ret (pe_ifExp (pt_cmpR op_in_seq (pv 1) (pe_glob (v := .ref (ga K "NEW")) rfl gNEW rfl) rfl) (pe_tup (pa_cons pe_int (pa_cons pe_int pa_nil))) (pe_tup (pa_cons (pv 5) (pa_cons (pe_glob (v := .int G30) rfl gGR ⟨_, rfl⟩) pa_nil)))))))
pss_nil)
(pss_cons (ps_if (pt_cmpR op_eq (pv 0) pe_str (nomark _))
(pss_cons (ps_set (i := 5) nd rfl (Or.inl rfl) (pe_ifExp (pt_cmpR op_eq (pv 1) pe_str (nomark _)) pe_int pe_int))
(pss_one (ps_ret (pe_ifExp (PW.pt (pw_or (pt_cmpR op_in_seq (pv 1) (pe_glob (v := .ref (ga K "NEW")) rfl gNEW rfl) rfl) (pw_or1 (pt_cmpR op_eq (pv 2) pe_str (nomark _))))) (pe_tup (pa_cons (pv 5) (pa_cons (pe_glob (v := .int G30) rfl gGR ⟨_, rfl⟩) pa_nil))) (pe_tup (pa_cons pe_int (pa_cons pe_int pa_nil)))))))
pss_nil)
(pss_cons (ps_if (pt_cmpR op_eq (pv 0) pe_str (nomark _))
(pss_one (ps_ret (pe_ifExp (pt_cmpR op_in_seq (pv 1) (pe_glob (v := .ref (ga K "NEW")) rfl gNEW rfl) rfl) (pe_tup (pa_cons pe_int (pa_cons pe_int pa_nil))) (pe_tup (pa_cons pe_int (pa_cons (pv 3) pa_nil))))))
pss_nil)
(pss_cons (ps_if (pt_cmpR op_eq (pv 0) pe_str (nomark _))
(pss_one (ps_ret (pe_call GY hr1 (by rfl) gY kY bY .nil pass0 (pa_cons (pv 1) (pa_cons (pv 2) (pa_cons (pv 3) (pa_cons (pv 4) pa_nil)))))))
pss_nil)
(pss_cons (ps_if (pt_cmpR op_eq (pv 0) pe_str (nomark _))
(pss_one (ps_ret (pe_call GK hr1 (by rfl) gK kK bK .nil pass0 (pa_cons (pv 1) (pa_cons (pv 2) (pa_cons (pv 3) (pa_cons (pv 4) pa_nil)))))))
pss_nil)
(pss_one (ps_ret (pe_tup (pa_cons pe_int (pa_cons (pe_glob (v := .int G30) rfl gGR ⟨_, rfl⟩) pa_nil)))))))))), ?_⟩
    unfold limP at k
    refine ⟨_, rfl, rfl, _, rfl, ?_⟩
    by_cases c1 : z = "home"
    · refine yes (decide_eq_true (congrArg V.str c1)) ?_
      rw [if_pos c1] at k
      refine seq_by (fun σ G => σ = [some (.str z), some (.str op), some (.str wd), some u, some v, some (.int (if op = "swap" ∧ wd = "within" then 2 else 1))] ∧ G = H) ?_ (fun nxt => ?_)
      · rintro σ G ⟨rfl, rfl⟩
        refine ⟨_, rfl, _, _, rfl, .inr (hN G), rfl, rfl, _, rfl, ?_⟩
        rw [if_neg Bool.false_ne_true, inV_str]
        by_cases c : op ∈ newL
        · rw [if_pos c] at k
          refine yes (decide_eq_true c) ?_
          exact ⟨(by show 2 ≤ sizeLine; decide), fun R nR => k R _ nR (same_put nR) upd_same⟩
        · rw [if_neg c] at k
          refine no (decide_eq_false c) ?_
          exact ⟨_, rfl, (by show 2 ≤ sizeLine; decide), fun R nR => k R _ nR (same_put nR) upd_same⟩
      · refine ⟨_, rfl, rfl, _, rfl, ?_⟩
        by_cases c2 : op = "swap"
        · refine yes (decide_eq_true (congrArg V.str c2)) ?_
          refine ⟨_, rfl, rfl, _, rfl, ?_⟩
          by_cases c3 : wd = "within"
          · refine yes (decide_eq_true (congrArg V.str c3)) ?_
            exact nxt _ _ ⟨by rw [if_pos ⟨c2, c3⟩]; rfl, rfl⟩
          · refine no (decide_eq_false fun e => c3 (by injection e)) ?_
            exact nxt _ _ ⟨by rw [if_neg fun h => c3 h.2]; rfl, rfl⟩
        · refine no (decide_eq_false fun e => c2 (by injection e)) ?_
          exact nxt _ _ ⟨by rw [if_neg fun h => c2 h.1]; rfl, rfl⟩
    refine no (decide_eq_false fun e => c1 (by injection e)) ?_
    rw [if_neg c1] at k
    refine ⟨_, rfl, rfl, _, rfl, ?_⟩
    by_cases c2 : z = "to"
    · refine yes (decide_eq_true (congrArg V.str c2)) ?_
      rw [if_pos c2] at k
      refine seq_by (fun σ G => σ = [some (.str z), some (.str op), some (.str wd), some u, some v, some (.int (if op = "swap" then 1 else 0))] ∧ G = H) ?_ (fun nxt => ?_)
      · rintro σ G ⟨rfl, rfl⟩
        refine ⟨_, rfl, _, _, rfl, .inr (hN G), rfl, rfl, _, rfl, ?_⟩
        rw [if_neg Bool.false_ne_true, inV_str]
        by_cases c : op ∈ newL
        · rw [if_pos (Or.inl c)] at k
          refine yes (decide_eq_true c) ?_
          exact ⟨_, rfl, (by show 2 ≤ sizeLine; decide), fun R nR => k R _ nR (same_put nR) upd_same⟩
        · refine no (decide_eq_false c) ?_
          refine ⟨_, rfl, rfl, _, rfl, ?_⟩
          by_cases c3 : wd = "apart"
          · rw [if_pos (Or.inr c3)] at k
            refine yes (decide_eq_true (congrArg V.str c3)) ?_
            exact ⟨_, rfl, (by show 2 ≤ sizeLine; decide), fun R nR => k R _ nR (same_put nR) upd_same⟩
          · rw [if_neg fun h => h.elim c c3] at k
            refine no (decide_eq_false fun e => c3 (by injection e)) ?_
            exact ⟨(by show 2 ≤ sizeLine; decide), fun R nR => k R _ nR (same_put nR) upd_same⟩
      · refine ⟨_, rfl, rfl, _, rfl, ?_⟩
        by_cases c3 : op = "swap"
        · refine yes (decide_eq_true (congrArg V.str c3)) ?_
          exact nxt _ _ ⟨by rw [if_pos c3]; rfl, rfl⟩
        · refine no (decide_eq_false fun e => c3 (by injection e)) ?_
          exact nxt _ _ ⟨by rw [if_neg c3]; rfl, rfl⟩
    refine no (decide_eq_false fun e => c2 (by injection e)) ?_
    rw [if_neg c2] at k
    refine ⟨_, rfl, rfl, _, rfl, ?_⟩
    by_cases c3 : z = "x"
    · refine yes (decide_eq_true (congrArg V.str c3)) ?_
      rw [if_pos c3] at k
      obtain rfl := hu1 (by rw [c3]; decide)
      refine ⟨_, rfl, _, _, rfl, .inr (hN H), rfl, rfl, _, rfl, ?_⟩
      rw [if_neg Bool.false_ne_true, inV_str]
      by_cases c : op ∈ newL
      · rw [if_pos c] at k
        refine yes (decide_eq_true c) ?_
        exact ⟨(by show 2 ≤ sizeLine; decide), fun R nR => k R _ nR (same_put nR) upd_same⟩
      · rw [if_neg c] at k
        refine no (decide_eq_false c) ?_
        exact ⟨_, rfl, (by show 2 ≤ sizeLine; decide), fun R nR => k R _ nR (same_put nR) upd_same⟩
    refine no (decide_eq_false fun e => c3 (by injection e)) ?_
    rw [if_neg c3] at k
    refine ⟨_, rfl, rfl, _, rfl, ?_⟩
    by_cases c4 : z = "y"
    · refine yes (decide_eq_true (congrArg V.str c4)) ?_
      rw [if_pos c4] at k
      obtain rfl := hu1 (by rw [c4]; decide)
      obtain rfl := hv1 (by rw [c4]; decide)
      exact ⟨_, rfl, _, rfl, _, rfl, _, rfl, op, wd, h, t, rfl, k⟩
    refine no (decide_eq_false fun e => c4 (by injection e)) ?_
    rw [if_neg c4] at k
    refine ⟨_, rfl, rfl, _, rfl, ?_⟩
    by_cases c5 : z = "k"
    · refine yes (decide_eq_true (congrArg V.str c5)) ?_
      rw [if_pos c5] at k
      obtain rfl := hu1 (by rw [c5]; decide)
      obtain rfl := hv1 (by rw [c5]; decide)
      exact ⟨_, rfl, _, rfl, _, rfl, _, rfl, op, wd, h, t, rfl, k⟩
    refine no (decide_eq_false fun e => c5 (by injection e)) ?_
    rw [if_neg c5] at k
    exact ⟨(by show 2 ≤ sizeLine; decide), fun R nR => k R _ nR (same_put nR) upd_same⟩
theorem scFit : FnScope ["name", "worth", "op", "world", "home", "to", "x", "least", "most"] ["name", "worth", "op", "world", "home", "to", "x"] (defScope sFit) := ⟨rfl, rfl, rfl, by decide +kernel, rfl, by decide +kernel, by decide +kernel⟩
theorem ok_fit {f fL : Addr} {fd fdL : FuncData} (F : FnP K "_fits" sFit f fd)
    (GL : FnOk P w K mg base CX0 2 fL fdL ["name", "op", "world", "home", "to"] spLim) (bL : Binds K fdL ["name", "op", "world", "home", "to"] []) (kL : PySem.W.keepIn K (.ref fL) = true) (gL : mg "_limits" = some (.ref fL)) : FnOk P w K mg base CX0 3 f fd ["name", "worth", "op", "world", "home", "to", "x"] spFit := by
  refine F.ok scFit (fun vs H Q E h => ?_) (fun cdv A outer s H vs Q E hr h => ?_)
  · obtain ⟨z, op, wd, b, u, v, a, h, t, x, rfl, _⟩ := h
    rfl
  · obtain ⟨z, op, wd, b, u, v, a, h, t, x, rfl, hu1, hv1, ha1, k⟩ := h
    have nd := scFit.nd
    have hr2 := hr.mono (j := 2) (by decide)
    refine ⟨_, PSs.nox (pss_cons (ps_asg (pe_call GL hr2 (by rfl) gL kL bL .nil pass0 (pa_cons (pv 0) (pa_cons (pv 2) (pa_cons (pv 3) (pa_cons (pv 4) (pa_cons (pv 5) pa_nil)))))) (pg_tup rfl (pgs_cons (pg_name (i := 7) nd rfl (Or.inl rfl)) (pgs_cons (pg_name (i := 8) nd rfl (Or.inl rfl)) pgs_nil))))
(pss_cons (ps_if (PW.pt (pw_and (pt_cmpR op_eq (pv 0) pe_str (nomark _)) (pw_and (pt_cmpR op_eq (pv 3) pe_str (nomark _)) (pw_and1 (pt_cmpR op_eq (pv 1) (pv 6) (nomark _))))))
(pss_one (ps_ret pe_bl))
pss_nil)
(pss_one (ps_ret (pe_chain op_le op_le (pv 7) (pv 1) (pv 8)))))), ?_⟩
    refine ⟨_, rfl, _, rfl, _, rfl, _, rfl, _, rfl, z, op, wd, u, v, h, t, rfl, hu1, hv1, fun T G nT sG hT => ?_⟩
    refine ⟨T, _, rfl, SqT.of hT, rfl, _, _, rfl, _, _, rfl, rfl, ?_⟩
    dsimp only [gName, gTup, gCons, gNil, List.set]
    have k := k G sG
    unfold fitP inR at k
    refine seq_by (fun σ G2 => ¬(z = "y" ∧ wd = "within" ∧ b = x) ∧ σ = [some (.str z), some (.int b), some (.str op), some (.str wd), some u, some v, some a, some (.int (limP op wd z h t).1), some (.int (limP op wd z h t).2)] ∧ G2 = G) ?_ (fun nxt => ?_)
    · rintro σ G2 ⟨nc, rfl, rfl⟩
      rw [if_neg nc] at k
      refine ⟨_, rfl, _, rfl, _, _, rfl, rfl, _, rfl, ite2' (fun c => ?_) (fun c => ?_)⟩
      · rw [c, Bool.true_and] at k
        exact ⟨_, rfl, _, _, rfl, rfl, k⟩
      · rw [c, Bool.false_and] at k
        exact k
    · refine ⟨_, rfl, rfl, _, rfl, ?_⟩
      by_cases c1 : z = "y"
      · refine yes (decide_eq_true (congrArg V.str c1)) ?_
        obtain rfl := ha1 c1
        refine ⟨_, rfl, rfl, _, rfl, ?_⟩
        by_cases c2 : wd = "within"
        · refine yes (decide_eq_true (congrArg V.str c2)) ?_
          refine ⟨_, rfl, _, rfl, rfl, _, rfl, ?_⟩
          by_cases c3 : b = x
          · refine yes (decide_eq_true (congrArg V.int c3)) ?_
            rw [if_pos ⟨c1, c2, c3⟩] at k
            exact k
          · refine no (decide_eq_false fun e => c3 (by injection e)) ?_
            exact nxt _ _ ⟨fun h => c3 h.2.2, rfl, rfl⟩
        · refine no (decide_eq_false fun e => c2 (by injection e)) ?_
          exact nxt _ _ ⟨fun h => c2 h.2.1, rfl, rfl⟩
      · refine no (decide_eq_false fun e => c1 (by injection e)) ?_
        exact nxt _ _ ⟨fun h => c1 h.1, rfl, rfl⟩
end
end K24

set_option Elab.async false
set_option maxRecDepth 100000
set_option maxHeartbeats 2000000
namespace K24
open PySem PySem.Spec PyProof.Rows L2 He KX
abbrev sSci : Stmt := inClass (top 21) 0
structure ScnK (K : PySem.W.Frag) : Prop where
  made : Mk K (ga K "Scene") (ma K (ga K "Scene") "__init__")
  cls : Cls K (ga K "Scene")
  noat : ∀ f ∈ sfl, NoAttr K (ga K "Scene") f
/-- the scene's own dict -/
def scV (ov wv : V) (n : Str → V) (f : Str) : V := if f = "op" then ov else if f = "world" then wv else n f
def ScF (ov wv : V) (n : Str → V) (fs : List (Str × V)) : Prop := ∀ f ∈ sfl, fs.lookup f = some (scV ov wv n f)
abbrev kwL : List (Str × V) := [("home", .int 0), ("to", .int 0), ("x", .int 0), ("y", .int 0), ("k", .int 0), ("other", .int 0)]
abbrev sciP : List Str := ["self", "op", "world", "home", "to", "x", "y", "k", "other"]
/-- what a scene is made of: the values and their data -/
structure ScD0 (K : PySem.W.Frag) (H : Hp) (ov wv : V) (n : Str → V) (eo ew : PyData) (d : Str → PyData) : Prop where
  o : Dp K H ov eo
  os : SeqAt.shaped eo = true
  w : Dp K H wv ew
  ws : SeqAt.shaped ew = true
  n : ∀ z ∈ nk, Dp K H (n z) (d z)
def spSci (K : PySem.W.Frag) : Sp := fun vs H Q E => ∃ (a dx : Addr) (H0 : Hp) (ov wv : V) (n : Str → V) (eo ew : PyData) (d : Str → PyData), vs = .ref a :: ov :: wv :: nk.map n ∧ ScD0 K H0 ov wv n eo ew d ∧ H0 a = none ∧ Same H0 H ∧ H a = some (.ins (ga K "Scene") dx []) ∧
  (inS ops eo = false → Raised (ga K "BadOperation") H [("op", ov)] E) ∧ (∀ op ∈ ops, eo = .str op → inS (wor op) ew = false → Raised (ga K "BadWorld") H [("world", wv)] E) ∧
  (∀ op ∈ ops, eo = .str op → ∀ wd ∈ wor op, ew = .str wd → ∀ z, wrong (okP op wd d) = some z → Raised (ga K "BadNumber") H [("name", .str z)] E) ∧
  (∀ op ∈ ops, eo = .str op → ∀ wd ∈ wor op, ew = .str wd → wrong (okP op wd d) = none → ∀ G fs, Same H0 G → G a = some (.ins (ga K "Scene") dx fs) → ScF ov wv n fs → Q .non G)
theorem lkE {f : Str} {v : V} {fs : List (Str × V)} : (putF f v fs).lookup f = some v := by rw [lookup_putF, if_pos rfl]
theorem lkN {f g : Str} {v : V} {fs : List (Str × V)} (h : g ≠ f) : (putF f v fs).lookup g = fs.lookup g := by rw [lookup_putF, if_neg h]
theorem plen {f : Str} {v : V} {fs : List (Str × V)} {n : Nat} (h : fs.length ≤ n) : (putF f v fs).length ≤ n + 1 := Nat.le_trans (length_putF _ _ _) (by omega)
theorem scV_op {ov wv : V} {n : Str → V} : scV ov wv n "op" = ov := if_pos rfl
theorem scV_wd {ov wv : V} {n : Str → V} : scV ov wv n "world" = wv := (if_neg (by decide +kernel)).trans (if_pos rfl)
theorem nk_ne : ∀ z ∈ nk, z ≠ "op" ∧ z ≠ "world" := by decide +kernel
theorem scV_nk {ov wv : V} {n : Str → V} {z : Str} (h : z ∈ nk) : scV ov wv n z = n z := (if_neg (nk_ne z h).1).trans (if_neg (nk_ne z h).2)
theorem wor_shaped : ∀ z ∈ ops, SeqAt.shaped (.tuple ((wor z).map PyData.str)) = true := by decide +kernel
theorem wrong_at {ok : Str → Bool} {i : Nat} {z : Str} (hz : nk[i]? = some z) (hp : ∀ y ∈ nk.take i, ok y = true) (h : ok z = false) : wrong ok = some z := by
  unfold wrong
  have hn : ¬ ok z = true := by rw [h]; decide
  match i, hz with
  | 0, hz => obtain rfl := Option.some.inj hz; rw [if_neg hn]
  | 1, hz => obtain rfl := Option.some.inj hz; rw [if_pos (hp "home" (by decide)), if_neg hn]
  | 2, hz => obtain rfl := Option.some.inj hz; rw [if_pos (hp "home" (by decide)), if_pos (hp "to" (by decide)), if_neg hn]
  | 3, hz => obtain rfl := Option.some.inj hz; rw [if_pos (hp "home" (by decide)), if_pos (hp "to" (by decide)), if_pos (hp "x" (by decide)), if_neg hn]
  | 4, hz => obtain rfl := Option.some.inj hz; rw [if_pos (hp "home" (by decide)), if_pos (hp "to" (by decide)), if_pos (hp "x" (by decide)), if_pos (hp "y" (by decide)), if_neg hn]
  | 5, hz => obtain rfl := Option.some.inj hz; rw [if_pos (hp "home" (by decide)), if_pos (hp "to" (by decide)), if_pos (hp "x" (by decide)), if_pos (hp "y" (by decide)), if_pos (hp "k" (by decide)), if_neg hn]
theorem nk_pre : ∀ i < 6, ∀ z, nk[i]? = some z → (z ∈ (["x", "y", "k"] : List Str) → ("home" : Str) ∈ nk.take i) ∧ (z ∈ (["y", "k"] : List Str) → ("to" : Str) ∈ nk.take i) ∧ (z = "y" → ("x" : Str) ∈ nk.take i) ∧ z ∈ nk ∧ nk.take (i + 1) = nk.take i ++ [z] := by
  intro i hi z hz
  match i, hi, hz with
  | 0, _, hz => obtain rfl := Option.some.inj hz; decide +kernel
  | 1, _, hz => obtain rfl := Option.some.inj hz; decide +kernel
  | 2, _, hz => obtain rfl := Option.some.inj hz; decide +kernel
  | 3, _, hz => obtain rfl := Option.some.inj hz; decide +kernel
  | 4, _, hz => obtain rfl := Option.some.inj hz; decide +kernel
  | 5, _, hz => obtain rfl := Option.some.inj hz; decide +kernel
section
variable {P : Program} {w : World} {K : PySem.W.Frag} {mg : Str → Option Value} {base : Heap}
theorem dp_int {H : Hp} {v : V} {i : Int} (h : Dp K H v (.int i)) : v = .int i := by cases h; rfl
theorem scSci : FnScope ["self", "op", "world", "home", "to", "x", "y", "k", "other", "name", "worth"] ["self", "op", "world", "home", "to", "x", "y", "k", "other"] (defScope sSci) := ⟨rfl, rfl, rfl, by decide +kernel, rfl, by decide +kernel, by decide +kernel⟩
theorem ok_sci {f fI fF fW : Addr} {fd fdI fdF fdW fdE fdN : FuncData} (F : FunD K "__init__" "Scene.__init__" (defArgs sSci) (defBody sSci) (defScope sSci) [] kwL f fd) (S : ScnK K)
    (BW : ErBW K) (gBW : mg "BadWorld" = some (.ref (ga K "BadWorld"))) (FE : FunD K "__init__" "BadWorld.__init__" (defArgs sBWI) (defBody sBWI) (defScope sBWI) [] [] (ma K (ga K "BadWorld") "__init__") fdE)
    (BN : ErBN K) (gBN : mg "BadNumber" = some (.ref (ga K "BadNumber"))) (FN : FunD K "__init__" "BadNumber.__init__" (defArgs sBNI) (defBody sBNI) (defScope sBNI) [] [] (ma K (ga K "BadNumber") "__init__") fdN)
    (GI : FnOk P w K mg base CX0 1 fI fdI ["thing"] (spInt K)) (bI : Binds K fdI ["thing"] []) (kI : PySem.W.keepIn K (.ref fI) = true) (gI : mg "is_integer" = some (.ref fI))
    (GF : FnOk P w K mg base CX0 3 fF fdF ["name", "worth", "op", "world", "home", "to", "x"] spFit) (bF : Binds K fdF ["name", "worth", "op", "world", "home", "to", "x"] []) (kF : PySem.W.keepIn K (.ref fF) = true) (gF : mg "_fits" = some (.ref fF))
    (GW : FnOk P w K mg base (L2N.CX P w) 4 fW fdW ["op"] (spWor K)) (bW : Binds K fdW ["op"] []) (kW : PySem.W.keepIn K (.ref fW) = true) (gW : mg "worlds_of" = some (.ref fW)) : FnOk P w K mg base (L2N.CX P w) 5 f fd sciP (spSci K) := by
  have GE : FnOk P w K mg base CX0 1 (ma K (ga K "BadWorld") "__init__") fdE ["self", "world"] (spX1 (ga K "BadWorld") "world") := ok_bwi FE BW
  have bE : Binds K fdE ["self", "world"] [] := FE.bindsN fun _ _ _ _ _ _ us hl => match us, hl with | [_, _], _ => rfl
  have GEN : FnOk P w K mg base CX0 1 (ma K (ga K "BadNumber") "__init__") fdN ["self", "name"] (spX1 (ga K "BadNumber") "name") := ok_bni FN BN
  have bEN : Binds K fdN ["self", "name"] [] := FN.bindsN fun _ _ _ _ _ _ us hl => match us, hl with | [_, _], _ => rfl
  refine F.ok scSci (fun vs H Q E h => ?_) (fun cdv A outer s H vs Q E hr h => ?_)
  · obtain ⟨a, dx, H0, ov, wv, n, eo, ew, d, rfl, _⟩ := h
    rfl
  · obtain ⟨a, dx, H0, ov, wv, n, eo, ew, d, rfl, D, na, s0, ha, k1, k2, k3, k4⟩ := h
    have nd := scSci.nd
    have hr4 := hr.mono (j := 4) (by decide)
    have hr3 := hr.mono (j := 3) (by decide)
    have hr2 := hr.mono (j := 2) (by decide)
    have hr1 := hr.mono (j := 1) (by decide)
    have hu65 : (A.deeper (envOfC "Scene.__init__" (defScope sSci) s.heap.objs.size f cdv)).units + 65 < cLine := by have := hr.un; omega
    refine ⟨_, (by exact (pss_cons (ps_if (pt_cmpR (op_notInDT hu65) (pv 2) (pe_callS GW hr4 (by rfl) gW kW bW (fun σ => L2N.passAt (L2N.takes_of rfl rfl rfl rfl) σ) (pa_cons (pv 1) pa_nil)) rfl)
(pss_one (L2N.ps_raise rfl (L2N.takes_of rfl rfl rfl rfl) (by exact (pmk_x BW.T BW.ty bsV BW.iC BW.fn GE hr2 bE pass0 rfl gBW (pa_cons (pv 2) pa_nil)))))
pss_nil)
(pss_cons (ps_for (passes_of rfl) rfl (by exact (pi_tup (pe_tup (pa_cons (pe_tup (pa_cons pe_str (pa_cons (pv 3) pa_nil))) (pa_cons (pe_tup (pa_cons pe_str (pa_cons (pv 4) pa_nil))) (pa_cons (pe_tup (pa_cons pe_str (pa_cons (pv 5) pa_nil))) (pa_cons (pe_tup (pa_cons pe_str (pa_cons (pv 6) pa_nil))) (pa_cons (pe_tup (pa_cons pe_str (pa_cons (pv 7) pa_nil))) (pa_cons (pe_tup (pa_cons pe_str (pa_cons (pv 8) pa_nil))) pa_nil))))))))) (pg_tup rfl (pgs_cons (pg_name (i := 9) nd rfl (Or.inl rfl)) (pgs_cons (pg_name (i := 10) nd rfl (Or.inl rfl)) pgs_nil))) (pss_one (ps_if (PW.pt (pw_or (pt_not (pt_val (pe_call GI hr1 (by rfl) gI kI bI .nil pass0 (pa_cons (pv 10) pa_nil)))) (pw_or1 (pt_not (pt_val (pe_call GF hr3 (by rfl) gF kF bF .nil pass0 (pa_cons (pv 9) (pa_cons (pv 10) (pa_cons (pv 1) (pa_cons (pv 2) (pa_cons (pv 3) (pa_cons (pv 4) (pa_cons (pv 5) pa_nil)))))))))))))
(pss_one (L2N.ps_raise rfl (L2N.takes_of rfl rfl rfl rfl) (by exact (pmk_x BN.T BN.ty bsV BN.iC BN.fn GEN hr2 bEN pass0 rfl gBN (pa_cons (pv 9) pa_nil)))))
pss_nil)))
(pss_cons (ps_fld (pv 0) (pv 1) rfl)
(pss_cons (ps_fld (pv 0) (pv 2) rfl)
(pss_cons (ps_fld (pv 0) (pv 3) rfl)
(pss_cons (ps_fld (pv 0) (pv 4) rfl)
(pss_cons (ps_fld (pv 0) (pv 5) rfl)
(pss_cons (ps_fld (pv 0) (pv 6) rfl)
(pss_cons (ps_fld (pv 0) (pv 7) rfl)
(pss_one (ps_fld (pv 0) (pv 8) rfl)))))))))))), ?_⟩
    refine ⟨_, rfl, _, rfl, ov, eo, rfl, D.o.mv s0, D.os, fun op hop eop T nT => ?_, k1⟩
    generalize e_G1 : upd _ T _ = G1
    have s_T := new_same e_G1 nT
    have f_T := new_at e_G1
    clear e_G1
    have ha := ha.mv s_T
    have sG1 := s0.trans s_T
    refine ⟨ew, (wor op).map PyData.str, D.w.mv sG1, .tup (SqT.of f_T) (strs_dp _), D.ws, wor_shaped op hop, _, rfl, ?_⟩
    rw [if_pos rfl]
    show if (!inS (wor op) ew) = true then _ else _
    cases hi : inS (wor op) ew with
    | false => exact yes rfl ⟨_, rfl, (by show 1 ≤ 1000; decide), fun e he => ⟨e, _, G1, rfl, rfl, he, fun d' H' hd' hde h1 h2 h3 => ⟨rfl, d', _, h1, h2, hd', raised_at ((k2 op hop eop hi).mv s_T) he hd' hde h3⟩⟩⟩
    | true =>
    refine no rfl ?_
    obtain ⟨wd, hwd, ewd⟩ := inS_true hi
    have eov : ov = .str op := dp_str (eop ▸ D.o)
    have ewv : wv = .str wd := dp_str (ewd ▸ D.w)
    subst eov
    subst ewv
    have k3 := k3 op hop eop wd hwd ewd
    have k4 := k4 op hop eop wd hwd ewd
    -- the tuples
    refine ⟨_, rfl, (by show 2 ≤ sizeLine; decide), fun r1 n1 => ?_⟩
    generalize e_J1 : upd _ r1 _ = J1
    have s_r1 := new_same e_J1 n1
    have f_r1 := new_at e_J1
    clear e_J1
    have ha := ha.mv s_r1
    have sG1 := sG1.trans s_r1
    refine ⟨_, rfl, (by show 2 ≤ sizeLine; decide), fun r2 n2 => ?_⟩
    generalize e_J2 : upd _ r2 _ = J2
    have s_r2 := new_same e_J2 n2
    have f_r2 := new_at e_J2
    clear e_J2
    have ha := ha.mv s_r2
    have f_r1 := f_r1.mv s_r2
    have sG1 := sG1.trans s_r2
    refine ⟨_, rfl, (by show 2 ≤ sizeLine; decide), fun r3 n3 => ?_⟩
    generalize e_J3 : upd _ r3 _ = J3
    have s_r3 := new_same e_J3 n3
    have f_r3 := new_at e_J3
    clear e_J3
    have ha := ha.mv s_r3
    have f_r1 := f_r1.mv s_r3
    have f_r2 := f_r2.mv s_r3
    have sG1 := sG1.trans s_r3
    refine ⟨_, rfl, (by show 2 ≤ sizeLine; decide), fun r4 n4 => ?_⟩
    generalize e_J4 : upd _ r4 _ = J4
    have s_r4 := new_same e_J4 n4
    have f_r4 := new_at e_J4
    clear e_J4
    have ha := ha.mv s_r4
    have f_r1 := f_r1.mv s_r4
    have f_r2 := f_r2.mv s_r4
    have f_r3 := f_r3.mv s_r4
    have sG1 := sG1.trans s_r4
    refine ⟨_, rfl, (by show 2 ≤ sizeLine; decide), fun r5 n5 => ?_⟩
    generalize e_J5 : upd _ r5 _ = J5
    have s_r5 := new_same e_J5 n5
    have f_r5 := new_at e_J5
    clear e_J5
    have ha := ha.mv s_r5
    have f_r1 := f_r1.mv s_r5
    have f_r2 := f_r2.mv s_r5
    have f_r3 := f_r3.mv s_r5
    have f_r4 := f_r4.mv s_r5
    have sG1 := sG1.trans s_r5
    refine ⟨_, rfl, (by show 2 ≤ sizeLine; decide), fun r6 n6 => ?_⟩
    generalize e_J6 : upd _ r6 _ = J6
    have s_r6 := new_same e_J6 n6
    have f_r6 := new_at e_J6
    clear e_J6
    have ha := ha.mv s_r6
    have f_r1 := f_r1.mv s_r6
    have f_r2 := f_r2.mv s_r6
    have f_r3 := f_r3.mv s_r6
    have f_r4 := f_r4.mv s_r6
    have f_r5 := f_r5.mv s_r6
    have sG1 := sG1.trans s_r6
    refine ⟨(by show 6 ≤ sizeLine; decide), fun L nL => ?_⟩
    generalize e_J7 : upd _ L _ = J7
    have s_L := new_same e_J7 nL
    have f_L := new_at e_J7
    clear e_J7
    have ha := ha.mv s_L
    have f_r1 := f_r1.mv s_L
    have f_r2 := f_r2.mv s_L
    have f_r3 := f_r3.mv s_L
    have f_r4 := f_r4.mv s_L
    have f_r5 := f_r5.mv s_L
    have f_r6 := f_r6.mv s_L
    have sG1 := sG1.trans s_L
    have rows : ∀ (i : Nat) (x : V), ([V.ref r1, .ref r2, .ref r3, .ref r4, .ref r5, .ref r6] : List V)[i]? = some x → ∃ z r, nk[i]? = some z ∧ x = .ref r ∧ J7 r = some (.tup [.str z, n z]) := by
      intro i x hx
      match i, hx with
      | 0, hx => exact ⟨_, r1, rfl, (Option.some.inj hx).symm, f_r1⟩
      | 1, hx => exact ⟨_, r2, rfl, (Option.some.inj hx).symm, f_r2⟩
      | 2, hx => exact ⟨_, r3, rfl, (Option.some.inj hx).symm, f_r3⟩
      | 3, hx => exact ⟨_, r4, rfl, (Option.some.inj hx).symm, f_r4⟩
      | 4, hx => exact ⟨_, r5, rfl, (Option.some.inj hx).symm, f_r5⟩
      | 5, hx => exact ⟨_, r6, rfl, (Option.some.inj hx).symm, f_r6⟩
    refine ⟨L, rfl, ⟨_, SqT.of f_L⟩, for_it (walk_tup (K := K) (a := L) (xs := ([V.ref r1, V.ref r2, V.ref r3, V.ref r4, V.ref r5, V.ref r6] : List V))) (fun i σ G => ∃ w9 w10, σ = [some (.ref a), some (.str op), some (.str wd), some (n "home"), some (n "to"), some (n "x"), some (n "y"), some (n "k"), some (n "other"), w9, w10] ∧ Same J7 G ∧ ∀ y ∈ nk.take i, okP op wd d y = true) ⟨none, none, rfl, Same.refl _, fun y hy => nomatch hy⟩ (fun i σ G _ h => ?_) (fun i x σ G G' hi h y => ?_) (fun σ G h => ?_)⟩
    · obtain ⟨w9, w10, rfl, sg, _⟩ := h
      exact SqT.of (sg _ _ f_L)
    · obtain ⟨w9, w10, rfl, sg, hp⟩ := h
      obtain ⟨rfl, hx⟩ := y
      obtain ⟨z, r, hz, rfl, hr⟩ := rows i x hx
      obtain ⟨p1, p2, p3, p4, p5⟩ := nk_pre i hi z hz
      refine ⟨r, _, rfl, SqT.of (sg _ _ hr), rfl, _, _, rfl, _, _, rfl, rfl, ?_⟩
      dsimp only [gName, gTup, gCons, gNil, List.set]
      have dn := D.n
      have bad : okP op wd d z = false → Raised (ga K "BadNumber") G' [("name", .str z)] E := fun hb => ((k3 z (wrong_at hz hp hb)).mv ((s_T.trans (s_r1.trans (s_r2.trans (s_r3.trans (s_r4.trans (s_r5.trans (s_r6.trans s_L))))))).trans sg))
      refine ⟨_, rfl, n z, d z, rfl, (dn z p4).mv (sG1.trans sg), _, rfl, ?_⟩
      cases hI : isIntD (d z) with
      | false =>
        refine yes rfl ⟨_, rfl, (by show 1 ≤ 1000; decide), fun e he => ⟨e, _, G', rfl, rfl, he, fun d' H' hd' hde h1 h2 h3 => ⟨rfl, d', _, h1, h2, hd', raised_at (bad ?_) he hd' hde h3⟩⟩⟩
        unfold okP
        rw [hI]; rfl
      | true =>
        refine no rfl ?_
        have ez : n z = .int (iv (d z)) := dp_int ((int_of hI) ▸ dn z p4)
        have eh : ("home" : Str) ∈ nk.take i → n "home" = .int (iv (d "home")) := fun h => dp_int ((okP_sp (hp _ h)).1 ▸ dn "home" (by decide))
        have et : ("to" : Str) ∈ nk.take i → n "to" = .int (iv (d "to")) := fun h => dp_int ((okP_sp (hp _ h)).1 ▸ dn "to" (by decide))
        have ex : ("x" : Str) ∈ nk.take i → n "x" = .int (iv (d "x")) := fun h => dp_int ((okP_sp (hp _ h)).1 ▸ dn "x" (by decide))
        refine ⟨_, rfl, _, rfl, _, rfl, _, rfl, _, rfl, _, rfl, _, rfl, z, op, wd, iv (d z), n "home", n "to", n "x", iv (d "home"), iv (d "to"), iv (d "x"), (by rw [ez]; rfl), fun h => eh (p1 h), fun h => et (p2 h), fun h => ex (p3 h), fun G2 s2 => ?_⟩
        have eok : okP op wd d z = fitP op wd z (iv (d z)) (iv (d "home")) (iv (d "to")) (iv (d "x")) := by
          unfold okP
          rw [hI, Bool.true_and]
        refine ⟨_, rfl, ?_⟩
        cases hf : fitP op wd z (iv (d z)) (iv (d "home")) (iv (d "to")) (iv (d "x")) with
        | false =>
          exact yes rfl ⟨_, rfl, (by show 1 ≤ 1000; decide), fun e he => ⟨e, _, G2, rfl, rfl, he, fun d' H' hd' hde h1 h2 h3 => ⟨rfl, d', _, h1, h2, hd', raised_at ((bad (eok.trans hf)).mv s2) he hd' hde h3⟩⟩⟩
        | true =>
          refine no rfl ⟨_, _, rfl, sg.trans s2, fun y hy => ?_⟩
          rw [p5] at hy
          rcases List.mem_append.mp hy with hy | hy
          · exact hp y hy
          · rw [List.mem_singleton.mp hy]
            exact eok.trans hf
    · obtain ⟨w9, w10, rfl, sg, hp⟩ := h
      have k4 := k4 (wrong_none hp)
      have ha := sg _ _ ha
      have sG := sG1.trans sg
      dsimp only
      have l1 := plen (f := "op") (v := .str op) (fs := []) (n := 0) (by decide)
      have l2 := plen (f := "world") (v := .str wd) l1
      have l3 := plen (f := "home") (v := n "home") l2
      have l4 := plen (f := "to") (v := n "to") l3
      have l5 := plen (f := "x") (v := n "x") l4
      have l6 := plen (f := "y") (v := n "y") l5
      have l7 := plen (f := "k") (v := n "k") l6
      have l8 := plen (f := "other") (v := n "other") l7
      refine ⟨_, rfl, _, rfl, a, _, dx, _, rfl, ha, S.cls, S.noat _ (by decide), by decide, ?_⟩
      refine ⟨_, rfl, _, rfl, a, _, dx, _, rfl, upd_same, S.cls, S.noat _ (by decide), by omega, ?_⟩
      refine ⟨_, rfl, _, rfl, a, _, dx, _, rfl, upd_same, S.cls, S.noat _ (by decide), by omega, ?_⟩
      refine ⟨_, rfl, _, rfl, a, _, dx, _, rfl, upd_same, S.cls, S.noat _ (by decide), by omega, ?_⟩
      refine ⟨_, rfl, _, rfl, a, _, dx, _, rfl, upd_same, S.cls, S.noat _ (by decide), by omega, ?_⟩
      refine ⟨_, rfl, _, rfl, a, _, dx, _, rfl, upd_same, S.cls, S.noat _ (by decide), by omega, ?_⟩
      refine ⟨_, rfl, _, rfl, a, _, dx, _, rfl, upd_same, S.cls, S.noat _ (by decide), by omega, ?_⟩
      refine ⟨_, rfl, _, rfl, a, _, dx, _, rfl, upd_same, S.cls, S.noat _ (by decide), by omega, ?_⟩
      refine k4 _ _ (fun x o e => ?_) upd_same ?_
      · have nx : x ≠ a := ne_of_none e na
        rw [upd_ne nx, upd_ne nx, upd_ne nx, upd_ne nx, upd_ne nx, upd_ne nx, upd_ne nx, upd_ne nx]
        exact sG _ _ e
      · intro f hf
        rcases List.mem_cons.mp hf with rfl | hf
        · rw [scV_op]
          repeat (first | exact lkE | refine (lkN (by decide +kernel)).trans ?_)
        rcases List.mem_cons.mp hf with rfl | hf
        · rw [scV_wd]
          repeat (first | exact lkE | refine (lkN (by decide +kernel)).trans ?_)
        rw [scV_nk hf]
        rcases List.mem_cons.mp hf with rfl | hf
        · repeat (first | exact lkE | refine (lkN (by decide +kernel)).trans ?_)
        rcases List.mem_cons.mp hf with rfl | hf
        · repeat (first | exact lkE | refine (lkN (by decide +kernel)).trans ?_)
        rcases List.mem_cons.mp hf with rfl | hf
        · repeat (first | exact lkE | refine (lkN (by decide +kernel)).trans ?_)
        rcases List.mem_cons.mp hf with rfl | hf
        · repeat (first | exact lkE | refine (lkN (by decide +kernel)).trans ?_)
        rcases List.mem_cons.mp hf with rfl | hf
        · repeat (first | exact lkE | refine (lkN (by decide +kernel)).trans ?_)
        rw [List.mem_singleton.mp hf]
        exact lkE
end
end K24

set_option Elab.async false
set_option maxRecDepth 100000
set_option maxHeartbeats 2000000
namespace K24
open PySem PySem.Spec PyProof.Rows L2 He KX
abbrev sLOp : Stmt := top 29
abbrev sLWo : Stmt := top 30
abbrev sLUp : Stmt := top 32
/-- a list of texts is told -/
def LstOf (H : Hp) (l : List Str) (Q : VK) : Prop := ∀ L G, H L = none → Same H G → G L = some (.lst (l.map V.str)) → Q (.ref L) G
def spLWo : Sp := fun vs H Q _ => ∃ op : Str, vs = [.str op] ∧ LstOf H (wor op) Q
def spLOp : Sp := fun vs H Q _ => ∃ (p g : Addr), vs = [.ref p] ∧ Pool H p g ∧ ∀ op ∈ ops, ∀ G, KeptP p g H G → Pool G p g → Q (.str op) G
def spLUp : Sp := fun vs H Q _ => ∃ (p g : Addr) (lo hi : Int), vs = [.ref p, .int lo, .int hi] ∧ Pool H p g ∧ 0 ≤ lo ∧ lo ≤ hi ∧ hi ≤ G30 ∧ ∀ r G, lo ≤ r → r ≤ hi → KeptP p g H G → Pool G p g → Q (.int r) G
structure LsP (p g : Addr) (H : Hp) (a : Addr) (l : List Str) : Prop where
  np : a ≠ p
  ng : a ≠ g
  at_ : H a = some (.lst (l.map V.str))
theorem LsP.mv {p g a : Addr} {H G : Hp} {l : List Str} (h : LsP p g H a l) (s : Same H G) : LsP p g G a l := ⟨h.1, h.2, s _ _ h.3⟩
theorem LsP.mp {p g a : Addr} {H G : Hp} {l : List Str} (h : LsP p g H a l) (_ : Pool H p g) (k : KeptP p g H G) : LsP p g G a l := ⟨h.1, h.2, k _ _ h.1 h.2 h.3⟩
section
variable {P : Program} {w : World} {K : PySem.W.Frag} {mg : Str → Option Value} {base : Heap}
theorem scLWo : FnScope ["op"] ["op"] (defScope sLWo) := ⟨rfl, rfl, rfl, by decide +kernel, rfl, by decide +kernel, by decide +kernel⟩
theorem ok_lwo {f : Addr} {fd : FuncData} (F : FnP K "_law_worlds" sLWo f fd) : FnOk P w K mg base CX0 1 f fd ["op"] spLWo := by
  refine F.ok scLWo (fun vs H Q E h => ?_) (fun cdv A outer s H vs Q E hr h => ?_)
  · obtain ⟨op, rfl, _⟩ := h
    rfl
  · obtain ⟨op, rfl, k⟩ := h
    have nd := scLWo.nd
    refine ⟨_, PSs.nox (pss_cons (ps_if (pt_cmpR op_eq (pv 0) pe_str (nomark _))
(pss_one (ps_ret (pe_lst (pa_cons pe_str (pa_cons pe_str (pa_cons pe_str pa_nil))))))
pss_nil)
(pss_one (ps_ret (pe_ifExp (pt_cmpR op_in_seq (pv 0) (pe_tup (pa_cons pe_str (pa_cons pe_str pa_nil))) rfl) (pe_lst (pa_cons pe_str (pa_cons pe_str pa_nil))) (pe_lst (pa_cons pe_str pa_nil)))))), ?_⟩
    unfold wor at k
    refine ⟨_, rfl, rfl, _, rfl, ?_⟩
    by_cases c : op = "swap"
    · refine yes (decide_eq_true (congrArg V.str c)) ?_
      rw [if_pos c] at k
      refine ⟨(by show 3 ≤ sizeLine; decide), fun T nT => ?_⟩
      generalize e_G1 : upd _ T _ = G1
      have s_T := new_same e_G1 nT
      have f_T := new_at e_G1
      clear e_G1
      exact k _ _ nT s_T f_T
    · refine no (decide_eq_false fun e => c (by injection e)) ?_
      rw [if_neg c] at k
      refine ⟨_, rfl, (by show 2 ≤ sizeLine; decide), fun T nT => ?_⟩
      generalize e_G1 : upd _ T _ = G1
      have s_T := new_same e_G1 nT
      have f_T := new_at e_G1
      clear e_G1
      refine ⟨T, (["move", "send"] : List Str).map V.str, rfl, .inr (SqT.of f_T), rfl, rfl, _, rfl, ?_⟩
      rw [if_neg Bool.false_ne_true, inV_str]
      have e : (op ∈ (["move", "send"] : List Str)) ↔ op ∈ (["move", "send", "swap"] : List Str) := by
        constructor
        · intro h
          rcases List.mem_cons.mp h with rfl | h
          · decide
          · rw [List.mem_singleton.mp h]; decide
        · intro h
          rcases List.mem_cons.mp h with rfl | h
          · decide
          rcases List.mem_cons.mp h with rfl | h
          · decide
          · exact absurd (List.mem_singleton.mp h) c
      by_cases c2 : op ∈ (["move", "send"] : List Str)
      · refine yes (decide_eq_true c2) ?_
        rw [if_pos (e.mp c2)] at k
        refine ⟨(by show 2 ≤ sizeLine; decide), fun L nL => ?_⟩
        have nLH := s_T.free nL
        generalize e_G2 : upd _ L _ = G2
        have s_L := new_same e_G2 nL
        have f_L := new_at e_G2
        clear e_G2
        have s_T := s_T.mv s_L
        exact k _ _ nLH s_T f_L
      · refine no (decide_eq_false c2) ?_
        rw [if_neg (fun h => c2 (e.mpr h))] at k
        refine ⟨(by show 1 ≤ sizeLine; decide), fun L nL => ?_⟩
        have nLH := s_T.free nL
        generalize e_G2 : upd _ L _ = G2
        have s_L := new_same e_G2 nL
        have f_L := new_at e_G2
        clear e_G2
        have s_T := s_T.mv s_L
        exact k _ _ nLH s_T f_L
theorem scLOp : FnScope ["pool", "ops"] ["pool"] (defScope sLOp) := ⟨rfl, rfl, rfl, by decide +kernel, rfl, by decide +kernel, by decide +kernel⟩
theorem ok_lop {f fD : Addr} {fd fdD : FuncData} (F : FnP K "_law_op" sLOp f fd) (GD : FnOk P w K mg base CX0 1 fD fdD ["pool", "limit"] spDrawP) (bD : Binds K fdD ["pool", "limit"] []) (kD : PySem.W.keepIn K (.ref fD) = true) (gD : mg "_law_draw" = some (.ref fD)) : FnOk P w K mg base CX0 2 f fd ["pool"] spLOp := by
  refine F.ok scLOp (fun vs H Q E h => ?_) (fun cdv A outer s H vs Q E hr h => ?_)
  · obtain ⟨p, g, rfl, _⟩ := h
    rfl
  · obtain ⟨p, g, rfl, hB, k⟩ := h
    have nd := scLOp.nd
    have hr1 := hr.mono (j := 1) (by decide)
    refine ⟨_, PSs.nox (pss_cons (ps_set (i := 1) nd rfl (Or.inl rfl) (pe_lst (pa_cons pe_str (pa_cons pe_str (pa_cons pe_str (pa_cons pe_str (pa_cons pe_str (pa_cons pe_str (pa_cons pe_str (pa_cons pe_str (pa_cons pe_str pa_nil)))))))))))
(pss_one (ps_ret (pe_ix ix_list (pe_op op_cat (pv 1) (pe_lst (pa_cons pe_str (pa_cons pe_str (pa_cons pe_str pa_nil))))) (pe_call GD hr1 (by rfl) gD kD bD .nil pass0 (pa_cons (pv 0) (pa_cons pe_int pa_nil))) (fun _ _ => rfl))))), ?_⟩
    refine ⟨(by show 9 ≤ sizeLine; decide), fun A nA => ?_⟩
    generalize e_G1 : upd _ A _ = G1
    have s_A := new_same e_G1 nA
    have f_A := new_at e_G1
    clear e_G1
    have hB := hB.mv s_A
    refine ⟨_, rfl, (by show 3 ≤ sizeLine; decide), fun B nB => ?_⟩
    generalize e_G2 : upd _ B _ = G2
    have s_B := new_same e_G2 nB
    have f_B := new_at e_G2
    clear e_G2
    have hB := hB.mv s_B
    have f_A := f_A.mv s_B
    refine ⟨A, B, _, _, rfl, rfl, f_A, f_B, (by show 9 + 3 ≤ sizeLine; decide), fun C nC => ?_⟩
    obtain ⟨nCp, nCg⟩ := hB.ne nC
    generalize e_G3 : upd _ C _ = G3
    have s_C := new_same e_G3 nC
    have f_C := new_at e_G3
    clear e_G3
    have hB := hB.mv s_C
    have k3 := ((KeptP.refl p g H).same s_A).same s_B |>.same s_C
    dsimp only [gName, List.set]
    refine ⟨_, rfl, p, g, _, rfl, hB, by decide, by decide, fun q G4 q0 q1 k4 hB4 => ?_⟩
    obtain ⟨j, rfl⟩ : ∃ j : Nat, q = j := ⟨q.toNat, by omega⟩
    have hj : j < 12 := by omega
    have all : ∀ z ∈ ((["put", "add", "take", "move", "send", "top", "bottom", "up", "down"] : List Str) ++ (["swap", "move", "swap"] : List Str)), z ∈ ops := by decide +kernel
    obtain ⟨z, hz⟩ : ∃ z, ((["put", "add", "take", "move", "send", "top", "bottom", "up", "down"] : List Str) ++ (["swap", "move", "swap"] : List Str))[j]? = some z := ⟨_, List.getElem?_eq_getElem hj⟩
    have hx : (((["put", "add", "take", "move", "send", "top", "bottom", "up", "down"] : List Str) ++ (["swap", "move", "swap"] : List Str)).map V.str)[j]? = some (.str z) := by rw [List.getElem?_map, hz]; rfl
    exact ⟨C, _, _, _, rfl, rfl, SqL.of (k4 _ _ nCp nCg f_C), atI_nat hx, k z (all z (List.mem_of_getElem? hz)) G4 (k3.trans k4) hB4⟩
theorem scLUp : FnScope ["pool", "low", "high", "chosen"] ["pool", "low", "high"] (defScope sLUp) := ⟨rfl, rfl, rfl, by decide +kernel, rfl, by decide +kernel, by decide +kernel⟩
theorem ok_lup {f fD : Addr} {fd fdD : FuncData} (F : FnP K "_law_upto" sLUp f fd) (GD : FnOk P w K mg base CX0 1 fD fdD ["pool", "limit"] spDrawP) (bD : Binds K fdD ["pool", "limit"] []) (kD : PySem.W.keepIn K (.ref fD) = true) (gD : mg "_law_draw" = some (.ref fD)) (n_min : mg "min" = none) (n_max : mg "max" = none) : FnOk P w K mg base CX0 2 f fd ["pool", "low", "high"] spLUp := by
  refine F.ok scLUp (fun vs H Q E h => ?_) (fun cdv A outer s H vs Q E hr h => ?_)
  · obtain ⟨p, g, lo, hi, rfl, _⟩ := h
    rfl
  · obtain ⟨p, g, lo, hi, rfl, hB, l0, lh, h30, k⟩ := h
    have nd := scLUp.nd
    have hr1 := hr.mono (j := 1) (by decide)
    have g30 := g30
    refine ⟨_, PSs.nox (pss_cons (ps_set (i := 3) nd rfl (Or.inl rfl) (pe_call GD hr1 (by rfl) gD kD bD .nil pass0 (pa_cons (pv 0) (pa_cons pe_int pa_nil))))
(pss_cons (ps_if (pt_cmpR op_eq (pv 3) pe_int (nomark _))
(pss_one (ps_ret (pe_callB (call_min2 rfl) (by rfl) n_min (by decide +kernel) (pa_cons (pv 2) (pa_cons (pe_op op_add (pv 1) (pe_call GD hr1 (by rfl) gD kD bD .nil pass0 (pa_cons (pv 0) (pa_cons pe_int pa_nil)))) pa_nil)))))
pss_nil)
(pss_cons (ps_if (pt_cmpR op_eq (pv 3) pe_int (nomark _))
(pss_one (ps_ret (pe_callB (call_max2 rfl) (by rfl) n_max (by decide +kernel) (pa_cons (pv 1) (pa_cons (pe_op op_sub (pv 2) (pe_call GD hr1 (by rfl) gD kD bD .nil pass0 (pa_cons (pv 0) (pa_cons pe_int pa_nil)))) pa_nil)))))
pss_nil)
(pss_cons (ps_if (pt_cmpR op_lt (pv 3) pe_int (nomark _))
(pss_one (ps_ret (pe_ix ix_list (pe_lst (pa_cons (pv 1) (pa_cons (pv 2) pa_nil))) (pv 3) (fun _ _ => rfl))))
pss_nil)
(pss_one (ps_ret (pe_op op_add (pv 1) (pe_call GD hr1 (by rfl) gD kD bD .nil pass0 (pa_cons (pv 0) (pa_cons (pe_op op_add (pe_op op_sub (pv 2) (pv 1)) pe_int) pa_nil)))))))))), ?_⟩
    refine ⟨_, rfl, p, g, _, rfl, hB, by decide, by decide, fun c G1 c0 c6 k1 hB1 => ?_⟩
    refine ⟨_, rfl, rfl, _, rfl, ?_⟩
    by_cases e2 : c = 2
    · refine yes (decide_eq_true (congrArg V.int e2)) ?_
      refine ⟨_, rfl, _, rfl, _, rfl, p, g, _, rfl, hB1, by decide, by decide, fun q G2 q0 q1 k2 hB2 => ?_⟩
      refine ⟨_, _, rfl, rfl, _, _, rfl, k _ G2 ?_ ?_ (k1.trans k2) hB2⟩
      · split <;> omega
      · split <;> omega
    refine no (decide_eq_false fun e => e2 (by injection e)) ?_
    refine ⟨_, rfl, rfl, _, rfl, ?_⟩
    by_cases e3 : c = 3
    · refine yes (decide_eq_true (congrArg V.int e3)) ?_
      refine ⟨_, rfl, _, rfl, _, rfl, p, g, _, rfl, hB1, by decide, by decide, fun q G2 q0 q1 k2 hB2 => ?_⟩
      refine ⟨_, _, rfl, rfl, _, _, rfl, k _ G2 ?_ ?_ (k1.trans k2) hB2⟩
      · split <;> omega
      · split <;> omega
    refine no (decide_eq_false fun e => e3 (by injection e)) ?_
    refine ⟨_, rfl, _, _, rfl, rfl, _, rfl, ?_⟩
    by_cases e4 : c < 2
    · refine yes (decide_eq_true e4) ?_
      refine ⟨_, rfl, _, rfl, (by show 2 ≤ sizeLine; decide), fun L nL => ?_⟩
      generalize e_G2 : upd _ L _ = G2
      have s_L := new_same e_G2 nL
      have f_L := new_at e_G2
      clear e_G2
      have hB1 := hB1.mv s_L
      have k2 := k1.same s_L
      obtain ⟨j, rfl⟩ : ∃ j : Nat, c = j := ⟨c.toNat, by omega⟩
      match j, e4 with
      | 0, _ => exact ⟨_, rfl, L, _, _, _, rfl, rfl, SqL.of f_L, atI_nat (j := 0) rfl, k lo _ (Int.le_refl _) lh k2 hB1⟩
      | 1, _ => exact ⟨_, rfl, L, _, _, _, rfl, rfl, SqL.of f_L, atI_nat (j := 1) rfl, k hi _ lh (Int.le_refl _) k2 hB1⟩
    · refine no (decide_eq_false e4) ?_
      refine ⟨_, rfl, _, rfl, _, rfl, _, rfl, _, _, rfl, rfl, _, _, rfl, rfl, p, g, _, rfl, hB1, ?_, ?_, fun q G2 q0 q1 k2 hB2 => ?_⟩
      · show 0 < hi - lo + 1
        omega
      · show (hi - lo + 1).natAbs < 2 ^ 200
        omega
      · have q1 : q < hi - lo + 1 := q1
        exact ⟨_, _, rfl, rfl, k _ G2 (by omega) (by omega) (k1.trans k2) hB2⟩
end
end K24

set_option Elab.async false
set_option maxRecDepth 100000
set_option maxHeartbeats 2000000
namespace K24
open PySem PySem.Spec PyProof.Rows L2 He KX
abbrev sLNu : Stmt := top 33
/-- the dict of the numbers -/
def nu6 (a b c d e f : V) : List (Key × V) := [(.inr "home", a), (.inr "to", b), (.inr "x", c), (.inr "y", d), (.inr "k", e), (.inr "other", f)]
def ni6 (h t x y k o : Int) : List (Key × V) := nu6 (.int h) (.int t) (.int x) (.int y) (.int k) (.int o)
theorem put_home {a b c d e f v : V} : putK (nu6 a b c d e f) (.inr "home") v = nu6 v b c d e f := by kernel_rfl
theorem put_to {a b c d e f v : V} : putK (nu6 a b c d e f) (.inr "to") v = nu6 a v c d e f := by kernel_rfl
theorem put_x {a b c d e f v : V} : putK (nu6 a b c d e f) (.inr "x") v = nu6 a b v d e f := by kernel_rfl
theorem put_y {a b c d e f v : V} : putK (nu6 a b c d e f) (.inr "y") v = nu6 a b c v e f := by kernel_rfl
theorem put_k {a b c d e f v : V} : putK (nu6 a b c d e f) (.inr "k") v = nu6 a b c d v f := by kernel_rfl
theorem put_other {a b c d e f v : V} : putK (nu6 a b c d e f) (.inr "other") v = nu6 a b c d e v := by kernel_rfl
theorem get_home {a b c d e f : V} : valV (nu6 a b c d e f) (.inr "home") = some a := by kernel_rfl
theorem get_to {a b c d e f : V} : valV (nu6 a b c d e f) (.inr "to") = some b := by kernel_rfl
theorem get_x {a b c d e f : V} : valV (nu6 a b c d e f) (.inr "x") = some c := by kernel_rfl
theorem get_y {a b c d e f : V} : valV (nu6 a b c d e f) (.inr "y") = some d := by kernel_rfl
theorem get_k {a b c d e f : V} : valV (nu6 a b c d e f) (.inr "k") = some e := by kernel_rfl
theorem get_other {a b c d e f : V} : valV (nu6 a b c d e f) (.inr "other") = some f := by kernel_rfl
theorem merge6 {a b c d e f : V} : mergeK [] (nu6 a b c d e f) = nu6 a b c d e f := by kernel_rfl
/-- a dict beside the pool -/
structure DcP (p g : Addr) (H : Hp) (a : Addr) (l : List (Key × V)) : Prop where
  np : a ≠ p
  ng : a ≠ g
  at_ : H a = some (.dK l)
theorem DcP.mv {p g a : Addr} {H G : Hp} {l : List (Key × V)} (h : DcP p g H a l) (s : Same H G) : DcP p g G a l := ⟨h.1, h.2, s _ _ h.3⟩
theorem DcP.mp {p g a : Addr} {H G : Hp} {l : List (Key × V)} (h : DcP p g H a l) (_ : Pool H p g) (k : KeptP p g H G) : DcP p g G a l := ⟨h.1, h.2, k _ _ h.1 h.2 h.3⟩
theorem pool_off {H : Hp} {p g a : Addr} {o u : HO} (hB : Pool H p g) (e : H a = some u) (n : ∀ xs, u ≠ .lst xs) : Pool (upd H a o) p g := by
  obtain ⟨s, c, m, gs, ss, h1, h2, h3, h4, h5, h6, h7, h8, h9⟩ := hB
  have q : ∀ {b : Addr} {xs : List V}, H b = some (.lst xs) → b ≠ a := fun hb hab => by
    subst hab
    rw [e] at hb
    exact n _ (Option.some.inj hb)
  exact ⟨s, c, m, gs, ss, (upd_ne (q h1)).trans h1, h2, h3, h4, (upd_ne (q h5)).trans h5, h6, h7, (upd_ne (q h8)).trans h8, h9⟩
/-- the pool, what stood at first, and the dict that is being filled -/
structure NuS (p g : Addr) (H G : Hp) (D : Addr) (l : List (Key × V)) : Prop where
  no : H D = none
  po : Pool G p g
  kp : KeptP p g H G
  dc : DcP p g G D l
theorem NuS.draw {p g D : Addr} {H G G' : Hp} {l : List (Key × V)} (h : NuS p g H G D l) (k : KeptP p g G G') (hB : Pool G' p g) : NuS p g H G' D l := ⟨h.no, hB, h.kp.trans k, h.dc.mp h.po k⟩
theorem NuS.put {p g D : Addr} {H G : Hp} {l l' : List (Key × V)} (h : NuS p g H G D l) : NuS p g H (upd G D (.dK l')) D l' :=
  ⟨h.no, pool_off h.po h.dc.at_ nofun, fun x o n1 n2 e => (upd_ne (ne_of_none e h.no)).trans (h.kp x o n1 n2 e), ⟨h.dc.np, h.dc.ng, upd_same⟩⟩
theorem NuS.mv {p g D : Addr} {H G G' : Hp} {l : List (Key × V)} (h : NuS p g H G D l) (s : Same G G') : NuS p g H G' D l := ⟨h.no, h.po.mv s, h.kp.same s, h.dc.mv s⟩
section
variable {G : Hp} {D : Addr} {a b c d e f v : V}
theorem dg_home (q : G D = some (.dK (nu6 a b c d e f))) : DGet G D (.str "home") (some a) := .inl ⟨_, .inr "home", .inl q, rfl, get_home.symm⟩
theorem dg_to (q : G D = some (.dK (nu6 a b c d e f))) : DGet G D (.str "to") (some b) := .inl ⟨_, .inr "to", .inl q, rfl, get_to.symm⟩
theorem dg_x (q : G D = some (.dK (nu6 a b c d e f))) : DGet G D (.str "x") (some c) := .inl ⟨_, .inr "x", .inl q, rfl, get_x.symm⟩
theorem dg_y (q : G D = some (.dK (nu6 a b c d e f))) : DGet G D (.str "y") (some d) := .inl ⟨_, .inr "y", .inl q, rfl, get_y.symm⟩
theorem dg_k (q : G D = some (.dK (nu6 a b c d e f))) : DGet G D (.str "k") (some e) := .inl ⟨_, .inr "k", .inl q, rfl, get_k.symm⟩
theorem dg_other (q : G D = some (.dK (nu6 a b c d e f))) : DGet G D (.str "other") (some f) := .inl ⟨_, .inr "other", .inl q, rfl, get_other.symm⟩
theorem dp_home (q : G D = some (.dK (nu6 a b c d e f))) : DPut G D (.str "home") v (upd G D (.dK (nu6 v b c d e f))) := .inl ⟨_, .inr "home", q, rfl, (by show 6 < sizeLine; decide), by rw [put_home]⟩
theorem dp_to (q : G D = some (.dK (nu6 a b c d e f))) : DPut G D (.str "to") v (upd G D (.dK (nu6 a v c d e f))) := .inl ⟨_, .inr "to", q, rfl, (by show 6 < sizeLine; decide), by rw [put_to]⟩
theorem dp_x (q : G D = some (.dK (nu6 a b c d e f))) : DPut G D (.str "x") v (upd G D (.dK (nu6 a b v d e f))) := .inl ⟨_, .inr "x", q, rfl, (by show 6 < sizeLine; decide), by rw [put_x]⟩
theorem dp_y (q : G D = some (.dK (nu6 a b c d e f))) : DPut G D (.str "y") v (upd G D (.dK (nu6 a b c v e f))) := .inl ⟨_, .inr "y", q, rfl, (by show 6 < sizeLine; decide), by rw [put_y]⟩
theorem dp_k (q : G D = some (.dK (nu6 a b c d e f))) : DPut G D (.str "k") v (upd G D (.dK (nu6 a b c d v f))) := .inl ⟨_, .inr "k", q, rfl, (by show 6 < sizeLine; decide), by rw [put_k]⟩
theorem dp_other (q : G D = some (.dK (nu6 a b c d e f))) : DPut G D (.str "other") v (upd G D (.dK (nu6 a b c d e v))) := .inl ⟨_, .inr "other", q, rfl, (by show 6 < sizeLine; decide), by rw [put_other]⟩
end
/-- the numbers as a function of the name -/
def n6 {α : Type} (h t x y k o : α) (z : Str) : α := if z = "home" then h else if z = "to" then t else if z = "x" then x else if z = "y" then y else if z = "k" then k else o
section
variable {α : Type} {h t x y k o : α}
theorem n6_home : n6 h t x y k o "home" = h := if_pos rfl
theorem n6_to : n6 h t x y k o "to" = t := (if_neg (by decide +kernel)).trans (if_pos rfl)
theorem n6_x : n6 h t x y k o "x" = x := (if_neg (by decide +kernel)).trans ((if_neg (by decide +kernel)).trans (if_pos rfl))
theorem n6_y : n6 h t x y k o "y" = y := (if_neg (by decide +kernel)).trans ((if_neg (by decide +kernel)).trans ((if_neg (by decide +kernel)).trans (if_pos rfl)))
theorem n6_k : n6 h t x y k o "k" = k := (if_neg (by decide +kernel)).trans ((if_neg (by decide +kernel)).trans ((if_neg (by decide +kernel)).trans ((if_neg (by decide +kernel)).trans (if_pos rfl))))
theorem n6_other : n6 h t x y k o "other" = o := (if_neg (by decide +kernel)).trans ((if_neg (by decide +kernel)).trans ((if_neg (by decide +kernel)).trans ((if_neg (by decide +kernel)).trans (if_neg (by decide +kernel)))))
end
/-- what is drawn keeps these -/
structure NuOk (op wd : Str) (m h t x y k o : Int) : Prop where
  h1 : newB op = true → h = 0 ∧ x = 0
  h2 : newB op = false → 1 + bi (twoB op wd) ≤ h ∧ h ≤ m ∧ 1 ≤ x ∧ x ≤ h
  t1 : (newB op || apaB wd) = true → bi (decide (op = "swap")) ≤ t ∧ t ≤ m
  t2 : (newB op || apaB wd) = false → t = 0
  y1 : (decide (op = "swap") && apaB wd) = true → 1 ≤ y ∧ y ≤ t
  y2 : twoB op wd = true → 1 ≤ y ∧ y ≤ h ∧ y ≠ x
  y3 : (decide (op = "swap") && apaB wd) = false → twoB op wd = false → y = 0
  k1 : kApB op wd = true → 1 ≤ k ∧ k ≤ t + 1 ∧ k ≤ G30
  k2 : kWiB op wd = true → 1 ≤ k ∧ k ≤ h
  k3 : kApB op wd = false → kWiB op wd = false → k = 0
  o1 : 0 ≤ o ∧ o ≤ m
theorem inL_ok {v lo hi : Int} (h1 : lo ≤ v) (h2 : v ≤ hi) (h3 : v ≤ G30) : inL (.int v) lo hi = true := by
  unfold inL iv
  rw [decide_eq_true h1, decide_eq_true h2, decide_eq_true h3]; rfl
theorem bi_le (b : Bool) : 0 ≤ bi b ∧ bi b ≤ 1 := by cases b <;> decide
theorem bi_and (a b : Bool) : bi (a && b) ≤ bi a := by cases a <;> cases b <;> decide
theorem bflags : ∀ op ∈ ops, ∀ wd ∈ wor op, (ownB op wd = ((decide (op = "swap") && apaB wd) || twoB op wd)) ∧ ((decide (op = "swap") && apaB wd) = true → apaB wd = true ∧ twoB op wd = false ∧ (decide (wd = "within")) = false) ∧ (twoB op wd = true → apaB wd = false) ∧ (decide (op ∈ (["put", "move"] : List Str)) = (kApB op wd || kWiB op wd)) ∧ (kApB op wd = true → kWiB op wd = false) ∧ (kWiB op wd = true → newB op = false) ∧ (kApB op wd = true → (newB op || apaB wd) = true) ∧ ((decide (op = "swap") && apaB wd) = true → newB op = false) ∧ (twoB op wd = true → newB op = false) := by decide +kernel
theorem nu_good {op : Str} (hop : op ∈ ops) {wd : Str} (hwd : wd ∈ wor op) {m h t x y k o : Int} (hm : m ≤ G30) (N : NuOk op wd m h t x y k o) : wrong (okP op wd fun z => .int (n6 h t x y k o z)) = none := by
  rw [ok_eq hop hwd]
  obtain ⟨s1, s2, s3, s4, s5, s6, s7, s8, s9, s10, s11, s12, s13, s14, s15⟩ := sne
  obtain ⟨b1, b2, b3, b4, b5, b6, b7, b8, b9⟩ := bflags op hop wd hwd
  have gg := g30
  have hh : newB op = true ∨ newB op = false := by cases newB op <;> simp
  have h0 : 0 ≤ h ∧ h ≤ G30 := by
    rcases hh with q | q
    · obtain ⟨e, _⟩ := N.h1 q; omega
    · obtain ⟨e, e2, _⟩ := N.h2 q
      have := bi_le (twoB op wd)
      omega
  have t0 : 0 ≤ t ∧ t ≤ G30 := by
    cases q : newB op || apaB wd with
    | true =>
      obtain ⟨e, e2⟩ := N.t1 q
      have := bi_le (decide (op = "swap"))
      omega
    | false => have := N.t2 q; omega
  refine wrong_none fun z hz => ?_
  rcases List.mem_cons.mp hz with rfl | hz
  · unfold okL
    rw [if_pos rfl]; dsimp only; rw [n6_home]
    rcases hh with q | q
    · obtain ⟨e, _⟩ := N.h1 q
      rw [q, if_pos rfl, if_pos rfl]
      exact inL_ok (by omega) (by omega) (by omega)
    · obtain ⟨e, e2, _⟩ := N.h2 q
      rw [q, if_neg Bool.false_ne_true, if_neg Bool.false_ne_true]
      exact inL_ok e (by omega) (by omega)
  rcases List.mem_cons.mp hz with rfl | hz
  · unfold okL
    rw [if_neg s1, if_pos rfl]; dsimp only; rw [n6_to]
    have ba := bi_and (decide (op = "swap")) (apaB wd)
    cases q : newB op || apaB wd with
    | true =>
      obtain ⟨e, e2⟩ := N.t1 q
      exact inL_ok (by omega) (by show t ≤ G30; omega) (by omega)
    | false =>
      have e := N.t2 q
      obtain ⟨q1, q2⟩ := Bool.or_eq_false_iff.mp q
      rw [q2, Bool.and_false]
      exact inL_ok (by show (0 : Int) ≤ t; omega) (by show t ≤ 0; omega) (by omega)
  rcases List.mem_cons.mp hz with rfl | hz
  · unfold okL
    rw [if_neg s2, if_neg s3, if_pos rfl]; dsimp only; rw [n6_x, n6_home]
    rcases hh with q | q
    · obtain ⟨e, e2⟩ := N.h1 q
      rw [q]
      exact inL_ok (by show (0 : Int) ≤ x; omega) (by show x ≤ h; omega) (by omega)
    · obtain ⟨e, e2, e3, e4⟩ := N.h2 q
      rw [q]
      exact inL_ok (by show (1 : Int) ≤ x; omega) (by show x ≤ h; omega) (by omega)
  rcases List.mem_cons.mp hz with rfl | hz
  · unfold okL
    rw [if_neg s4, if_neg s5, if_neg s6, if_pos rfl]; simp only [n6_x, n6_home, n6_to, n6_y]
    unfold mostY
    rw [b1]
    cases q : decide (op = "swap") && apaB wd with
    | true =>
      obtain ⟨c1, c2, c3⟩ := b2 q
      obtain ⟨e, e2⟩ := N.y1 q
      rw [c1, c2, c3]
      exact Bool.and_eq_true_iff.mpr ⟨inL_ok (show bi (true || false) ≤ y from e) (show y ≤ t from e2) (by omega), rfl⟩
    | false =>
      cases q2 : twoB op wd with
      | true =>
        obtain ⟨e, e2, e3⟩ := N.y2 q2
        rw [b3 q2]
        refine Bool.and_eq_true_iff.mpr ⟨inL_ok (show bi (false || true) ≤ y from e) (show y ≤ h from e2) (by omega), ?_⟩
        show (!(true && (decide (wd = "within") && decide (y = x)))) = true
        rw [decide_eq_false e3, Bool.and_false]
        rfl
      | false =>
        have e := N.y3 q q2
        exact Bool.and_eq_true_iff.mpr ⟨inL_ok (show bi (false || false) ≤ y by rw [e]; decide) (show y ≤ 0 by omega) (by omega), rfl⟩
  rcases List.mem_cons.mp hz with rfl | hz
  · unfold okL
    rw [if_neg s7, if_neg s8, if_neg s9, if_neg s10, if_pos rfl]; dsimp only; rw [n6_home, n6_to, n6_k, b4]
    unfold mostK
    cases q : kApB op wd with
    | true =>
      obtain ⟨e, e2, e3⟩ := N.k1 q
      rw [b5 q]
      exact inL_ok e e2 e3
    | false =>
      cases q2 : kWiB op wd with
      | true =>
        obtain ⟨e, e2⟩ := N.k2 q2
        exact inL_ok e e2 (by omega)
      | false =>
        have e := N.k3 q q2
        exact inL_ok (show (0 : Int) ≤ k by omega) (show k ≤ 0 by omega) (by omega)
  rw [List.mem_singleton.mp hz]
  unfold okL
  rw [if_neg s11, if_neg s12, if_neg s13, if_neg s14, if_neg s15]; dsimp only; rw [n6_other]
  obtain ⟨e, e2⟩ := N.o1
  exact inL_ok e (by omega) (by omega)
def spLNu : Sp := fun vs H Q _ => ∃ (p g : Addr) (op wd : Str) (m : Int), vs = [.ref p, .str op, .str wd, .int m] ∧ Pool H p g ∧ op ∈ ops ∧ wd ∈ wor op ∧ 2 ≤ m ∧ m ≤ G30 ∧
  ∀ D G h t x y k o, NuS p g H G D (ni6 h t x y k o) → NuOk op wd m h t x y k o → Q (.ref D) G
section
variable {P : Program} {w : World} {K : PySem.W.Frag} {mg : Str → Option Value} {base : Heap}
theorem tw_it {σ : L2.St} {H : Hp} {Q : VK} {i j : Nat} {op wd : Str} (hi : σ[i]? = some (some (.str op))) (hj : σ[j]? = some (some (.str wd))) (k : Q (.bl (twoB op wd)) H) : tAndV (tOp rEq (tVar i) (tC (V.str "swap"))) (tOp rEq (tVar j) (tC (V.str "within"))) σ H Q := by
  unfold twoB at k
  refine ⟨_, hi, rfl, _, rfl, ?_⟩
  by_cases c : op = "swap"
  · refine yes (decide_eq_true (congrArg V.str c)) ?_
    rw [decide_eq_true c] at k
    refine ⟨_, hj, rfl, ?_⟩
    rw [dstr]
    exact k
  · refine no (decide_eq_false fun e => c (by injection e)) ?_
    rw [decide_eq_false c] at k
    exact k
theorem and_it {σ : L2.St} {H : Hp} {Q : Bool → Hp → Prop} {i j : Nat} {op wd A B : Str} (hi : σ[i]? = some (some (.str op))) (hj : σ[j]? = some (some (.str wd))) (k : Q (decide (op = A) && decide (wd = B)) H) : tAnd (tTest (tOp rEq (tVar i) (tC (V.str A)))) (tTest (tOp rEq (tVar j) (tC (V.str B)))) σ H Q := by
  refine ⟨_, hi, rfl, _, rfl, ?_⟩
  by_cases c : op = A
  · refine yes (decide_eq_true (congrArg V.str c)) ?_
    rw [decide_eq_true c] at k
    refine ⟨_, hj, rfl, _, rfl, ?_⟩
    rw [dstr]
    exact k
  · refine no (decide_eq_false fun e => c (by injection e)) ?_
    rw [decide_eq_false c] at k
    exact k
theorem kap_it {σ : L2.St} {H : Hp} {Q : Bool → Hp → Prop} {i j : Nat} {op wd : Str} (hi : σ[i]? = some (some (.str op))) (hj : σ[j]? = some (some (.str wd))) (k : Q (kApB op wd) H) : tOr (tTest (tOp rEq (tVar i) (tC (V.str "put")))) (tAnd (tTest (tOp rEq (tVar i) (tC (V.str "move")))) (tTest (tOp rEq (tVar j) (tC (V.str "apart"))))) σ H Q := by
  unfold kApB at k
  refine ⟨_, hi, rfl, _, rfl, ?_⟩
  by_cases c : op = "put"
  · refine yes (decide_eq_true (congrArg V.str c)) ?_
    rw [decide_eq_true c] at k
    exact k
  · refine no (decide_eq_false fun e => c (by injection e)) ?_
    rw [decide_eq_false c] at k
    exact and_it hi hj k
theorem nap_it {K : PySem.W.Frag} {σ : L2.St} {H : Hp} {Q : Bool → Hp → Prop} {i j : Nat} {op wd : Str} (hi : σ[i]? = some (some (.str op))) (hj : σ[j]? = some (some (.str wd))) (k : ∀ G, Same H G → Q (newB op || apaB wd) G) : tOr (tTest (tOp (rIn K false) (tVar i) (tTup (tCons (tC (V.str "put")) (tCons (tC (V.str "add")) tNil))))) (tTest (tOp rEq (tVar j) (tC (V.str "apart")))) σ H Q := by
  refine ⟨_, hi, (by show 2 ≤ sizeLine; decide), fun T nT => ?_⟩
  generalize e_G1 : upd _ T _ = G1
  have s_T := new_same e_G1 nT
  have f_T := new_at e_G1
  clear e_G1
  have k := k G1 s_T
  unfold newB apaB at k
  refine ⟨T, newL.map V.str, rfl, .inr (SqT.of f_T), rfl, rfl, _, rfl, ?_⟩
  rw [if_neg Bool.false_ne_true, inV_str]
  by_cases c : op ∈ newL
  · refine yes (decide_eq_true c) ?_
    rw [decide_eq_true c] at k
    exact k
  · refine no (decide_eq_false c) ?_
    rw [decide_eq_false c] at k
    refine ⟨_, hj, rfl, _, rfl, ?_⟩
    rw [dstr]
    exact k
theorem scLNu : FnScope ["pool", "op", "world", "most", "n", "two"] ["pool", "op", "world", "most"] (defScope sLNu) := ⟨rfl, rfl, rfl, by decide +kernel, rfl, by decide +kernel, by decide +kernel⟩
theorem ok_lnu {f fU : Addr} {fd fdU : FuncData} (F : FnP K "_law_numbers" sLNu f fd) (GU : FnOk P w K mg base CX0 2 fU fdU ["pool", "low", "high"] spLUp) (bU : Binds K fdU ["pool", "low", "high"] []) (kU : PySem.W.keepIn K (.ref fU) = true) (gU : mg "_law_upto" = some (.ref fU))
    (n_int : mg "int" = none) (n_min : mg "min" = none) : FnOk P w K mg base CX0 3 f fd ["pool", "op", "world", "most"] spLNu := by
  refine F.ok scLNu (fun vs H Q E h => ?_) (fun cdv A outer s H vs Q E hr h => ?_)
  · obtain ⟨p, g, op, wd, m, rfl, _⟩ := h
    rfl
  · obtain ⟨p, g, op, wd, m, rfl, hB, hop, hwd, m2, m30, kk⟩ := h
    have nd := scLNu.nd
    have hr2 := hr.mono (j := 2) (by decide)
    have hu := Nat.lt_of_le_of_lt (Nat.add_le_add_left (by decide : 1 ≤ 64) _) hr.units
    refine ⟨_, PSs.nox (pss_cons (ps_set (i := 4) nd rfl (Or.inl rfl) (pe_disp (pps_cons pe_str pe_int (pps_cons pe_str pe_int (pps_cons pe_str pe_int (pps_cons pe_str pe_int (pps_cons pe_str pe_int (pps_cons pe_str pe_int pps_nil)))))) rfl rfl (by decide) (by decide)))
(pss_cons (ps_set (i := 5) nd rfl (Or.inl rfl) (pe_callTy call_int1 (by rfl) n_int (by decide +kernel) (pa_cons (pe_and (pe_cmpR op_eq (pv 1) pe_str (nomark _)) (pe_one (pe_cmpR op_eq (pv 2) pe_str (nomark _)))) pa_nil)))
(pss_cons (ps_if (pt_cmpR op_notIn_seq (pv 1) (pe_tup (pa_cons pe_str (pa_cons pe_str pa_nil))) rfl)
(pss_cons (ps_dput hu (pv 4) pe_str (pe_call GU hr2 (by rfl) gU kU bU .nil pass0 (pa_cons (pv 0) (pa_cons (pe_op op_add pe_int (pv 5)) (pa_cons (pv 3) pa_nil)))) rfl)
(pss_one (ps_dput hu (pv 4) pe_str (pe_call GU hr2 (by rfl) gU kU bU .nil pass0 (pa_cons (pv 0) (pa_cons pe_int (pa_cons (pe_dget hu (pv 4) pe_str (fun _ _ => rfl)) pa_nil)))) rfl)))
pss_nil)
(pss_cons (ps_if (PW.pt (pw_or (pt_cmpR op_in_seq (pv 1) (pe_tup (pa_cons pe_str (pa_cons pe_str pa_nil))) rfl) (pw_or1 (pt_cmpR op_eq (pv 2) pe_str (nomark _)))))
(pss_one (ps_dput hu (pv 4) pe_str (pe_call GU hr2 (by rfl) gU kU bU .nil pass0 (pa_cons (pv 0) (pa_cons (pe_callTy call_int1 (by rfl) n_int (by decide +kernel) (pa_cons (pe_cmpR op_eq (pv 1) pe_str (nomark _)) pa_nil)) (pa_cons (pv 3) pa_nil)))) rfl))
pss_nil)
(pss_cons (ps_if (PW.pt (pw_and (pt_cmpR op_eq (pv 1) pe_str (nomark _)) (pw_and1 (pt_cmpR op_eq (pv 2) pe_str (nomark _)))))
(pss_one (ps_dput hu (pv 4) pe_str (pe_call GU hr2 (by rfl) gU kU bU .nil pass0 (pa_cons (pv 0) (pa_cons pe_int (pa_cons (pe_dget hu (pv 4) pe_str (fun _ _ => rfl)) pa_nil)))) rfl))
pss_nil)
(pss_cons (ps_if (pt_cmpR op_eq (pv 5) pe_int (nomark _))
(pss_cons (ps_dput hu (pv 4) pe_str (pe_call GU hr2 (by rfl) gU kU bU .nil pass0 (pa_cons (pv 0) (pa_cons pe_int (pa_cons (pe_op op_sub (pe_dget hu (pv 4) pe_str (fun _ _ => rfl)) pe_int) pa_nil)))) rfl)
(pss_one (ps_dput hu (pv 4) pe_str (pe_op op_add (pe_dget hu (pv 4) pe_str (fun _ _ => rfl)) (pe_callTy call_int1 (by rfl) n_int (by decide +kernel) (pa_cons (pe_cmpR op_ge (pe_dget hu (pv 4) pe_str (fun _ _ => rfl)) (pe_dget hu (pv 4) pe_str (fun _ _ => rfl)) (nomark _)) pa_nil))) rfl)))
pss_nil)
(pss_cons (ps_if (PW.pt (pw_or (pt_cmpR op_eq (pv 1) pe_str (nomark _)) (pw_or1 (PW.pt (pw_and (pt_cmpR op_eq (pv 1) pe_str (nomark _)) (pw_and1 (pt_cmpR op_eq (pv 2) pe_str (nomark _))))))))
(pss_one (ps_dput hu (pv 4) pe_str (pe_call GU hr2 (by rfl) gU kU bU .nil pass0 (pa_cons (pv 0) (pa_cons pe_int (pa_cons (pe_callB (call_min2 rfl) (by rfl) n_min (by decide +kernel) (pa_cons (pe_op op_add (pe_dget hu (pv 4) pe_str (fun _ _ => rfl)) pe_int) (pa_cons (pe_op op_pow pe_int pe_int) pa_nil))) pa_nil)))) rfl))
pss_nil)
(pss_cons (ps_if (PW.pt (pw_and (pt_cmpR op_eq (pv 1) pe_str (nomark _)) (pw_and1 (pt_cmpR op_eq (pv 2) pe_str (nomark _)))))
(pss_one (ps_dput hu (pv 4) pe_str (pe_call GU hr2 (by rfl) gU kU bU .nil pass0 (pa_cons (pv 0) (pa_cons pe_int (pa_cons (pe_dget hu (pv 4) pe_str (fun _ _ => rfl)) pa_nil)))) rfl))
pss_nil)
(pss_cons (ps_dput hu (pv 4) pe_str (pe_call GU hr2 (by rfl) gU kU bU .nil pass0 (pa_cons (pv 0) (pa_cons pe_int (pa_cons (pv 3) pa_nil)))) rfl)
(pss_one (ps_ret (pv 4)))))))))))), ?_⟩
    refine fun D nD => ⟨upd_same, ni6 0 0 0 0 0 0, rfl, by decide, ?_⟩
    dsimp only [gName, List.set]
    have N : NuS p g H (upd (upd H D (.dK [])) D (.dK (mergeK [] (ni6 0 0 0 0 0 0)))) D (ni6 0 0 0 0 0 0) := by
      obtain ⟨n1, n2⟩ := hB.ne nD
      refine NuS.put (l := []) ⟨nD, hB.mv (same_put nD), (KeptP.refl p g H).same (same_put nD), ⟨n1, n2, upd_same⟩⟩
    revert N
    generalize upd (upd H D (.dK [])) D (.dK (mergeK [] (ni6 0 0 0 0 0 0))) = G0
    intro N
    have gg := g30
    have btw := bi_le (twoB op wd)
    have bsw := bi_le (decide (op = "swap"))
    -- two
    refine seq_by (fun σ G => σ = [some (.ref p), some (.str op), some (.str wd), some (.int m), some (.ref D), some (.int (bi (twoB op wd)))] ∧ NuS p g H G D (ni6 0 0 0 0 0 0)) ?_ (fun nxt => tw_it rfl rfl (.inr ⟨_, rfl, nxt _ _ ⟨rfl, N⟩⟩))
    clear N
    rintro σ G ⟨rfl, N⟩
    -- home and x
    refine seq_by (fun σ G => ∃ h x, σ = [some (.ref p), some (.str op), some (.str wd), some (.int m), some (.ref D), some (.int (bi (twoB op wd)))] ∧ NuS p g H G D (ni6 h 0 x 0 0 0) ∧ (newB op = true → h = 0 ∧ x = 0) ∧ (newB op = false → 1 + bi (twoB op wd) ≤ h ∧ h ≤ m ∧ 1 ≤ x ∧ x ≤ h)) ?_ (fun nxt => ?_)
    rotate_left
    · refine ⟨_, rfl, (by show 2 ≤ sizeLine; decide), fun T nT => ?_⟩
      generalize e_G1 : upd _ T _ = G1
      have s_T := new_same e_G1 nT
      have f_T := new_at e_G1
      clear e_G1
      have N := N.mv s_T
      refine ⟨T, newL.map V.str, rfl, .inr (SqT.of f_T), rfl, rfl, _, rfl, ?_⟩
      rw [if_pos rfl, inV_str]
      by_cases c : op ∈ newL
      · refine no (by rw [decide_eq_true c]; rfl) ?_
        exact nxt _ _ ⟨0, 0, rfl, N, fun _ => ⟨rfl, rfl⟩, (fun q => by unfold newB at q; rw [decide_eq_true c] at q; cases q)⟩
      · refine yes (by rw [decide_eq_false c]; rfl) ?_
        refine ⟨_, rfl, _, rfl, _, _, rfl, rfl, _, rfl, p, g, _, _, rfl, N.po, by omega, by omega, m30, fun h G2 h1 h2 k2 hB2 => ?_⟩
        have N := N.draw k2 hB2
        refine ⟨_, rfl, D, _, rfl, dp_home N.dc.at_, ?_⟩
        have N : NuS p g H _ D (ni6 h 0 0 0 0 0) := N.put
        refine ⟨_, rfl, _, rfl, D, _, rfl, dg_home N.dc.at_, p, g, _, _, rfl, N.po, by omega, by omega, by omega, fun x G3 x1 x2 k3 hB3 => ?_⟩
        have N := N.draw k3 hB3
        refine ⟨_, rfl, D, _, rfl, dp_x N.dc.at_, ?_⟩
        have N : NuS p g H _ D (ni6 h 0 x 0 0 0) := N.put
        exact nxt _ _ ⟨h, x, rfl, N, (fun q => by unfold newB at q; rw [decide_eq_false c] at q; cases q), fun _ => ⟨h1, h2, x1, x2⟩⟩
    clear N
    rintro σ G ⟨h, x, rfl, N, hx1, hx2⟩
    -- to
    refine seq_by (fun σ G => ∃ t, σ = [some (.ref p), some (.str op), some (.str wd), some (.int m), some (.ref D), some (.int (bi (twoB op wd)))] ∧ NuS p g H G D (ni6 h t x 0 0 0) ∧ ((newB op || apaB wd) = true → bi (decide (op = "swap")) ≤ t ∧ t ≤ m) ∧ ((newB op || apaB wd) = false → t = 0)) ?_ (fun nxt => ?_)
    rotate_left
    · refine nap_it rfl rfl fun G1 s1 => ?_
      have N := N.mv s1
      refine ite2' (fun q => ?_) (fun q => ?_)
      · refine ⟨_, rfl, _, rfl, rfl, .inr ⟨_, rfl, _, rfl, p, g, bi (decide (op = "swap")), m, ?_, N.po, by omega, by omega, m30, fun t G2 t1 t2 k2 hB2 => ?_⟩⟩
        · rw [dstr]; rfl
        have N := N.draw k2 hB2
        refine ⟨_, rfl, D, _, rfl, dp_to N.dc.at_, ?_⟩
        have N : NuS p g H _ D (ni6 h t x 0 0 0) := N.put
        exact nxt _ _ ⟨t, rfl, N, fun _ => ⟨t1, t2⟩, fun q2 => by rw [q] at q2; cases q2⟩
      · exact nxt _ _ ⟨0, rfl, N, (fun q2 => by rw [q] at q2; cases q2), fun _ => rfl⟩
    clear N
    rintro σ G ⟨t, rfl, N, ht1, ht2⟩
    have hb : 0 ≤ h ∧ h ≤ m := by
      cases q : newB op with
      | true => obtain ⟨e, _⟩ := hx1 q; omega
      | false => obtain ⟨e1, e2, _⟩ := hx2 q; omega
    have tb : 0 ≤ t ∧ t ≤ m := by
      cases q : newB op || apaB wd with
      | true => obtain ⟨e1, e2⟩ := ht1 q; omega
      | false => have := ht2 q; omega
    obtain ⟨b1, b2, b3, b4, b5, b6, b7, b8, b9⟩ := bflags op hop wd hwd
    -- y, apart
    refine seq_by (fun σ G => ∃ y, σ = [some (.ref p), some (.str op), some (.str wd), some (.int m), some (.ref D), some (.int (bi (twoB op wd)))] ∧ NuS p g H G D (ni6 h t x y 0 0) ∧ ((decide (op = "swap") && apaB wd) = true → 1 ≤ y ∧ y ≤ t) ∧ ((decide (op = "swap") && apaB wd) = false → y = 0)) ?_ (fun nxt => ?_)
    rotate_left
    · refine and_it rfl rfl ?_
      refine ite2' (fun q => ?_) (fun q => ?_)
      · have q1 : (decide (op = "swap") && apaB wd) = true := q
        obtain ⟨e1, e2⟩ := ht1 (by rw [(b2 q1).1, Bool.or_true])
        have e3 : decide (op = "swap") = true := (Bool.and_eq_true_iff.mp q1).1
        rw [e3] at e1
        have e1 : 1 ≤ t := e1
        refine ⟨_, rfl, _, rfl, D, _, rfl, dg_to N.dc.at_, p, g, _, _, rfl, N.po, by omega, e1, by omega, fun y G2 y1 y2 k2 hB2 => ?_⟩
        have N := N.draw k2 hB2
        refine ⟨_, rfl, D, _, rfl, dp_y N.dc.at_, ?_⟩
        have N : NuS p g H _ D (ni6 h t x y 0 0) := N.put
        exact nxt _ _ ⟨y, rfl, N, fun _ => ⟨y1, y2⟩, fun q2 => by rw [q1] at q2; cases q2⟩
      · have q1 : (decide (op = "swap") && apaB wd) = false := q
        exact nxt _ _ ⟨0, rfl, N, (fun q2 => by rw [q1] at q2; cases q2), fun _ => rfl⟩
    clear N
    rintro σ G ⟨y, rfl, N, hy1, hy2⟩
    -- y, within
    refine seq_by (fun σ G => ∃ y, σ = [some (.ref p), some (.str op), some (.str wd), some (.int m), some (.ref D), some (.int (bi (twoB op wd)))] ∧ NuS p g H G D (ni6 h t x y 0 0) ∧ ((decide (op = "swap") && apaB wd) = true → 1 ≤ y ∧ y ≤ t) ∧ (twoB op wd = true → 1 ≤ y ∧ y ≤ h ∧ y ≠ x) ∧ ((decide (op = "swap") && apaB wd) = false → twoB op wd = false → y = 0)) ?_ (fun nxt => ?_)
    rotate_left
    · refine ⟨_, rfl, rfl, _, rfl, ?_⟩
      cases q : twoB op wd with
      | false =>
        refine no (by decide) ?_
        exact nxt _ _ ⟨y, by rw [q], N, hy1, fun q2 => (by rw [q] at q2; cases q2), fun q2 _ => hy2 q2⟩
      | true =>
        refine yes (by decide) ?_
        obtain ⟨e1, e2, e3, e4⟩ := hx2 (b9 q)
        rw [q] at e1
        have e1 : 2 ≤ h := e1
        refine ⟨_, rfl, _, rfl, D, _, rfl, dg_home N.dc.at_, _, _, rfl, rfl, p, g, _, _, rfl, N.po, by omega, by omega, by omega, fun v G2 v1 v2 k2 hB2 => ?_⟩
        have N := N.draw k2 hB2
        refine ⟨_, rfl, D, _, rfl, dp_y N.dc.at_, ?_⟩
        have N : NuS p g H _ D (ni6 h t x v 0 0) := N.put
        refine ⟨_, rfl, D, _, rfl, dg_y N.dc.at_, _, rfl, D, _, rfl, dg_y N.dc.at_, _, rfl, D, _, rfl, dg_x N.dc.at_, _, _, rfl, rfl, .inr ⟨_, rfl, _, _, rfl, rfl, _, rfl, D, _, rfl, dp_y N.dc.at_, ?_⟩⟩
        have N : NuS p g H _ D (ni6 h t x (v + if decide (x ≤ v) = true then 1 else 0) 0 0) := N.put
        refine nxt _ _ ⟨_, by rw [q], N, fun q2 => ?_, fun _ => ?_, fun _ q2 => (by rw [q] at q2; cases q2)⟩
        · rw [(b2 q2).2.1] at q; cases q
        · by_cases c : x ≤ v
          · rw [decide_eq_true c, if_pos rfl]; omega
          · rw [decide_eq_false c, if_neg Bool.false_ne_true]; omega
    clear N hy1 hy2 y
    rintro σ G ⟨y, rfl, N, hy1, hy2, hy3⟩
    -- k, to
    refine seq_by (fun σ G => ∃ k, σ = [some (.ref p), some (.str op), some (.str wd), some (.int m), some (.ref D), some (.int (bi (twoB op wd)))] ∧ NuS p g H G D (ni6 h t x y k 0) ∧ (kApB op wd = true → 1 ≤ k ∧ k ≤ t + 1 ∧ k ≤ G30) ∧ (kApB op wd = false → k = 0)) ?_ (fun nxt => ?_)
    rotate_left
    · refine kap_it rfl rfl ?_
      refine ite2' (fun q => ?_) (fun q => ?_)
      · have q1 : kApB op wd = true := q
        refine ⟨_, rfl, _, rfl, D, _, rfl, dg_to N.dc.at_, _, _, rfl, rfl, _, _, rfl, rfl, ⟨by decide, by decide, by decide⟩, _, _, rfl, p, g, 1, (if (10 : Int) ^ Int.toNat 30 < t + 1 then (10 : Int) ^ Int.toNat 30 else t + 1), rfl, N.po, by omega, ?_, ?_, fun v G2 v1 v2 k2 hB2 => ?_⟩
        · have e30 : (10 : Int) ^ Int.toNat 30 = G30 := by decide
          rw [e30]
          split <;> omega
        · have e30 : (10 : Int) ^ Int.toNat 30 = G30 := by decide
          rw [e30]
          split <;> omega
        have e30 : (10 : Int) ^ Int.toNat 30 = G30 := by decide
        rw [e30] at v2
        have N := N.draw k2 hB2
        refine ⟨_, rfl, D, _, rfl, dp_k N.dc.at_, ?_⟩
        have N : NuS p g H _ D (ni6 h t x y v 0) := N.put
        refine nxt _ _ ⟨v, rfl, N, fun _ => ⟨v1, ?_, ?_⟩, fun q2 => (by rw [q1] at q2; cases q2)⟩
        · split at v2 <;> omega
        · split at v2 <;> omega
      · exact nxt _ _ ⟨0, rfl, N, (fun q2 => by rw [q] at q2; cases q2), fun _ => rfl⟩
    clear N
    rintro σ G ⟨k, rfl, N, hk1, hk2⟩
    -- k, home
    refine seq_by (fun σ G => ∃ k, σ = [some (.ref p), some (.str op), some (.str wd), some (.int m), some (.ref D), some (.int (bi (twoB op wd)))] ∧ NuS p g H G D (ni6 h t x y k 0) ∧ (kApB op wd = true → 1 ≤ k ∧ k ≤ t + 1 ∧ k ≤ G30) ∧ (kWiB op wd = true → 1 ≤ k ∧ k ≤ h) ∧ (kApB op wd = false → kWiB op wd = false → k = 0)) ?_ (fun nxt => ?_)
    rotate_left
    · refine and_it rfl rfl ?_
      refine ite2' (fun q => ?_) (fun q => ?_)
      · have q1 : kWiB op wd = true := q
        obtain ⟨e1, e2, e3, e4⟩ := hx2 (b6 q1)
        refine ⟨_, rfl, _, rfl, D, _, rfl, dg_home N.dc.at_, p, g, _, _, rfl, N.po, by omega, by omega, by omega, fun v G2 v1 v2 k2 hB2 => ?_⟩
        have N := N.draw k2 hB2
        refine ⟨_, rfl, D, _, rfl, dp_k N.dc.at_, ?_⟩
        have N : NuS p g H _ D (ni6 h t x y v 0) := N.put
        exact nxt _ _ ⟨v, rfl, N, fun q2 => (by rw [b5 q2] at q1; cases q1), fun _ => ⟨v1, v2⟩, fun _ q2 => (by rw [q1] at q2; cases q2)⟩
      · have q1 : kWiB op wd = false := q
        exact nxt _ _ ⟨k, rfl, N, hk1, fun q2 => (by rw [q1] at q2; cases q2), fun q2 _ => hk2 q2⟩
    clear N hk1 hk2 k
    rintro σ G ⟨k, rfl, N, hk1, hk2, hk3⟩
    -- other
    refine ⟨_, rfl, _, rfl, p, g, _, _, rfl, N.po, by omega, by omega, m30, fun o G2 o1 o2 k2 hB2 => ?_⟩
    have N := N.draw k2 hB2
    refine ⟨_, rfl, D, _, rfl, dp_other N.dc.at_, ?_⟩
    have N : NuS p g H _ D (ni6 h t x y k o) := N.put
    exact ⟨_, rfl, kk D _ h t x y k o N ⟨hx1, hx2, ht1, ht2, hy1, hy2, hy3, hk1, hk2, hk3, ⟨o1, o2⟩⟩⟩
end
end K24

set_option Elab.async false
set_option maxRecDepth 100000
set_option maxHeartbeats 2000000
namespace K24
open PySem PySem.Spec PyProof.Rows L2 He KX
abbrev sLIn : Stmt := top 34
abbrev sLFw : Stmt := top 35
def nuN (n : Str → V) : List (Key × V) := nu6 (n "home") (n "to") (n "x") (n "y") (n "k") (n "other")
/-- a dict of the six, with the data of its values -/
structure NuA (K : PySem.W.Frag) (G : Hp) (D : Addr) (n : Str → V) (d : Str → PyData) : Prop where
  at_ : G D = some (.dK (nuN n))
  dp : ∀ z ∈ nk, Dp K G (n z) (d z)
theorem NuA.mv {K : PySem.W.Frag} {G G' : Hp} {D : Addr} {n : Str → V} {d : Str → PyData} (h : NuA K G D n d) (s : Same G G') : NuA K G' D n d := ⟨s _ _ h.1, fun z hz => (h.2 z hz).mv s⟩
def spLIn (K : PySem.W.Frag) : Sp := fun vs H Q _ => ∃ (v : V) (d : PyData) (lo hi : Int), vs = [v, .int lo, .int hi] ∧ Dp K H v d ∧ Q (.bl (inL d lo hi)) H
def nmV : Option Str → V
  | some z => .str z
  | none => .non
def spLFw (K : PySem.W.Frag) : Sp := fun vs H Q _ => ∃ (op wd : Str) (D : Addr) (n : Str → V) (d : Str → PyData), vs = [.str op, .str wd, .ref D] ∧ NuA K H D n d ∧ ∀ G, Same H G → Q (nmV (wrong (okL op wd d))) G
theorem at2 {u v : V} {c : Bool} : atI [u, v] (if c = true then (1 : Int) else 0) = some (if c = true then v else u) := by
  cases c
  · exact atI_nat (j := 0) rfl
  · exact atI_nat (j := 1) rfl
theorem at2i {a b : Int} {c : Bool} : atI [V.int a, V.int b] (if c = true then (1 : Int) else 0) = some (.int (if c = true then b else a)) := by
  cases c
  · exact atI_nat (j := 0) rfl
  · exact atI_nat (j := 1) rfl
theorem inL_int {x : PyData} {lo hi : Int} (h : inL x lo hi = true) : x = .int (iv x) := int_of (Bool.and_eq_true_iff.mp h).1
theorem own_it {σ : L2.St} {H : Hp} {Q : VK} {i j : Nat} {op wd : Str} (hi : σ[i]? = some (some (.str op))) (hj : σ[j]? = some (some (.str wd))) (k : Q (.bl (ownB op wd)) H) : tAndV (tOp rEq (tVar i) (tC (V.str "swap"))) (tOp rNe (tVar j) (tC (V.str "itself"))) σ H Q := by
  unfold ownB at k
  refine ⟨_, hi, rfl, _, rfl, ?_⟩
  by_cases c : op = "swap"
  · refine yes (decide_eq_true (congrArg V.str c)) ?_
    rw [decide_eq_true c] at k
    refine ⟨_, hj, rfl, ?_⟩
    rw [dstr]
    exact k
  · refine no (decide_eq_false fun e => c (by injection e)) ?_
    rw [decide_eq_false c] at k
    exact k
theorem andV_it {σ : L2.St} {H : Hp} {Q : VK} {i j : Nat} {op wd A B : Str} (hi : σ[i]? = some (some (.str op))) (hj : σ[j]? = some (some (.str wd))) (k : Q (.bl (decide (op = A) && decide (wd = B))) H) : tAndV (tOp rEq (tVar i) (tC (V.str A))) (tOp rEq (tVar j) (tC (V.str B))) σ H Q := by
  refine ⟨_, hi, rfl, _, rfl, ?_⟩
  by_cases c : op = A
  · refine yes (decide_eq_true (congrArg V.str c)) ?_
    rw [decide_eq_true c] at k
    refine ⟨_, hj, rfl, ?_⟩
    rw [dstr]
    exact k
  · refine no (decide_eq_false fun e => c (by injection e)) ?_
    rw [decide_eq_false c] at k
    exact k
section
variable {P : Program} {w : World} {K : PySem.W.Frag} {mg : Str → Option Value} {base : Heap}
theorem scLIn : FnScope ["thing", "low", "high"] ["thing", "low", "high"] (defScope sLIn) := ⟨rfl, rfl, rfl, by decide +kernel, rfl, by decide +kernel, by decide +kernel⟩
theorem ok_lin {f : Addr} {fd : FuncData} (F : FnP K "_law_in" sLIn f fd) (n_isinstance : mg "isinstance" = none) (n_int : mg "int" = none) (n_bool : mg "bool" = none) : FnOk P w K mg base CX0 1 f fd ["thing", "low", "high"] (spLIn K) := by
  refine F.ok scLIn (fun vs H Q E h => ?_) (fun cdv A outer s H vs Q E hr h => ?_)
  · obtain ⟨v, d, lo, hi, rfl, _⟩ := h
    rfl
  · obtain ⟨v, d, lo, hi, rfl, hd, k⟩ := h
    have nd := scLIn.nd
    refine ⟨_, PSs.nox (pss_cons (ps_if (PW.pt (pw_or (pt_not (pt_val (pe_callB call_isi (by rfl) n_isinstance (by decide +kernel) (pa_cons (pv 0) (pa_cons (pe_bltn (v := .ty "int") (by rfl) n_int (by decide +kernel) rfl) pa_nil))))) (pw_or1 (pt_val (pe_callB call_isi (by rfl) n_isinstance (by decide +kernel) (pa_cons (pv 0) (pa_cons (pe_bltn (v := .ty "bool") (by rfl) n_bool (by decide +kernel) rfl) pa_nil)))))))
(pss_one (ps_ret pe_bl))
pss_nil)
(pss_one (ps_ret (pe_and (pe_cmpR op_le (pv 1) (pv 0) (nomark _)) (pe_and (pe_cmpR op_le (pv 0) (pv 2) (nomark _)) (pe_one (pe_cmpR op_le (pv 0) (pe_op op_pow pe_int pe_int) (nomark _)))))))), ?_⟩
    have fal : isIntD d = false → Q (.bl false) H := fun e => by
      unfold inL at k
      rw [e] at k
      exact k
    refine ⟨_, rfl, _, _, _, _, _, rfl, .ty _, dp_ty hd, kit_int d, _, rfl, ?_⟩
    cases c : (isIntD d || isBoolD d) with
    | false =>
      refine yes rfl ?_
      exact fal (Bool.or_eq_false_iff.mp c).1
    | true =>
      refine no rfl ?_
      refine ⟨_, rfl, _, _, _, _, _, rfl, .ty _, dp_ty hd, kit_bool d, _, rfl, ?_⟩
      cases c2 : isBoolD d with
      | true =>
        refine yes rfl ?_
        exact fal (by cases d <;> first | rfl | cases c2)
      | false =>
        refine no rfl ?_
        rw [c2, Bool.or_false] at c
        have ed := int_of c
        have ev : v = .int (iv d) := dp_int (ed ▸ hd)
        unfold inL at k
        rw [c, Bool.true_and] at k
        subst ev
        refine ⟨_, rfl, _, rfl, _, _, rfl, rfl, _, rfl, ite2' (fun q => ?_) (fun q => ?_)⟩
        · rw [q, Bool.true_and] at k
          refine ⟨_, rfl, _, rfl, _, _, rfl, rfl, _, rfl, ite2' (fun q => ?_) (fun q => ?_)⟩
          · rw [q, Bool.true_and] at k
            refine ⟨_, rfl, _, _, rfl, rfl, ⟨by decide, by decide, by decide⟩, _, _, rfl, rfl, ?_⟩
            exact k
          · rw [q, Bool.false_and] at k
            exact k
        · rw [q, Bool.false_and] at k
          exact k
theorem scLFw : FnScope ["op", "world", "n", "new", "two", "listed", "own", "most"] ["op", "world", "n"] (defScope sLFw) := ⟨rfl, rfl, rfl, by decide +kernel, rfl, by decide +kernel, by decide +kernel⟩
theorem ok_lfw {f fI : Addr} {fd fdI : FuncData} (F : FnP K "_law_first_wrong" sLFw f fd) (GI : FnOk P w K mg base CX0 1 fI fdI ["thing", "low", "high"] (spLIn K)) (bI : Binds K fdI ["thing", "low", "high"] []) (kI : PySem.W.keepIn K (.ref fI) = true) (gI : mg "_law_in" = some (.ref fI))
    (n_int : mg "int" = none) : FnOk P w K mg base CX0 2 f fd ["op", "world", "n"] (spLFw K) := by
  refine F.ok scLFw (fun vs H Q E h => ?_) (fun cdv A outer s H vs Q E hr h => ?_)
  · obtain ⟨op, wd, D, n, d, rfl, _⟩ := h
    rfl
  · obtain ⟨op, wd, D, n, d, rfl, N, kk⟩ := h
    have nd := scLFw.nd
    have hr1 := hr.mono (j := 1) (by decide)
    have hu := Nat.lt_of_le_of_lt (Nat.add_le_add_left (by decide : 1 ≤ 64) _) hr.units
    refine ⟨_, PSs.nox (pss_cons (ps_set (i := 3) nd rfl (Or.inl rfl) (pe_cmpR op_in_seq (pv 0) (pe_tup (pa_cons pe_str (pa_cons pe_str pa_nil))) rfl))
(pss_cons (ps_set (i := 4) nd rfl (Or.inl rfl) (pe_callTy call_int1 (by rfl) n_int (by decide +kernel) (pa_cons (pe_and (pe_cmpR op_eq (pv 0) pe_str (nomark _)) (pe_one (pe_cmpR op_eq (pv 1) pe_str (nomark _)))) pa_nil)))
(pss_cons (ps_if (pt_not (pt_val (pe_call GI hr1 (by rfl) gI kI bI .nil pass0 (pa_cons (pe_dget hu (pv 2) pe_str (fun _ _ => rfl)) (pa_cons (pe_ix ix_list (pe_lst (pa_cons (pe_op op_add pe_int (pv 4)) (pa_cons pe_int pa_nil))) (pe_callTy call_int1 (by rfl) n_int (by decide +kernel) (pa_cons (pv 3) pa_nil)) (fun _ _ => rfl)) (pa_cons (pe_ix ix_list (pe_lst (pa_cons (pe_op op_pow pe_int pe_int) (pa_cons pe_int pa_nil))) (pe_callTy call_int1 (by rfl) n_int (by decide +kernel) (pa_cons (pv 3) pa_nil)) (fun _ _ => rfl)) pa_nil))))))
(pss_one (ps_ret pe_str))
pss_nil)
(pss_cons (ps_set (i := 5) nd rfl (Or.inl rfl) (pe_or (pv 3) (pe_one (pe_cmpR op_eq (pv 1) pe_str (nomark _)))))
(pss_cons (ps_if (pt_not (pt_val (pe_call GI hr1 (by rfl) gI kI bI .nil pass0 (pa_cons (pe_dget hu (pv 2) pe_str (fun _ _ => rfl)) (pa_cons (pe_callTy call_int1 (by rfl) n_int (by decide +kernel) (pa_cons (pe_and (pe_cmpR op_eq (pv 0) pe_str (nomark _)) (pe_one (pe_cmpR op_eq (pv 1) pe_str (nomark _)))) pa_nil)) (pa_cons (pe_ix ix_list (pe_lst (pa_cons pe_int (pa_cons (pe_op op_pow pe_int pe_int) pa_nil))) (pe_callTy call_int1 (by rfl) n_int (by decide +kernel) (pa_cons (pv 5) pa_nil)) (fun _ _ => rfl)) pa_nil))))))
(pss_one (ps_ret pe_str))
pss_nil)
(pss_cons (ps_if (pt_not (pt_val (pe_call GI hr1 (by rfl) gI kI bI .nil pass0 (pa_cons (pe_dget hu (pv 2) pe_str (fun _ _ => rfl)) (pa_cons (pe_callTy call_int1 (by rfl) n_int (by decide +kernel) (pa_cons (pe_not (pv 3)) pa_nil)) (pa_cons (pe_dget hu (pv 2) pe_str (fun _ _ => rfl)) pa_nil))))))
(pss_one (ps_ret pe_str))
pss_nil)
(pss_cons (ps_set (i := 6) nd rfl (Or.inl rfl) (pe_and (pe_cmpR op_eq (pv 0) pe_str (nomark _)) (pe_one (pe_cmpR op_ne (pv 1) pe_str (nomark _)))))
(pss_cons (ps_set (i := 7) nd rfl (Or.inl rfl) (pe_ix ix_list (pe_lst (pa_cons pe_int (pa_cons (pe_ix ix_list (pe_lst (pa_cons (pe_dget hu (pv 2) pe_str (fun _ _ => rfl)) (pa_cons (pe_dget hu (pv 2) pe_str (fun _ _ => rfl)) pa_nil))) (pe_callTy call_int1 (by rfl) n_int (by decide +kernel) (pa_cons (pe_cmpR op_eq (pv 1) pe_str (nomark _)) pa_nil)) (fun _ _ => rfl)) pa_nil))) (pe_callTy call_int1 (by rfl) n_int (by decide +kernel) (pa_cons (pv 6) pa_nil)) (fun _ _ => rfl)))
(pss_cons (ps_if (PW.pt (pw_or (pt_not (pt_val (pe_call GI hr1 (by rfl) gI kI bI .nil pass0 (pa_cons (pe_dget hu (pv 2) pe_str (fun _ _ => rfl)) (pa_cons (pe_callTy call_int1 (by rfl) n_int (by decide +kernel) (pa_cons (pv 6) pa_nil)) (pa_cons (pv 7) pa_nil)))))) (pw_or1 (PW.pt (pw_and (pt_val (pv 6)) (pw_and (pt_cmpR op_eq (pv 1) pe_str (nomark _)) (pw_and1 (pt_cmpR op_eq (pe_dget hu (pv 2) pe_str (fun _ _ => rfl)) (pe_dget hu (pv 2) pe_str (fun _ _ => rfl)) (nomark _)))))))))
(pss_one (ps_ret pe_str))
pss_nil)
(pss_cons (ps_set (i := 7) nd rfl (Or.inl rfl) pe_int)
(pss_cons (ps_if (PW.pt (pw_or (pt_cmpR op_eq (pv 0) pe_str (nomark _)) (pw_or1 (PW.pt (pw_and (pt_cmpR op_eq (pv 0) pe_str (nomark _)) (pw_and1 (pt_cmpR op_eq (pv 1) pe_str (nomark _))))))))
(pss_one (ps_set (i := 7) nd rfl (Or.inl rfl) (pe_op op_add (pe_dget hu (pv 2) pe_str (fun _ _ => rfl)) pe_int)))
pss_nil)
(pss_cons (ps_if (PW.pt (pw_and (pt_cmpR op_eq (pv 0) pe_str (nomark _)) (pw_and1 (pt_cmpR op_eq (pv 1) pe_str (nomark _)))))
(pss_one (ps_set (i := 7) nd rfl (Or.inl rfl) (pe_dget hu (pv 2) pe_str (fun _ _ => rfl))))
pss_nil)
(pss_cons (ps_if (pt_not (pt_val (pe_call GI hr1 (by rfl) gI kI bI .nil pass0 (pa_cons (pe_dget hu (pv 2) pe_str (fun _ _ => rfl)) (pa_cons (pe_callTy call_int1 (by rfl) n_int (by decide +kernel) (pa_cons (pe_cmpR op_in_seq (pv 0) (pe_tup (pa_cons pe_str (pa_cons pe_str pa_nil))) rfl) pa_nil)) (pa_cons (pv 7) pa_nil))))))
(pss_one (ps_ret pe_str))
pss_nil)
(pss_one (ps_ret (pe_ix ix_list (pe_lst (pa_cons pe_non (pa_cons pe_str pa_nil))) (pe_callTy call_int1 (by rfl) n_int (by decide +kernel) (pa_cons (pe_not (pe_call GI hr1 (by rfl) gI kI bI .nil pass0 (pa_cons (pe_dget hu (pv 2) pe_str (fun _ _ => rfl)) (pa_cons pe_int (pa_cons (pe_op op_pow pe_int pe_int) pa_nil))))) pa_nil)) (fun _ _ => rfl))))))))))))))))), ?_⟩
    unfold wrong at kk
    have s0 := Same.refl H
    refine ⟨_, rfl, (by show 2 ≤ sizeLine; decide), fun T nT => ?_⟩
    generalize e_G1 : upd _ T _ = G1
    have s_T := new_same e_G1 nT
    have f_T := new_at e_G1
    clear e_G1
    have N := N.mv s_T
    have s0 := s0.mv s_T
    refine ⟨T, newL.map V.str, rfl, .inr (SqT.of f_T), rfl, rfl, ?_⟩
    rw [if_neg Bool.false_ne_true, inV_str]
    dsimp only [gName, List.set]
    refine tw_it rfl rfl (.inr ⟨_, rfl, ?_⟩)
    dsimp only [gName, List.set]
    -- home
    have e30 : (10 : Int) ^ Int.toNat 30 = G30 := by decide
    have sn := sne
    obtain ⟨s1, s2, s3, s4, s5, s6, s7, s8, s9, s10, s11, s12, s13, s14, s15⟩ := sn
    refine ⟨_, rfl, D, _, rfl, dg_home N.at_, _, rfl, _, _, rfl, rfl, (by show 2 ≤ sizeLine; decide), fun M1 n1 => ?_⟩
    generalize e_G2 : upd _ M1 _ = G2
    have s_M1 := new_same e_G2 n1
    have f_M1 := new_at e_G2
    clear e_G2
    have N := N.mv s_M1
    have s0 := s0.mv s_M1
    refine ⟨_, rfl, .inr ⟨_, rfl, ?_⟩⟩
    refine ⟨M1, _, _, _, rfl, rfl, SqL.of f_M1, at2i, ?_⟩
    refine ⟨_, _, rfl, rfl, ⟨by decide, by decide, by decide⟩, (by show 2 ≤ sizeLine; decide), fun M2 n2 => ?_⟩
    generalize e_G3 : upd _ M2 _ = G3
    have s_M2 := new_same e_G3 n2
    have f_M2 := new_at e_G3
    clear e_G3
    have N := N.mv s_M2
    have s0 := s0.mv s_M2
    refine ⟨_, rfl, .inr ⟨_, rfl, ?_⟩⟩
    refine ⟨M2, _, _, _, rfl, rfl, SqL.of f_M2, at2i, ?_⟩
    refine ⟨_, d "home", _, _, rfl, N.dp _ (by decide), _, rfl, ?_⟩
    have e1 : inL (d "home") (if decide (op ∈ newL) = true then (0 : Int) else 1 + if twoB op wd = true then 1 else 0) (if decide (op ∈ newL) = true then (0 : Int) else (10 : Int) ^ Int.toNat 30) = okL op wd d "home" := by
      unfold okL
      rw [if_pos rfl, e30]
      rfl
    refine ite2' (fun q => ?_) (fun q => ?_)
    · have q : okL op wd d "home" = false := by rw [← e1]; exact (Bool.not_eq_true' _).mp q
      rw [if_neg (by rw [q]; decide)] at kk
      exact kk _ s0
    have q1 : okL op wd d "home" = true := by rw [← e1]; exact Bool.not_eq_false' .. |>.mp q
    clear q e1
    rw [if_pos q1] at kk
    have eh : d "home" = .int (iv (d "home")) := by
      unfold okL at q1
      rw [if_pos rfl] at q1
      exact inL_int q1
    have evh : n "home" = .int (iv (d "home")) := dp_int (eh ▸ N.dp _ (by decide))
    unfold tNext
    dsimp only
    -- listed
    refine seq_by (fun σ G => σ = [some (.str op), some (.str wd), some (.ref D), some (.bl (newB op)), some (.int (bi (twoB op wd))), some (.bl (newB op || apaB wd)), none, none] ∧ G3 = G) ?_ (fun nxt => ?_)
    rotate_left
    · refine ⟨_, rfl, _, rfl, ?_⟩
      cases c : newB op with
      | true =>
        have c : decide (op ∈ newL) = true := c
        refine yes c ?_
        refine nxt _ _ ⟨?_, rfl⟩
        rw [c]; unfold newB; rw [c]; rfl
      | false =>
        have c : decide (op ∈ newL) = false := c
        refine no c ?_
        refine ⟨_, rfl, rfl, ?_⟩
        refine nxt _ _ ⟨?_, rfl⟩
        rw [c, dstr]; unfold newB; rw [c]; rfl
    rintro σ _ ⟨rfl, rfl⟩
    -- to
    refine ⟨_, rfl, D, _, rfl, dg_to N.at_, andV_it rfl rfl (.inr ⟨_, rfl, ?_⟩)⟩
    refine ⟨_, _, rfl, rfl, ⟨by decide, by decide, by decide⟩, (by show 2 ≤ sizeLine; decide), fun M3 n3 => ?_⟩
    generalize e_G4 : upd _ M3 _ = G4
    have s_M3 := new_same e_G4 n3
    have f_M3 := new_at e_G4
    clear e_G4
    have N := N.mv s_M3
    have s0 := s0.mv s_M3
    refine ⟨_, rfl, .inr ⟨_, rfl, ?_⟩⟩
    refine ⟨M3, _, _, _, rfl, rfl, SqL.of f_M3, at2i, ?_⟩
    refine ⟨_, d "to", _, _, rfl, N.dp _ (by decide), _, rfl, ?_⟩
    have e2 : inL (d "to") (if (decide (op = "swap") && decide (wd = "apart")) = true then (1 : Int) else 0) (if (newB op || apaB wd) = true then (10 : Int) ^ Int.toNat 30 else 0) = okL op wd d "to" := by
      unfold okL
      rw [if_neg s1, if_pos rfl, e30]
      rfl
    refine ite2' (fun q => ?_) (fun q => ?_)
    · have q : okL op wd d "to" = false := by rw [← e2]; exact (Bool.not_eq_true' _).mp q
      rw [if_neg (by rw [q]; decide)] at kk
      exact kk _ s0
    have q2 : okL op wd d "to" = true := by rw [← e2]; exact Bool.not_eq_false' .. |>.mp q
    clear q e2
    rw [if_pos q2] at kk
    dsimp only
    have et : d "to" = .int (iv (d "to")) := by
      unfold okL at q2
      rw [if_neg s1, if_pos rfl] at q2
      exact inL_int q2
    have evt : n "to" = .int (iv (d "to")) := dp_int (et ▸ N.dp _ (by decide))
    -- x
    refine ⟨_, rfl, D, _, rfl, dg_x N.at_, _, rfl, _, rfl, .inr ⟨_, rfl, _, rfl, D, _, rfl, dg_home N.at_, ?_⟩⟩
    refine ⟨_, d "x", _, iv (d "home"), by rw [evh]; rfl, N.dp _ (by decide), _, rfl, ?_⟩
    have e3 : inL (d "x") (if (!newB op) = true then (1 : Int) else 0) (iv (d "home")) = okL op wd d "x" := by
      unfold okL
      rw [if_neg s2, if_neg s3, if_pos rfl]
      rfl
    refine ite2' (fun q => ?_) (fun q => ?_)
    · have q : okL op wd d "x" = false := by rw [← e3]; exact (Bool.not_eq_true' _).mp q
      rw [if_neg (by rw [q]; decide)] at kk
      exact kk _ s0
    have q3 : okL op wd d "x" = true := by rw [← e3]; exact Bool.not_eq_false' .. |>.mp q
    clear q e3
    rw [if_pos q3] at kk
    dsimp only
    have ex : d "x" = .int (iv (d "x")) := by
      unfold okL at q3
      rw [if_neg s2, if_neg s3, if_pos rfl] at q3
      exact inL_int q3
    have evx : n "x" = .int (iv (d "x")) := dp_int (ex ▸ N.dp _ (by decide))
    -- own
    refine own_it rfl rfl ?_
    dsimp only [gName, List.set]
    -- most
    refine ⟨_, rfl, D, _, rfl, dg_home N.at_, _, rfl, D, _, rfl, dg_to N.at_, (by show 2 ≤ sizeLine; decide), fun M4 n4 => ?_⟩
    generalize e_G5 : upd _ M4 _ = G5
    have s_M4 := new_same e_G5 n4
    have f_M4 := new_at e_G5
    clear e_G5
    have N := N.mv s_M4
    have s0 := s0.mv s_M4
    refine ⟨_, rfl, rfl, .inr ⟨_, rfl, ?_⟩⟩
    refine ⟨M4, _, _, _, rfl, rfl, SqL.of f_M4, at2, (by show 2 ≤ sizeLine; decide), fun M5 n5 => ?_⟩
    generalize e_G6 : upd _ M5 _ = G6
    have s_M5 := new_same e_G6 n5
    have f_M5 := new_at e_G6
    clear e_G6
    have N := N.mv s_M5
    have s0 := s0.mv s_M5
    refine ⟨_, rfl, .inr ⟨_, rfl, ?_⟩⟩
    refine ⟨M5, _, _, _, rfl, rfl, SqL.of f_M5, at2, ?_⟩
    have em : (if ownB op wd = true then (if decide (V.str wd = V.str "apart") = true then n "to" else n "home") else V.int 0) = V.int (mostY op wd (iv (d "home")) (iv (d "to"))) := by
      rw [dstr, evh, evt]
      unfold mostY apaB
      split
      · split <;> rfl
      · rfl
    rw [em]
    dsimp only [gName, List.set]
    -- y
    refine seq_by (fun σ G => ∃ w7, σ = [some (.str op), some (.str wd), some (.ref D), some (.bl (newB op)), some (.int (bi (twoB op wd))), some (.bl (newB op || apaB wd)), some (.bl (ownB op wd)), w7] ∧ okL op wd d "y" = true ∧ G6 = G) ?_ (fun nxt => ?_)
    rotate_left
    · refine ⟨_, rfl, D, _, rfl, dg_y N.at_, _, rfl, .inr ⟨_, rfl, _, rfl, ?_⟩⟩
      refine ⟨_, d "y", _, _, rfl, N.dp _ (by decide), _, rfl, ?_⟩
      have e4 : okL op wd d "y" = (inL (d "y") (bi (ownB op wd)) (mostY op wd (iv (d "home")) (iv (d "to"))) && !(ownB op wd && (decide (wd = "within") && decide (iv (d "y") = iv (d "x"))))) := by
        unfold okL
        rw [if_neg s4, if_neg s5, if_neg s6, if_pos rfl]
      have out : okL op wd d "y" = false → Q (.str "y") G6 := fun q => by
        rw [if_neg (by rw [q]; decide)] at kk
        exact kk _ s0
      refine ite2' (fun q => ?_) (fun q => ?_)
      · refine out ?_
        rw [e4, show inL (d "y") (bi (ownB op wd)) (mostY op wd (iv (d "home")) (iv (d "to"))) = false from (Bool.not_eq_true' _).mp q]
        rfl
      · have q : inL (d "y") (bi (ownB op wd)) (mostY op wd (iv (d "home")) (iv (d "to"))) = true := Bool.not_eq_false' .. |>.mp q
        have evy : n "y" = .int (iv (d "y")) := dp_int (inL_int q ▸ N.dp _ (by decide))
        rw [q, Bool.true_and] at e4
        refine ⟨_, rfl, _, rfl, ?_⟩
        cases c1 : ownB op wd with
        | false =>
          rw [c1] at e4
          exact no rfl (nxt _ _ ⟨_, by rw [c1], e4, rfl⟩)
        | true =>
          rw [c1] at e4
          refine yes rfl ⟨_, rfl, rfl, _, rfl, ?_⟩
          by_cases c2 : wd = "within"
          · refine yes (decide_eq_true (congrArg V.str c2)) ?_
            rw [decide_eq_true c2] at e4
            refine ⟨_, rfl, D, _, rfl, dg_y N.at_, _, rfl, D, _, rfl, dg_x N.at_, ?_⟩
            rw [evy, evx]
            refine ⟨rfl, _, rfl, ?_⟩
            by_cases c3 : iv (d "y") = iv (d "x")
            · refine yes (decide_eq_true (congrArg V.int c3)) ?_
              rw [decide_eq_true c3] at e4
              exact out e4
            · refine no (decide_eq_false fun e => c3 (by injection e)) ?_
              rw [decide_eq_false c3] at e4
              exact nxt _ _ ⟨_, by rw [c1], e4, rfl⟩
          · refine no (decide_eq_false fun e => c2 (by injection e)) ?_
            rw [decide_eq_false c2] at e4
            exact nxt _ _ ⟨_, by rw [c1], e4, rfl⟩
    rintro σ _ ⟨w7, rfl, q4, rfl⟩
    rw [if_pos q4] at kk
    -- most = 0
    refine seq_by (fun σ G => σ = [some (.str op), some (.str wd), some (.ref D), some (.bl (newB op)), some (.int (bi (twoB op wd))), some (.bl (newB op || apaB wd)), some (.bl (ownB op wd)), some (.int 0)] ∧ G6 = G) ?_ (fun nxt => nxt _ _ ⟨rfl, rfl⟩)
    rintro σ _ ⟨rfl, rfl⟩
    refine seq_by (fun σ G => σ = [some (.str op), some (.str wd), some (.ref D), some (.bl (newB op)), some (.int (bi (twoB op wd))), some (.bl (newB op || apaB wd)), some (.bl (ownB op wd)), some (.int (if kApB op wd = true then iv (d "to") + 1 else 0))] ∧ G6 = G) ?_ (fun nxt => ?_)
    rotate_left
    · refine kap_it rfl rfl ?_
      refine ite2' (fun q => ?_) (fun q => ?_)
      · refine ⟨_, rfl, D, _, rfl, dg_to N.at_, ?_⟩
        rw [evt]
        refine ⟨_, _, rfl, rfl, ?_⟩
        exact nxt _ _ ⟨by rw [if_pos q]; rfl, rfl⟩
      · exact nxt _ _ ⟨by rw [if_neg (by rw [q]; decide)], rfl⟩
    rintro σ _ ⟨rfl, rfl⟩
    refine seq_by (fun σ G => σ = [some (.str op), some (.str wd), some (.ref D), some (.bl (newB op)), some (.int (bi (twoB op wd))), some (.bl (newB op || apaB wd)), some (.bl (ownB op wd)), some (.int (mostK op wd (iv (d "home")) (iv (d "to"))))] ∧ G6 = G) ?_ (fun nxt => ?_)
    rotate_left
    · refine and_it rfl rfl ?_
      refine ite2' (fun q => ?_) (fun q => ?_)
      · refine ⟨_, rfl, D, _, rfl, dg_home N.at_, ?_⟩
        rw [evh]
        exact nxt _ _ ⟨by unfold mostK; rw [if_pos (show kWiB op wd = true from q)]; rfl, rfl⟩
      · exact nxt _ _ ⟨by unfold mostK; rw [if_neg (show ¬ kWiB op wd = true by rw [show kWiB op wd = false from q]; decide)], rfl⟩
    rintro σ _ ⟨rfl, rfl⟩
    -- k
    refine ⟨_, rfl, D, _, rfl, dg_k N.at_, _, rfl, (by show 2 ≤ sizeLine; decide), fun M6 n6 => ?_⟩
    generalize e_G7 : upd _ M6 _ = G7
    have s_M6 := new_same e_G7 n6
    have f_M6 := new_at e_G7
    clear e_G7
    have N := N.mv s_M6
    have s0 := s0.mv s_M6
    refine ⟨M6, (["put", "move"] : List Str).map V.str, rfl, .inr (SqT.of f_M6), rfl, rfl, ?_⟩
    rw [if_neg Bool.false_ne_true, inV_str]
    refine .inr ⟨_, rfl, _, rfl, ?_⟩
    refine ⟨_, d "k", _, _, rfl, N.dp _ (by decide), _, rfl, ?_⟩
    have e5 : inL (d "k") (if decide (op ∈ (["put", "move"] : List Str)) = true then (1 : Int) else 0) (mostK op wd (iv (d "home")) (iv (d "to"))) = okL op wd d "k" := by
      unfold okL
      rw [if_neg s7, if_neg s8, if_neg s9, if_neg s10, if_pos rfl]
      rfl
    refine ite2' (fun q => ?_) (fun q => ?_)
    · have q : okL op wd d "k" = false := by rw [← e5]; exact (Bool.not_eq_true' _).mp q
      rw [if_neg (by rw [q]; decide)] at kk
      exact kk _ s0
    have q5 : okL op wd d "k" = true := by rw [← e5]; exact Bool.not_eq_false' .. |>.mp q
    clear q e5
    rw [if_pos q5] at kk
    dsimp only
    -- other
    refine ⟨(by show 2 ≤ sizeLine; decide), fun M7 n7 => ?_⟩
    generalize e_G8 : upd _ M7 _ = G8
    have s_M7 := new_same e_G8 n7
    have f_M7 := new_at e_G8
    clear e_G8
    have N := N.mv s_M7
    have s0 := s0.mv s_M7
    refine ⟨_, rfl, D, _, rfl, dg_other N.at_, _, _, rfl, rfl, ⟨by decide, by decide, by decide⟩, ?_⟩
    refine ⟨_, d "other", _, _, rfl, N.dp _ (by decide), _, rfl, ?_⟩
    have e6 : inL (d "other") 0 ((10 : Int) ^ Int.toNat 30) = okL op wd d "other" := by
      unfold okL
      rw [if_neg s11, if_neg s12, if_neg s13, if_neg s14, if_neg s15, e30]
    refine .inr ⟨_, rfl, ?_⟩
    refine ⟨M7, _, _, _, rfl, rfl, SqL.of f_M7, at2, ?_⟩
    rw [e6]
    cases q6 : okL op wd d "other" with
    | true =>
      rw [q6, if_pos rfl] at kk
      exact kk _ s0
    | false =>
      rw [q6, if_neg Bool.false_ne_true] at kk
      exact kk _ s0
end
end K24

set_option Elab.async false
set_option maxRecDepth 100000
set_option maxHeartbeats 2000000
/-! C(e, .., name = v, ..) in a try: what the class's own __init__ raises may be told by the slots at that moment. -/
namespace KX
open PySem PySem.Spec PyProof.Rows L2
def tMkKS (C : Addr) (n m : Nat) (sp : Sp) (gV : List V → List V → List V) (E : L2.St → XK) (ta tk : TA) : TE := fun σ H Q => ta σ H fun vs H1 => tk σ H1 fun zs H2 => vs.length = n ∧ zs.length = m ∧
  ∀ o d, H2 o = none → H2 d = none → d ≠ o → sp (gV (.ref o :: vs) zs) (upd (upd H2 d (.own o)) o (.ins C d [])) (fun v G => v = .non ∧ Q (.ref o) G) (E σ)
section
variable {X : Cx} {CX : CXT} {lv n : Nat} {fi C : Addr} {fd : FuncData} {ps names : List Str} {sp : Sp} {x : Str} {p pos : Pos} {e : Expr} {es : List Expr} {kws : List Keyword} {t tk : TA} {g : List Value → List Value → List Value} {gV : List V → List V → List V}
theorem make_kws {pins : List (Addr × Obj)} {σ : L2.St} {H : Hp} {s : Shared} {Q : VK} {E : XK} {us ws : List Value} {vs zs : List V} (M : Mk X.K C fi) (F : FnOk X.prog X.w X.K X.mg X.base CX lv fi fd ps sp) (hr : Room (lv + 1) X.A)
    (hb : KBn X.K fd ps (n + 1) names g gV) (hx : PassesAt CX X σ E) (I : Inv X pins σ H s) (ru : Vals vs us) (rw' : Vals zs ws) (nv : vs.length = n) (nz : zs.length = names.length)
    (h : ∀ o d, H o = none → H d = none → d ≠ o → sp (gV (.ref o :: vs) zs) (upd (upd H d (.own o)) o (.ins C d [])) (fun v G => v = .non ∧ Q (.ref o) G) E) :
    wpAny (model X.prog X.w) X.A (call (.ref C) us (names.zip ws)) (EP X pins σ Q) X.xe s := by
  let o := s.heap.objs.size + 1
  have fresh1 := I.hok.fresh (Nat.le_succ s.heap.objs.size)
  have fresh0 := I.hok.fresh (Nat.le_refl s.heap.objs.size)
  have want := h o s.heap.objs.size fresh1 fresh0 (Nat.ne_of_lt (Nat.lt_succ_self _))
  have J := Inv.made (C := C) I
  have rs : Vals (V.ref o :: vs) (Value.ref o :: us) := .cons rfl ru
  have cnt : (Value.ref o :: us).length = n + 1 := by rw [List.length_cons, ← ru.length, nv]
  have bnd := hb.to _ (Value.ref o :: us) ws J.kIn cnt (rw'.length.symm.trans nz)
  have run := F.run _ X.stack _ _ ⟨Value.ref o :: us, names.zip ws⟩ (g (Value.ref o :: us) ws) _ _ E (hr.make C us (names.zip ws)) (J.env0.make C us (names.zip ws)) bnd (hb.rel rs rw') want
  refine wpAny_call (make_map (f := fi) I.kIn M.makes M.init (beq_iff_eq.mp M.fn) (codeAny_mono run ?_))
  intro r s2 got
  match r, got with
  | .error er, got => exact hx pins _ _ er s2 J got
  | .ok (.ret u), got =>
    obtain ⟨v, G, IG, rv, ev, last⟩ := J.after got
    subst ev
    exact ⟨rv, V.ref o, G, IG, rfl, last⟩
  | .ok .next, got => exact got.elim
  | .ok .brk, got => exact got.elim
  | .ok .cont, got => exact got.elim
theorem pe_makeKS {E : L2.St → XK} (M : Mk X.K C fi) (F : FnOk X.prog X.w X.K X.mg X.base CX lv fi fd ps sp) (hr : Room (lv + 1) X.A) (hg : Gl X x) (hm : X.mg x = some (.ref C)) (hb : KBn X.K fd ps (n + 1) names g gV)
    (hx : ∀ σ, PassesAt CX X σ (E σ)) (ha : PA X (e :: es) t) (hkw : PK X kws tk)
    (some_ : (backToKw pos (keywordEach kws X.env)).all (·.1.isSome) = true := by rfl) (nms : (backToKw pos (keywordEach kws X.env)).filterMap (·.1) = names := by rfl) (nodb : (x == ("__debug__" : Str)) = false := by decide)
    (first : starEach (e :: es) X.env = (false, eval e X.env) :: starEach es X.env := by rfl) (plain : ((backTo pos (starEach (e :: es) X.env)).any (·.1) || (backToKw pos (keywordEach kws X.env)).any (·.1.isNone)) = false := by rfl) :
    PE X (.Call (.Name x p) (e :: es) kws pos) (tMkKS C n names.length sp gV E t tk) := by
  constructor
  intro pins s σ H Q I h
  apply wpAny_Call_Name_kw (ld_glob I hg hm ?_ nodb)
  refine PySem.W.callWith_KW (h₀ := X.base) I.ok.mod.kin M.kp some_ ?_ plain first
  refine thn (ha.run pos pins s σ H _ I h) ?_
  rintro us s1 ⟨vs, H1, I1, r, q⟩
  refine thn (hkw.run pos pins s1 σ H1 _ I1 q) ?_
  rintro ws s2 ⟨zs, H2, I2, rz, n1, n2, q2⟩
  refine ⟨I2.kIn, ?_⟩
  rw [nms]
  exact make_kws M F hr hb (hx σ) I2 r rz n1 n2 q2
end
end KX

set_option Elab.async false
set_option maxRecDepth 100000
set_option maxHeartbeats 2000000
/-! try with several handlers, each `except X as n`, one of which takes what is raised. -/
namespace KX
open PySem PySem.Spec PyProof.Rows L2 L2N
abbrev Hdl := Value × (Addr → Value → Option Addr → TS)
/-- behind a suite the name is gone -/
def gone (i : Nat) (D : Ends) : Ends := { nx := fun σ H => D.nx (σ.set i none) H, rt := D.rt, bk := fun σ H => D.bk (σ.set i none) H, ct := fun σ H => D.ct (σ.set i none) H }
def wAss (K : PySem.W.Frag) (i : Nat) (D : Ends) : List Hdl → WX
  | [] => fun _ _ _ _ => False
  | h :: r => fun cls d σ H => ∃ b, PySem.W.exmOne K cls h.1 = some b ∧ (b = true → ∀ a, H a = none → h.2 a cls d (gone i D) (σ.set i (some (.ref a))) H) ∧ (b = false → wAss K i D r cls d σ H)
inductive HdsAs (X : Cx) (n : Str) : List ExceptHandler → List Hdl → Prop
  | nil : HdsAs X n [] []
  | cons {x : Str} {c : Value} {ts : Addr → Value → Option Addr → TS} {b : Stmt} {bs : List Stmt} {p q : Pos} {hs : List ExceptHandler} {l : List Hdl} (nm : L2.Names X x c)
      (su : ∀ (a : Addr) (oe : Obj) (cls : Value) (d : Option Addr) (pn : List (Addr × Obj)), Zn cls d oe → (∃ vs, oe.data = .fields vs) → PSs (X.suite a ((a, oe) :: pn)) (b :: bs) (ts a cls d)) (r : HdsAs X n hs l) :
      HdsAs X n (.ExceptHandler (some (.Name x p)) (some n) (b :: bs) q :: hs) ((c, ts) :: l)
section
variable {X : Cx} {n : Str} {i : Nat} {body : List Stmt} {h₀ : ExceptHandler} {hds : List ExceptHandler} {l : List Hdl} {pos : Pos} {tb : WX → TS}
theorem ps_try_ass (hs : X.stack = X.env :: X.outer) (hf : X.env.frame = some X.env.locals) (hN : X.N.Nodup) (hi : X.N[i]? = some n) (hln : X.env.kindOf n = some .local)
    (hb : ∀ (W : WX) (pn : List (Addr × Obj)) (xe : Value → Shared → Prop), L2N.Takes (X.tr pn xe) W → PassesOwn (model X.prog X.w) X.A X.env xe → PSs (X.tr pn xe) body (tb W))
    (hh : HdsAs X n (h₀ :: hds) l) : PS X (.Try body (h₀ :: hds) [] [] pos) (fun D σ H => tb (wAss X.K i D l) D σ H) := by
  refine ⟨fun pins s σ H D I h => ?_⟩
  have ok := I.ok
  have hfr : X.A.frames = some (X.env :: X.outer) := by rw [ok.frames, hs]
  refine wpAny_Try_except (wpAny_mono ((hb (wAss X.K i D l) (X.pn ++ pins) (fun e s₁ => wpAny (model X.prog X.w) X.A (noteFrame e X.env) (fun _ s₂ => wpAny (model X.prog X.w) X.A (setFlight e none) (fun _ s₃ =>
    wpAny (model X.prog X.w) X.A (handleBy e X.env (h₀ :: hds)) (SP X pins D) X.xe s₃) X.xe s₂) X.xe s₁) (fun u s' xx => ?_) PassesOwn.looking).run [] s σ H D (I.toTry _) h) (fun f s1 hsp => ?_) (fun e s1 he => he))
  case refine_2 =>
    cases f with
    | next => exact wpAny_execs_nil (let ⟨σ', H', J', q⟩ := hsp; ⟨σ', H', J'.ofTry ok, q⟩)
    | brk => exact let ⟨σ', H', J', q⟩ := hsp; ⟨σ', H', J'.ofTry ok, q⟩
    | cont => exact let ⟨σ', H', J', q⟩ := hsp; ⟨σ', H', J'.ofTry ok, q⟩
    | ret u => exact let ⟨v, σ', H', J', r, q⟩ := hsp; ⟨v, σ', H', J'.ofTry ok, r, q⟩
  case refine_1 =>
    obtain ⟨a, B, sI, pins', σ', H', cls, d, rfl, J', nb, up, sky, na, os, ag, w⟩ := xx
    have J : Inv X pins σ' H' sI := J'.ofTry ok
    show wpAny (model X.prog X.w) X.A (noteFrame (.ref a) X.env) _ _ _
    refine Sky.land Zn.steady hfr hf (by rw [← hs]; exact sky) fun h3 fl3 up3 => ?_
    have J3 : Inv X pins σ' H' { s' with heap := h3 } := J.landed nb fl3.1 (up.trans up3) os ag
    obtain ⟨oe3, vs3, he3, hz3, hd3⟩ := fl3.there
    have nfr : a ∉ frs (X.env :: X.outer) := fun hm => by
      obtain ⟨_, o', e', hnf⟩ := fl3.2.2.1.mem hm
      rw [he3] at e'
      cases e'
      exact hnf _ hd3
    have nL : a ≠ X.env.locals := fun z => nfr (List.mem_filterMap.mpr ⟨X.env, List.mem_cons_self, by rw [hf, z]⟩)
    have nF : a ∉ X.fs := fun hm => by
      obtain ⟨e, he, q⟩ := List.mem_filterMap.mp hm
      exact nfr (List.mem_filterMap.mpr ⟨e, List.mem_cons_of_mem _ he, q⟩)
    have S3 := J3.suite he3 hd3 na nL nF
    suffices go : ∀ {hs' : List ExceptHandler} {l' : List Hdl}, HdsAs X n hs' l' → wAss X.K i D l' cls d σ' H' → wpAny (model X.prog X.w) X.A (handleBy (.ref a) X.env hs') (SP X pins D) X.xe { s' with heap := h3 } from go hh w
    intro hs' l' hk
    induction hk with
    | nil => exact fun w => w.elim
    | @cons x c ts b0 bs p q hs2 l2 nm su r ih =>
      rintro ⟨b, hb1, hyes, hno⟩
      refine wpAny_handleBy_cons (codeAny_handlers_test ?_) (by intro q; cases q)
      have LT : PySem.W.Looks (model X.prog X.w) h3 (typeOf (.ref a)) cls := fun A Q E s k q => wpAny_typeOf_ref (k _ _ he3) (by rw [hz3.1]; exact q)
      have LM := PySem.W.exm_one (M := model X.prog X.w) (J3.kIn) LT hb1
      have name : ∀ {Q : Value → Shared → Prop} {E : Value → Shared → Prop}, Q c { s' with heap := h3 } → wpAny (model X.prog X.w) (X.A.mark (some (.ref a))) (eval (.Name x p) X.env) Q E { s' with heap := h3 } := fun {Q E} q => by
        obtain ⟨hg, hdbg, hm | ⟨hm, hv, hnn⟩⟩ := nm
        · exact ld_glob (X := X.suite a ((a, oe3) :: (X.pn ++ pins))) S3 hg hm q hdbg
        · exact ld_blt (X := X.suite a ((a, oe3) :: (X.pn ++ pins))) S3 hg hm hv q hnn hdbg
      refine name (LM.here ?_)
      cases b with
      | false => exact ih (hno rfl)
      | true =>
        refine codeAny_handlers_suite_as (HandSPX.lands_againZ fl3 fun h4 fl4 up4 => ?_)
        have J4 : Inv X pins σ' H' { s' with heap := h4 } := J.landed nb fl4.1 ((up.trans up3).trans up4) os ag
        obtain ⟨oe4, vs4, he4, hz4, hd4⟩ := fl4.there
        refine store_ok (X := X.suite a ((a, oe4) :: (X.pn ++ pins))) (v := .ref a) (J4.suite he4 hd4 na nL nF) hN hi (.inl hln) rfl (fun s5 S5 => ?_) (.inr hln)
        refine wpAny_mono ((su a oe4 cls d (X.pn ++ pins) hz4 ⟨_, hd4⟩).run [] s5 _ H' _ S5 (hyes rfl a na)) (fun f s6 hsp => ?_) (fun _ _ z => False.elim z)
        have fin : ∀ {σ6 : L2.St} {H6 : Hp} {Q : Shared → Prop}, Inv (X.suite a ((a, oe4) :: (X.pn ++ pins))) [] σ6 H6 s6 → (∀ s7, Inv X pins (σ6.set i none) H6 s7 → Q s7) →
            wpAny (model X.prog X.w) X.A (do bindName X.env n .none; unbindBehindTheSuite X.env n q) (fun _ s7 => Q s7) X.xe s6 := fun {σ6 H6 Q} S6 hq => gone_ok (S6.unsuite ok) hN hi hln hq
        cases f with
        | next => exact let ⟨σ6, H6, S6, q6⟩ := hsp; fin S6 fun s7 J7 => ⟨_, _, J7, q6⟩
        | brk => exact let ⟨σ6, H6, S6, q6⟩ := hsp; fin S6 fun s7 J7 => ⟨_, _, J7, q6⟩
        | cont => exact let ⟨σ6, H6, S6, q6⟩ := hsp; fin S6 fun s7 J7 => ⟨_, _, J7, q6⟩
        | ret u => exact let ⟨v6, σ6, H6, S6, r6, q6⟩ := hsp; fin S6 fun s7 J7 => ⟨_, _, _, J7, r6, q6⟩
end
end KX

set_option Elab.async false
set_option maxRecDepth 100000
set_option maxHeartbeats 2000000
/-! repr of data of any form; things: drawn odd objects, names and whole numbers. -/
namespace KX
open PySem PySem.Spec PyProof.Rows L2
def rReprD (K : PySem.W.Frag) : List V → Hp → VK → Prop := fun xs H Q => ∃ (v : V) (d : PyData), xs = [v] ∧ Dp K H v d ∧ Small d 8 sizeLine ∧ Q (.str d.shown) H
theorem call_reprD {X : Cx} (hg : X.A.guards = some []) (hu : X.A.units + 10 < cLine) : CallR X (.builtin "repr") (rReprD X.K) := by
  intro pins s σ H xs us Q I r h
  obtain ⟨v, d, rfl, hd, hs, q⟩ := h
  cases hd with
  | lst a b => exact call_repr hg hu pins s σ H _ us Q I r ⟨_, _, rfl, .lst a b, hs.sh, hs.nd, hs.dp, hs.ln, q⟩
  | tup a b => exact call_repr hg hu pins s σ H _ us Q I r ⟨_, _, rfl, .tup a b, hs.sh, hs.nd, hs.dp, hs.ln, q⟩
  | non =>
    obtain ⟨u, rfl, ru⟩ := vals1 r
    cases ru
    exact PySem.P.repr_of_none ⟨.str _, H, I.tok _, ⟨_, rfl⟩, q⟩
  | bl b =>
    obtain ⟨u, rfl, ru⟩ := vals1 r
    cases ru
    exact PySem.P.repr_of_bool ⟨.str _, H, I.tok _, ⟨_, by cases b <;> rfl⟩, q⟩
  | int i =>
    obtain ⟨u, rfl, t, rfl⟩ := vals1 r
    exact PySem.P.repr_of_int (of_decide_eq_true hs.sh) ⟨.str _, H, I.tok _, ⟨_, rfl⟩, q⟩
  | str x =>
    obtain ⟨u, rfl, t, rfl⟩ := vals1 r
    exact PySem.P.repr_of_str (hsz := hs.ln) ⟨.str _, H, I.tok _, ⟨_, rfl⟩, q⟩
/-- a thing: a scalar, or one of the odd lists and tuples -/
def ThV (m : Nat) (H : Hp) : V → PyData → Prop := fun v d =>
  (ScD m d ∧ ((v = .non ∧ d = .none) ∨ (∃ b, v = .bl b ∧ d = .bool b) ∨ (∃ i, v = .int i ∧ d = .int i) ∨ ∃ z, v = .str z ∧ d = .str z)) ∨
  (∃ p, v = .ref p ∧ H p = some (.lst [.str "a"]) ∧ d = .list [.str "a"]) ∨ (∃ p, v = .ref p ∧ H p = some (.tup [.str "a", .int 1]) ∧ d = .tuple [.str "a", .int 1]) ∨
  (∃ p, v = .ref p ∧ H p = some (.lst []) ∧ d = .list []) ∨ (∃ p, v = .ref p ∧ H p = some (.tup []) ∧ d = .tuple []) ∨
  (∃ p q, v = .ref p ∧ H p = some (.lst [.ref q]) ∧ H q = some (.lst [.int 1]) ∧ d = .list [.list [.int 1]])
/-- what odd lists and tuples are on the heap -/
def OddO (o : HO) : Prop := o = .lst [.str "a"] ∨ o = .tup [.str "a", .int 1] ∨ o = .lst [] ∨ o = .tup [] ∨ o = .lst [.int 1] ∨ ∃ q, o = .lst [.ref q]
section
variable {m : Nat} {K : PySem.W.Frag} {H G : Hp} {v : V} {d : PyData}
theorem ThV.keep (h : ThV m H v d) (k : ∀ p o, OddO o → H p = some o → G p = some o) : ThV m G v d := by
  rcases h with h | ⟨p, e, hp, ed⟩ | ⟨p, e, hp, ed⟩ | ⟨p, e, hp, ed⟩ | ⟨p, e, hp, ed⟩ | ⟨p, q, e, hp, hq, ed⟩
  · exact .inl h
  · exact .inr (.inl ⟨p, e, k _ _ (.inl rfl) hp, ed⟩)
  · exact .inr (.inr (.inl ⟨p, e, k _ _ (.inr (.inl rfl)) hp, ed⟩))
  · exact .inr (.inr (.inr (.inl ⟨p, e, k _ _ (.inr (.inr (.inl rfl))) hp, ed⟩)))
  · exact .inr (.inr (.inr (.inr (.inl ⟨p, e, k _ _ (.inr (.inr (.inr (.inl rfl)))) hp, ed⟩))))
  · exact .inr (.inr (.inr (.inr (.inr ⟨p, q, e, k _ _ (.inr (.inr (.inr (.inr (.inr ⟨q, rfl⟩))))) hp, k _ _ (.inr (.inr (.inr (.inr (.inl rfl))))) hq, ed⟩))))
theorem ThV.same (h : ThV m H v d) (s : Same H G) : ThV m G v d := h.keep fun p o _ e => s p o e
/-- all but one object stands, and that is none of them -/
theorem ThV.but {b : Addr} (h : ThV m H v d) (k : Kept b H G) (hb : ∀ o, OddO o → H b ≠ some o) : ThV m G v d :=
  h.keep fun p o ho e => k p o (fun z => hb o ho (z ▸ e)) e
theorem ThV.mono {m' : Nat} (h : ThV m H v d) (hm : m ≤ m') : ThV m' H v d := by
  rcases h with ⟨h1, h2⟩ | h
  · exact .inl ⟨h1.mono hm, h2⟩
  · exact .inr h
theorem ThV.dp (h : ThV m H v d) : Dp K H v d := by
  rcases h with ⟨_, ⟨rfl, rfl⟩ | ⟨b, rfl, rfl⟩ | ⟨i, rfl, rfl⟩ | ⟨z, rfl, rfl⟩⟩ | ⟨p, rfl, hp, rfl⟩ | ⟨p, rfl, hp, rfl⟩ | ⟨p, rfl, hp, rfl⟩ | ⟨p, rfl, hp, rfl⟩ | ⟨p, q, rfl, hp, hq, rfl⟩
  · exact .non
  · exact .bl b
  · exact .int i
  · exact .str z
  · exact .lst (SqL.of hp) (.cons (.str _) .nil)
  · exact .tup (SqT.of hp) (.cons (.str _) (.cons (.int _) .nil))
  · exact .lst (SqL.of hp) .nil
  · exact .tup (SqT.of hp) .nil
  · exact .lst (SqL.of hp) (.cons (.lst (SqL.of hq) (.cons (.int _) .nil)) .nil)
theorem ThV.small (h : ThV m H v d) (hm : m < 10 ^ 40) : Small d 8 2000 := by
  rcases h with ⟨h, _⟩ | ⟨_, _, _, rfl⟩ | ⟨_, _, _, rfl⟩ | ⟨_, _, _, rfl⟩ | ⟨_, _, _, rfl⟩ | ⟨_, _, _, _, _, rfl⟩
  · exact (sc_small hm h).mono (by decide) (by decide)
  all_goals exact ⟨by decide +kernel, by decide +kernel, by decide +kernel, by decide +kernel⟩
theorem ThV.okN (h : ThV m H v d) : okN d := by
  rcases h with ⟨h, _⟩ | ⟨_, _, _, rfl⟩ | ⟨_, _, _, rfl⟩ | ⟨_, _, _, rfl⟩ | ⟨_, _, _, rfl⟩ | ⟨_, _, _, _, _, rfl⟩
  · exact sc_okN h
  all_goals exact fun z e => nomatch e
theorem ThV.shaped (h : ThV m H v d) : SeqAt.shaped d = true := by
  rcases h with ⟨h, _⟩ | ⟨_, _, _, rfl⟩ | ⟨_, _, _, rfl⟩ | ⟨_, _, _, rfl⟩ | ⟨_, _, _, rfl⟩ | ⟨_, _, _, _, _, rfl⟩
  · obtain ⟨h1, h2⟩ := sc_lay h
    exact Bool.and_eq_true_iff.mpr ⟨h1, decide_eq_true (Nat.le_trans h2 (by decide))⟩
  all_goals decide +kernel
end
end KX

set_option Elab.async false
set_option maxRecDepth 100000
set_option maxHeartbeats 1000000
/-! The text of a thing is a text that may stand in data. -/
namespace KX
open PySem PySem.Spec PyProof.Rows L2
theorem char_lt (c : Char) : c.toNat < 0x110000 := by
  have h := c.valid
  show c.val.toNat < 0x110000
  rcases h with h | ⟨_, h⟩
  · exact Nat.lt_trans h (by decide)
  · exact h
theorem hex_lt (w c : Nat) : ∀ x ∈ List.replicate (w - ((Nat.toDigits 16 c).map Char.toNat).length) 48 ++ (Nat.toDigits 16 c).map Char.toNat, x < 0x110000 := by
  intro x hx
  rcases List.mem_append.mp hx with hx | hx
  · rw [List.eq_of_mem_replicate hx]
    decide
  · obtain ⟨d, _, rfl⟩ := List.mem_map.mp hx
    exact char_lt d
theorem reprChar_lt {q c : Nat} (hc : c < 0x110000) : ∀ x ∈ PySem.Builtin.Str.reprChar q c, x < 0x110000 := by
  have two : ∀ a b : Nat, a < 0x110000 → b < 0x110000 → ∀ x ∈ [a, b], x < 0x110000 := fun a b ha hb x hx => by
    rcases List.mem_cons.mp hx with rfl | hx
    · exact ha
    · rw [List.mem_singleton.mp hx]; exact hb
  have app : ∀ {xs ys : List Nat}, (∀ x ∈ xs, x < 0x110000) → (∀ x ∈ ys, x < 0x110000) → ∀ x ∈ xs ++ ys, x < 0x110000 := fun h1 h2 x hx => (List.mem_append.mp hx).elim (h1 x) (h2 x)
  unfold PySem.Builtin.Str.reprChar
  dsimp only
  split
  · exact two _ _ (by decide) hc
  split
  · exact two _ _ (by decide) (by decide)
  split
  · exact two _ _ (by decide) (by decide)
  split
  · exact two _ _ (by decide) (by decide)
  split
  · exact fun x hx => by rw [List.mem_singleton.mp hx]; exact hc
  split
  · exact app (two _ _ (by decide) (by decide)) (hex_lt _ _)
  split
  · exact app (two _ _ (by decide) (by decide)) (hex_lt _ _)
  · exact app (two _ _ (by decide) (by decide)) (hex_lt _ _)
theorem fold_lt (q : Nat) : ∀ (l : List Nat) (acc : Array Nat), (∀ c ∈ l, c < 0x110000) → (∀ c ∈ acc.toList, c < 0x110000) → ∀ c ∈ (l.foldl (fun out c => out ++ (PySem.Builtin.Str.reprChar q c).toArray) acc).toList, c < 0x110000
  | [], _, _, h => h
  | c :: r, acc, hl, h => fold_lt q r _ (fun d hd => hl d (List.mem_cons_of_mem _ hd)) fun d hd => by
    rw [Array.toList_append] at hd
    rcases List.mem_append.mp hd with hd | hd
    · exact h d hd
    · exact reprChar_lt (hl c List.mem_cons_self) d hd
theorem repr_ok {x : Str} (hx : ∀ c ∈ tlc x, c < 1000) : PyData.strOk (reprText x) = true := by
  have hq : reprQuote x < 0x110000 := by unfold reprQuote; split <;> decide
  unfold PyData.strOk reprText
  rw [← Array.all_toList, List.all_eq_true]
  intro c hc
  refine decide_eq_true ?_
  rw [Array.toList_push] at hc
  rcases List.mem_append.mp hc with hc | hc
  · rw [← Array.foldl_toList] at hc
    exact fold_lt _ _ _ (fun c hc => Nat.lt_trans (hx c hc) (by decide)) (fun c hc => by rw [List.mem_singleton.mp (show c ∈ [reprQuote x] from hc)]; exact hq) c hc
  · rw [List.mem_singleton.mp hc]
    exact hq
theorem int_ok (i : Int) : PyData.strOk (PyData.int i).shown = true := by
  unfold PyData.strOk
  rw [← Array.all_toList, List.all_eq_true]
  intro c hc
  refine decide_eq_true ?_
  by_cases d : 127 < c
  · exact absurd hc (shown_int_free' ⟨by omega, .inr (by omega)⟩ i)
  · omega
theorem ThV.text {m : Nat} {H : Hp} {v : V} {d : PyData} (h : ThV m H v d) : PyData.strOk d.shown = true := by
  rcases h with ⟨h, ⟨_, rfl⟩ | ⟨b, _, rfl⟩ | ⟨i, _, rfl⟩ | ⟨z, _, rfl⟩⟩ | ⟨_, _, _, rfl⟩ | ⟨_, _, _, rfl⟩ | ⟨_, _, _, rfl⟩ | ⟨_, _, _, rfl⟩ | ⟨_, _, _, _, _, rfl⟩
  · decide +kernel
  · cases b <;> decide +kernel
  · exact int_ok i
  · exact repr_ok h.2
  all_goals decide +kernel
end KX

set_option Elab.async false
set_option maxRecDepth 100000
set_option maxHeartbeats 2000000
namespace K24
open PySem PySem.Spec PyProof.Rows L2 He KX StX
abbrev sLAns : Stmt := top 36
def exc2 : List Stmt → List Stmt
  | .Try _ (_ :: .ExceptHandler _ _ b _ :: _) _ _ _ :: _ => b
  | _ => []
def exc3 : List Stmt → List Stmt
  | .Try _ (_ :: _ :: .ExceptHandler _ _ b _ :: _) _ _ _ :: _ => b
  | _ => []
def TupIs (H : Hp) (xs : List V) (Q : VK) : Prop := ∀ p G, Same H G → G p = some (.tup xs) → Q (.ref p) G
/-- what is asked of the things passed -/
structure AnsIn (K : PySem.W.Frag) (H : Hp) (ov wv : V) (D : Addr) (n : Str → V) (eo ew : PyData) (d : Str → PyData) : Prop where
  a : NuA K H D n d
  o : Dp K H ov eo
  os : SeqAt.shaped eo = true
  om : Small eo 8 2000
  w : Dp K H wv ew
  ws : SeqAt.shaped ew = true
  wm : Small ew 8 2000
theorem AnsIn.mv {K : PySem.W.Frag} {H G : Hp} {ov wv : V} {D : Addr} {n : Str → V} {eo ew : PyData} {d : Str → PyData} (h : AnsIn K H ov wv D n eo ew d) (s : Same H G) : AnsIn K G ov wv D n eo ew d := ⟨h.a.mv s, h.o.mv s, h.os, h.om, h.w.mv s, h.ws, h.wm⟩
def madeT (d : Str → PyData) : Str := (PyData.list [d "home", d "to", d "x", d "y", d "k", d "other"]).shown
def spAns (K : PySem.W.Frag) : Sp := fun vs H Q _ => ∃ (ov wv : V) (D : Addr) (n : Str → V) (eo ew : PyData) (d : Str → PyData), vs = [ov, wv, .ref D] ∧ AnsIn K H ov wv D n eo ew d ∧
  (inS ops eo = false → TupIs H [.str "operation", .str eo.shown, .bl true] Q) ∧ (∀ op ∈ ops, eo = .str op → inS (wor op) ew = false → TupIs H [.str "world", .str ew.shown, .bl true] Q) ∧
  (∀ op ∈ ops, eo = .str op → ∀ wd ∈ wor op, ew = .str wd → ∀ z, wrong (okP op wd d) = some z → TupIs H [.str "number", .str z, .bl true] Q) ∧
  (∀ op ∈ ops, eo = .str op → ∀ wd ∈ wor op, ew = .str wd → wrong (okP op wd d) = none → TupIs H [.str "made", .str (madeT d)] Q)
theorem ok_int6 {op wd : Str} {d : Str → PyData} (h : wrong (okP op wd d) = none) : ∀ z ∈ nk, d z = .int (iv (d z)) := fun z hz => (okP_sp (wrong_all h z hz)).1
theorem made_le {op wd : Str} {d : Str → PyData} (hop : op ∈ ops) (hwd : wd ∈ wor op) (h : wrong (okP op wd d) = none) : ∀ z ∈ nk, 0 ≤ iv (d z) ∧ iv (d z) ≤ G30 := by
  rw [ok_eq hop hwd] at h
  have all := wrong_all h
  obtain ⟨s1, s2, s3, s4, s5, s6, s7, s8, s9, s10, s11, s12, s13, s14, s15⟩ := sne
  have inl : ∀ {x : PyData} {lo hi : Int}, 0 ≤ lo → inL x lo hi = true → 0 ≤ iv x ∧ iv x ≤ G30 := fun h0 h => by
    unfold inL at h
    obtain ⟨_, h⟩ := Bool.and_eq_true_iff.mp h
    obtain ⟨h1, h⟩ := Bool.and_eq_true_iff.mp h
    obtain ⟨_, h3⟩ := Bool.and_eq_true_iff.mp h
    exact ⟨Int.le_trans h0 (of_decide_eq_true h1), of_decide_eq_true h3⟩
  intro z hz
  have h := all z hz
  unfold okL at h
  rcases List.mem_cons.mp hz with rfl | hz
  · rw [if_pos rfl] at h
    refine inl ?_ h
    have := bi_le (twoB op wd)
    split <;> omega
  rcases List.mem_cons.mp hz with rfl | hz
  · rw [if_neg s1, if_pos rfl] at h
    exact inl (bi_le _).1 h
  rcases List.mem_cons.mp hz with rfl | hz
  · rw [if_neg s2, if_neg s3, if_pos rfl] at h
    exact inl (bi_le _).1 h
  rcases List.mem_cons.mp hz with rfl | hz
  · rw [if_neg s4, if_neg s5, if_neg s6, if_pos rfl] at h
    exact inl (bi_le _).1 (Bool.and_eq_true_iff.mp h).1
  rcases List.mem_cons.mp hz with rfl | hz
  · rw [if_neg s7, if_neg s8, if_neg s9, if_neg s10, if_pos rfl] at h
    exact inl (bi_le _).1 h
  rw [List.mem_singleton.mp hz] at h ⊢
  rw [if_neg s11, if_neg s12, if_neg s13, if_neg s14, if_neg s15] at h
  exact inl (Int.le_refl _) h
section
variable {P : Program} {w : World} {K : PySem.W.Frag} {mg : Str → Option Value} {base : Heap}
theorem scLAns : FnScope ["op", "world", "n", "told", "e"] ["op", "world", "n"] (defScope sLAns) := ⟨rfl, rfl, rfl, by decide +kernel, rfl, by decide +kernel, by decide +kernel⟩
theorem ok_ans {f : Addr} {fd fdC : FuncData} (F : FnP K "_law_answer" sLAns f fd) (BO : ErBO K) (BW : ErBW K) (BN : ErBN K) (S : ScnK K)
    (GC : FnOk P w K mg base (L2N.CX P w) 5 (ma K (ga K "Scene") "__init__") fdC sciP (spSci K)) (kb : KBn K fdC sciP 3 (["home", "to", "x", "y", "k", "other"] : List Str) (fun us ws => us ++ ws) (fun vs zs => vs ++ zs)) (gSc : mg "Scene" = some (.ref (ga K "Scene")))
    (gPE : mg "PlaceError" = some (.ref (ga K "PlaceError"))) (gBO : mg "BadOperation" = some (.ref (ga K "BadOperation"))) (gBW : mg "BadWorld" = some (.ref (ga K "BadWorld"))) (gBN : mg "BadNumber" = some (.ref (ga K "BadNumber"))) (n_isinstance : mg "isinstance" = none) (n_ValueError : mg "ValueError" = none) (n_repr : mg "repr" = none) : FnG P w K mg base CX0 7 f fd ["op", "world", "n"] (spAns K) := by
  refine fnG_ok F scLAns (fun vs H Q E h => ?_) (fun cdv A outer s H vs Q E gg hr h => ?_)
  · obtain ⟨ov, wv, D, n, eo, ew, d, rfl, _⟩ := h
    rfl
  · obtain ⟨ov, wv, D, n, eo, ew, d, rfl, AI, kO, kW, kN, kM⟩ := h
    have nd := scLAns.nd
    have hr6 := hr.mono (j := 6) (by decide)
    have hu := Nat.lt_of_le_of_lt (Nat.add_le_add_left (by decide : 1 ≤ 64) _) hr.units
    have hu10 : (A.deeper (envOfC "_law_answer" (defScope sLAns) s.heap.objs.size f cdv)).units + 10 < cLine := Nat.lt_of_le_of_lt (Nat.add_le_add_left (by decide) _) hr.units
    refine ⟨_, (by exact (pss_cons (ps_try_ass (i := 4) (tb := fun W => tAsg (tMkKS (ga K "Scene") 2 (["home", "to", "x", "y", "k", "other"] : List Str).length (spSci K) (fun vs zs => vs ++ zs) (WE W) (tCons (tVar 0) (tCons (tVar 1) tNil)) (tCons (tDGet (tVar 2) (tC (V.str "home"))) (tCons (tDGet (tVar 2) (tC (V.str "to"))) (tCons (tDGet (tVar 2) (tC (V.str "x"))) (tCons (tDGet (tVar 2) (tC (V.str "y"))) (tCons (tDGet (tVar 2) (tC (V.str "k"))) (tCons (tDGet (tVar 2) (tC (V.str "other"))) tNil))))))) (gName 3)) rfl rfl nd rfl rfl (fun W pn xe tk _ => by exact (pss_one (ps_set (i := 3) nd rfl (Or.inl rfl) ((pe_makeKS S.made GC hr6 (by rfl) gSc kb (fun σ => L2N.passAt tk σ) (pa_cons (pv 0) (pa_cons (pv 1) pa_nil)) (pk_cons (pe_dget hu (pv 2) pe_str (fun _ _ => rfl)) (pk_cons (pe_dget hu (pv 2) pe_str (fun _ _ => rfl)) (pk_cons (pe_dget hu (pv 2) pe_str (fun _ _ => rfl)) (pk_cons (pe_dget hu (pv 2) pe_str (fun _ _ => rfl)) (pk_cons (pe_dget hu (pv 2) pe_str (fun _ _ => rfl)) (pk_cons (pe_dget hu (pv 2) pe_str (fun _ _ => rfl)) pk_nil))))))))))) (HdsAs.cons (ts := tsAt _ (excBody (defBody sLAns))) ⟨rfl, by decide, Or.inl gBO⟩ (fun a oe cls d pn hz hf => tsAt_ok hz hf) (HdsAs.cons (ts := tsAt _ (exc2 (defBody sLAns))) ⟨rfl, by decide, Or.inl gBW⟩ (fun a oe cls d pn hz hf => tsAt_ok hz hf) (HdsAs.cons (ts := tsAt _ (exc3 (defBody sLAns))) ⟨rfl, by decide, Or.inl gBN⟩ (fun a oe cls d pn hz hf => tsAt_ok hz hf) .nil))))
(pss_one (ps_ret (pe_tup (pa_cons pe_str (pa_cons (pe_callB (show CallR _ (.builtin "repr") (rReprD K) from call_reprD gg hu10) (by rfl) n_repr (by decide +kernel) (pa_cons (pe_lst (pa_cons (pe_fld (pv 3) rfl) (pa_cons (pe_fld (pv 3) rfl) (pa_cons (pe_fld (pv 3) rfl) (pa_cons (pe_fld (pv 3) rfl) (pa_cons (pe_fld (pv 3) rfl) (pa_cons (pe_fld (pv 3) rfl) pa_nil))))))) pa_nil)) pa_nil))))))), ?_⟩
    have body : ∀ (W : WX) (Dn : Ends), (inS ops eo = false → Raised (ga K "BadOperation") H [("op", ov)] (WE W [some ov, some wv, some (.ref D), none, none])) →
        (∀ op ∈ ops, eo = .str op → inS (wor op) ew = false → Raised (ga K "BadWorld") H [("world", wv)] (WE W [some ov, some wv, some (.ref D), none, none])) →
        (∀ op ∈ ops, eo = .str op → ∀ wd ∈ wor op, ew = .str wd → ∀ z, wrong (okP op wd d) = some z → Raised (ga K "BadNumber") H [("name", .str z)] (WE W [some ov, some wv, some (.ref D), none, none])) →
        (∀ op ∈ ops, eo = .str op → ∀ wd ∈ wor op, ew = .str wd → wrong (okP op wd d) = none → ∀ G a dx fs, Same H G → G a = some (.ins (ga K "Scene") dx fs) → ScF ov wv n fs → Dn.nx [some ov, some wv, some (.ref D), some (.ref a), none] G) →
        (tAsg (tMkKS (ga K "Scene") 2 (["home", "to", "x", "y", "k", "other"] : List Str).length (spSci K) (fun vs zs => vs ++ zs) (WE W) (tCons (tVar 0) (tCons (tVar 1) tNil)) (tCons (tDGet (tVar 2) (tC (V.str "home"))) (tCons (tDGet (tVar 2) (tC (V.str "to"))) (tCons (tDGet (tVar 2) (tC (V.str "x"))) (tCons (tDGet (tVar 2) (tC (V.str "y"))) (tCons (tDGet (tVar 2) (tC (V.str "k"))) (tCons (tDGet (tVar 2) (tC (V.str "other"))) tNil))))))) (gName 3)) Dn [some ov, some wv, some (.ref D), none, none] H := fun W Dn q1 q2 q3 q4 => by
      refine ⟨_, rfl, _, rfl, _, rfl, D, _, rfl, dg_home AI.a.at_, _, rfl, D, _, rfl, dg_to AI.a.at_, _, rfl, D, _, rfl, dg_x AI.a.at_, _, rfl, D, _, rfl, dg_y AI.a.at_, _, rfl, D, _, rfl, dg_k AI.a.at_, _, rfl, D, _, rfl, dg_other AI.a.at_, rfl, rfl, fun a dx na ndx hne => ?_⟩
      have s1 : Same H (upd (upd H dx (.own a)) a (.ins (ga K "Scene") dx [])) := (same_put ndx).trans (same_put ((upd_ne hne.symm).trans na))
      exact ⟨a, dx, H, ov, wv, n, eo, ew, d, rfl, ⟨AI.o, AI.os, AI.w, AI.ws, AI.a.dp⟩, na, s1, upd_same, fun h => (q1 h).mv s1, fun op hop eop h => (q2 op hop eop h).mv s1, fun op hop eop wd hwd ewd z h => (q3 op hop eop wd hwd ewd z h).mv s1,
        fun op hop eop wd hwd ewd h G fs sG ha hf => ⟨rfl, q4 op hop eop wd hwd ewd h G a dx fs sG ha hf⟩⟩
    refine body _ _ (fun hi d' H' s1 hd' => ?_) (fun op hop eop hi d' H' s1 hd' => ?_) (fun op hop eop wd hwd ewd z hi d' H' s1 hd' => ?_) (fun op hop eop wd hwd ewd hi G a dx fs sG ha hf => ?_)
    · refine ⟨true, BO.ex ("BadOperation", true) (by simp), fun _ e ne => ?_, fun z => nomatch z⟩
      apply Exists.intro
      refine And.intro (fun oe pn hz hf => ?t1) ?t2
      case t1 =>
        show PSs _ (_ :: _) _
        exact (pss_one (ps_ret (pe_tup (pa_cons pe_str (pa_cons (pe_callB (show CallR _ (.builtin "repr") (rReprD K) from call_reprD gg hu10) (by rfl) n_repr (by decide +kernel) (pa_cons (pe_xf (a := e) (oe := oe) (pn := pn) BO.X (BO.no _ List.mem_cons_self) hz.zc hf (pv 4)) pa_nil)) (pa_cons (pe_and (pe_callB (call_isEd (a := e) (oe := oe) (pn := pn) BO.T BO.sp BO.tk hz.zc hf) (by rfl) n_isinstance (by decide +kernel) (pa_cons (pv 4) (pa_cons (pe_glob (v := .ref (ga K "PlaceError")) rfl gPE rfl) pa_nil))) (pe_one (pe_not (pe_callB (call_isEd (a := e) (oe := oe) (pn := pn) BO.T BO.sp BO.tk hz.zc hf) (by rfl) n_isinstance (by decide +kernel) (pa_cons (pv 4) (pa_cons (pe_glob (v := .ref (ga K "BadWorld")) rfl gBW rfl) pa_nil)))))) pa_nil))))))
      case t2 =>
        refine ⟨_, rfl, rfl, rfl, d', _, _, rfl, hd', rfl, ov, eo, rfl, AI.o.mv s1, AI.om.mono (by decide) (by decide), _, rfl, ⟨_, hd'⟩, _, _, _, rfl, (fun _ r => r), BO.kO ("PlaceError", true) (by simp), _, rfl, yes rfl ⟨_, rfl, ⟨_, hd'⟩, _, _, _, rfl, (fun _ r => r), BO.kO ("BadWorld", false) (by simp), _, rfl, (by show 3 ≤ sizeLine; decide), fun T nT => ?_⟩⟩
        exact kO hi _ _ (s1.trans (same_put nT)) upd_same
    · refine ⟨false, BW.ex ("BadOperation", false) (by simp), (fun z => nomatch z), fun _ => ⟨true, BW.ex ("BadWorld", true) (by simp), fun _ e ne => ?_, fun z => nomatch z⟩⟩
      apply Exists.intro
      refine And.intro (fun oe pn hz hf => ?t1) ?t2
      case t1 =>
        show PSs _ (_ :: _) _
        exact (pss_one (ps_ret (pe_tup (pa_cons pe_str (pa_cons (pe_callB (show CallR _ (.builtin "repr") (rReprD K) from call_reprD gg hu10) (by rfl) n_repr (by decide +kernel) (pa_cons (pe_xf (a := e) (oe := oe) (pn := pn) BW.X (BW.no _ List.mem_cons_self) hz.zc hf (pv 4)) pa_nil)) (pa_cons (pe_and (pe_callB (call_isEd (a := e) (oe := oe) (pn := pn) BW.T BW.sp BW.tk hz.zc hf) (by rfl) n_isinstance (by decide +kernel) (pa_cons (pv 4) (pa_cons (pe_glob (v := .ref (ga K "PlaceError")) rfl gPE rfl) pa_nil))) (pe_one (pe_not (pe_callB (call_isEd (a := e) (oe := oe) (pn := pn) BW.T BW.sp BW.tk hz.zc hf) (by rfl) n_isinstance (by decide +kernel) (pa_cons (pv 4) (pa_cons (pe_glob (v := .ref (ga K "BadNumber")) rfl gBN rfl) pa_nil)))))) pa_nil))))))
      case t2 =>
        refine ⟨_, rfl, rfl, rfl, d', _, _, rfl, hd', rfl, wv, ew, rfl, AI.w.mv s1, AI.wm.mono (by decide) (by decide), _, rfl, ⟨_, hd'⟩, _, _, _, rfl, (fun _ r => r), BW.kO ("PlaceError", true) (by simp), _, rfl, yes rfl ⟨_, rfl, ⟨_, hd'⟩, _, _, _, rfl, (fun _ r => r), BW.kO ("BadNumber", false) (by simp), _, rfl, (by show 3 ≤ sizeLine; decide), fun T nT => ?_⟩⟩
        exact kW op hop eop hi _ _ (s1.trans (same_put nT)) upd_same
    · refine ⟨false, BN.ex ("BadOperation", false) (by simp), (fun z => nomatch z), fun _ => ⟨false, BN.ex ("BadWorld", false) (by simp), (fun z => nomatch z), fun _ => ⟨true, BN.ex ("BadNumber", true) (by simp), fun _ e ne => ?_, fun z => nomatch z⟩⟩⟩
      apply Exists.intro
      refine And.intro (fun oe pn hz hf => ?t1) ?t2
      case t1 =>
        show PSs _ (_ :: _) _
        exact (pss_one (ps_ret (pe_tup (pa_cons pe_str (pa_cons (pe_xf (a := e) (oe := oe) (pn := pn) BN.X (BN.no _ List.mem_cons_self) hz.zc hf (pv 4)) (pa_cons (pe_and (pe_callB (call_isEd (a := e) (oe := oe) (pn := pn) BN.T BN.sp BN.tk hz.zc hf) (by rfl) n_isinstance (by decide +kernel) (pa_cons (pv 4) (pa_cons (pe_glob (v := .ref (ga K "PlaceError")) rfl gPE rfl) pa_nil))) (pe_one (pe_callB (call_isEd (a := e) (oe := oe) (pn := pn) BN.T BN.sp BN.tk hz.zc hf) (by rfl) n_isinstance (by decide +kernel) (pa_cons (pv 4) (pa_cons (pe_bltn (v := .ty "ValueError") (by rfl) n_ValueError (by decide +kernel) rfl) pa_nil))))) pa_nil))))))
      case t2 =>
        refine ⟨_, rfl, rfl, rfl, d', _, _, rfl, hd', rfl, _, rfl, ⟨_, hd'⟩, _, _, _, rfl, (fun _ r => r), BN.kO ("PlaceError", true) (by simp), _, rfl, yes rfl ⟨_, rfl, ⟨_, hd'⟩, _, _, _, rfl, (fun _ r => r), BN.kB ("ValueError", true) (by simp), (by show 3 ≤ sizeLine; decide), fun T nT => ?_⟩⟩
        exact kN op hop eop wd hwd ewd z hi _ _ (s1.trans (same_put nT)) upd_same
    · have di := ok_int6 hi
      have AI := AI.mv sG
      have fld : ∀ z ∈ nk, fs.lookup z = some (n z) := fun z hz => (hf z (by revert z; decide +kernel)).trans (congrArg some (scV_nk hz))
      refine ⟨_, rfl, a, _, dx, fs, _, rfl, ha, S.cls, S.noat _ (by decide), fld "home" (by decide), _, rfl, a, _, dx, fs, _, rfl, ha, S.cls, S.noat _ (by decide), fld "to" (by decide), _, rfl, a, _, dx, fs, _, rfl, ha, S.cls, S.noat _ (by decide), fld "x" (by decide), _, rfl, a, _, dx, fs, _, rfl, ha, S.cls, S.noat _ (by decide), fld "y" (by decide), _, rfl, a, _, dx, fs, _, rfl, ha, S.cls, S.noat _ (by decide), fld "k" (by decide), _, rfl, a, _, dx, fs, _, rfl, ha, S.cls, S.noat _ (by decide), fld "other" (by decide), (by show 6 ≤ sizeLine; decide), fun L nL => ?_⟩
      have sG := sG
      generalize e_G2 : upd _ L _ = G2
      have s_L := new_same e_G2 nL
      have f_L := new_at e_G2
      clear e_G2
      have AI := AI.mv s_L
      have sG := sG.mv s_L
      have dp : ∀ z ∈ nk, Dp K G2 (n z) (d z) := AI.a.dp
      refine ⟨_, .list [d "home", d "to", d "x", d "y", d "k", d "other"], rfl, .lst (SqL.of f_L) (.cons (dp _ (by decide)) (.cons (dp _ (by decide)) (.cons (dp _ (by decide)) (.cons (dp _ (by decide)) (.cons (dp _ (by decide)) (.cons (dp _ (by decide)) .nil)))))), ?_, (by show 2 ≤ sizeLine; decide), fun T nT => ?_⟩
      · have sm : ∀ x ∈ [d "home", d "to", d "x", d "y", d "k", d "other"], Small x 0 1002 := by
          have one : ∀ z ∈ nk, Small (d z) 0 1002 := fun z hz => by
            rw [di z hz]
            refine sc_small (m := 10 ^ 31) (by decide) ?_
            have := made_le hop hwd hi z hz
            rw [g30] at this
            show (iv (d z)).natAbs ≤ 10 ^ 31
            omega
          intro x hx
          simp only [List.mem_cons, List.not_mem_nil, or_false] at hx
          rcases hx with rfl | rfl | rfl | rfl | rfl | rfl <;> exact one _ (by decide)
        exact (small_list (m := 6100) sm (by show 6 * (1002 + 2) + 2 ≤ 6100; decide)).mono (by decide) (by decide)
      · exact kM op hop eop wd hwd ewd hi _ _ (sG.trans (same_put nT)) upd_same
end
end K24

set_option Elab.async false
set_option maxRecDepth 100000
set_option maxHeartbeats 2000000
namespace K24
open PySem PySem.Spec PyProof.Rows L2 He KX StX
abbrev sLWa : Stmt := top 37
theorem free_txt {z : Str} (h : ∀ k, 127 < k → k ∉ z.cps.toList) : PyData.strOk z = true := by
  unfold PyData.strOk
  rw [← Array.all_toList]
  refine List.all_eq_true.mpr fun c hc => decide_eq_true ?_
  by_cases d : 127 < c
  · exact absurd hc (h c d)
  · omega
theorem from_free {k : Nat} (hk : 127 < k) : ∀ (ts : List Str) (i : Nat) (acc : Str), k ∉ acc.cps.toList → (∀ t ∈ ts, k ∉ t.cps.toList) → k ∉ (textFrom i acc ts).cps.toList
  | [], _, acc, h, _ => h
  | t :: r, i, acc, h, ht => by
    have e : k ∉ (acc ++ (if i > 0 then ", " else "" : String) ++ t).cps.toList := by
      rw [mem_cps_append, mem_cps_append]
      rintro ((q | q) | q)
      · exact h q
      · split at q
        · rw [signs_sep] at q
          simp only [List.mem_cons, List.not_mem_nil, or_false] at q
          omega
        · cases q
      · exact ht t List.mem_cons_self q
    exact from_free hk r (i + 1) _ e fun u hu => ht u (List.mem_cons_of_mem _ hu)
theorem list_free {k : Nat} (hk : 127 < k) {ds : List PyData} (h : ∀ d ∈ ds, k ∉ d.shown.cps.toList) : k ∉ (PyData.list ds).shown.cps.toList := by
  have q := from_free hk (PyData.shownAll ds) 0 ("[" : String) (by rw [show (("[" : String) : Str).cps.toList = [91] by decide +kernel]; simp only [List.mem_cons, List.not_mem_nil, or_false]; omega) fun t ht => by
    obtain ⟨d, hd, rfl⟩ := shownAll_mem ht
    exact h d hd
  show k ∉ (textFrom 0 ("[" : String) (PyData.shownAll ds) ++ ("]" : String)).cps.toList
  rw [mem_cps_append]
  rintro (c | c)
  · exact q c
  · rw [show (("]" : String) : Str).cps.toList = [93] by decide +kernel] at c
    simp only [List.mem_cons, List.not_mem_nil, or_false] at c
    omega
theorem made_ok {d : Str → PyData} (h : ∀ z ∈ nk, d z = .int (iv (d z))) : PyData.strOk (madeT d) = true := by
  refine free_txt fun k hk => list_free hk fun x hx => ?_
  have one : ∀ z ∈ nk, k ∉ (d z).shown.cps.toList := fun z hz => by
    rw [h z hz]
    exact shown_int_free' ⟨by omega, .inr (by omega)⟩ _
  simp only [List.mem_cons, List.not_mem_nil, or_false] at hx
  rcases hx with rfl | rfl | rfl | rfl | rfl | rfl <;> exact one _ (by decide)
abbrev big : Nat := 10 ^ 32
def wordsL : List Str := ops ++ (["alone", "apart", "within", "itself"] : List Str)
def elemsL : List PyData := [.int 0, .int 1] ++ wordsL.map .str
def vOf : PyData → V
  | .int i => .int i
  | .str z => .str z
  | _ => .non
theorem el_ok1 : ∀ z ∈ wordsL, (PyData.str z).canLay0 = true ∧ (PyData.str z).depth ≤ 0 ∧ (PyData.strOk (PyData.tuple [.str z]).shown = true ∧ (PyData.tuple [.str z]).showable = true ∧ (PyData.tuple [.str z]).hasDict = false ∧ (PyData.tuple [.str z]).depth ≤ 8 ∧ (PyData.tuple [.str z]).shown.length ≤ 2000) ∧ (PyData.strOk (PyData.list [.str z]).shown = true ∧ (PyData.list [.str z]).showable = true ∧ (PyData.list [.str z]).hasDict = false ∧ (PyData.list [.str z]).depth ≤ 8 ∧ (PyData.list [.str z]).shown.length ≤ 2000) := by decide +kernel
theorem el_ok : ∀ e ∈ elemsL, e.canLay0 = true ∧ e.depth ≤ 0 ∧ (PyData.strOk (PyData.tuple [e]).shown = true ∧ (PyData.tuple [e]).showable = true ∧ (PyData.tuple [e]).hasDict = false ∧ (PyData.tuple [e]).depth ≤ 8 ∧ (PyData.tuple [e]).shown.length ≤ 2000) ∧ (PyData.strOk (PyData.list [e]).shown = true ∧ (PyData.list [e]).showable = true ∧ (PyData.list [e]).hasDict = false ∧ (PyData.list [e]).depth ≤ 8 ∧ (PyData.list [e]).shown.length ≤ 2000) := by
  intro e he
  rcases List.mem_append.mp he with he | he
  · rcases List.mem_cons.mp he with rfl | he
    · decide +kernel
    · rw [List.mem_singleton.mp he]; decide +kernel
  · obtain ⟨z, hz, rfl⟩ := List.mem_map.mp he
    exact el_ok1 z hz
theorem el_v {K : PySem.W.Frag} {H : Hp} {e : PyData} (h : e ∈ elemsL) : Dp K H (vOf e) e := by
  rcases List.mem_append.mp h with h | h
  · rcases List.mem_cons.mp h with rfl | h
    · exact .int _
    · rw [List.mem_singleton.mp h]; exact .int _
  · obtain ⟨z, _, rfl⟩ := List.mem_map.mp h
    exact .str z
/-- a drawn thing -/
def OdV (p g : Addr) (G : Hp) (v : V) (d : PyData) : Prop :=
  (ScD big d ∧ ((v = .non ∧ d = .none) ∨ (∃ b, v = .bl b ∧ d = .bool b) ∨ (∃ i, v = .int i ∧ d = .int i) ∨ ∃ z, v = .str z ∧ d = .str z)) ∨
  (∃ a e, v = .ref a ∧ G a = some (.tup [vOf e]) ∧ d = .tuple [e] ∧ e ∈ elemsL) ∨
  (∃ a e, v = .ref a ∧ a ≠ p ∧ a ≠ g ∧ G a = some (.lst [vOf e]) ∧ d = .list [e] ∧ e ∈ elemsL)
section
variable {K : PySem.W.Frag} {p g : Addr} {H G : Hp} {v : V} {d : PyData}
theorem OdV.mv (h : OdV p g H v d) (s : Same H G) : OdV p g G v d := by
  rcases h with h | ⟨a, z, e, ha, r⟩ | ⟨a, z, e, n1, n2, ha, r⟩
  · exact .inl h
  · exact .inr (.inl ⟨a, z, e, s _ _ ha, r⟩)
  · exact .inr (.inr ⟨a, z, e, n1, n2, s _ _ ha, r⟩)
theorem OdV.mp (h : OdV p g H v d) (hB : Pool H p g) (k : KeptP p g H G) : OdV p g G v d := by
  rcases h with h | ⟨a, z, e, ha, r⟩ | ⟨a, z, e, n1, n2, ha, r⟩
  · exact .inl h
  · obtain ⟨n1, n2⟩ := hB.nt ha nofun
    exact .inr (.inl ⟨a, z, e, k _ _ n1 n2 ha, r⟩)
  · exact .inr (.inr ⟨a, z, e, n1, n2, k _ _ n1 n2 ha, r⟩)
/-- another object, which is no list or tuple of one, may change -/
theorem OdV.off {b : Addr} {l : List (Key × V)} {o : HO} (h : OdV p g H v d) (hb : H b = some (.dK l)) : OdV p g (upd H b o) v d := by
  rcases h with h | ⟨a, z, e, ha, r⟩ | ⟨a, z, e, n1, n2, ha, r⟩
  · exact .inl h
  · exact .inr (.inl ⟨a, z, e, (upd_ne (by rintro rfl; rw [hb] at ha; cases ha)).trans ha, r⟩)
  · exact .inr (.inr ⟨a, z, e, n1, n2, (upd_ne (by rintro rfl; rw [hb] at ha; cases ha)).trans ha, r⟩)
theorem OdV.dp (h : OdV p g G v d) : Dp K G v d := by
  rcases h with ⟨_, ⟨rfl, rfl⟩ | ⟨b, rfl, rfl⟩ | ⟨i, rfl, rfl⟩ | ⟨z, rfl, rfl⟩⟩ | ⟨a, z, rfl, ha, rfl, hz⟩ | ⟨a, z, rfl, _, _, ha, rfl, hz⟩
  · exact .non
  · exact .bl b
  · exact .int i
  · exact .str z
  · exact .tup (SqT.of ha) (.cons (el_v hz) .nil)
  · exact .lst (SqL.of ha) (.cons (el_v hz) .nil)
theorem OdV.small (h : OdV p g G v d) : Small d 8 2000 := by
  rcases h with ⟨h, _⟩ | ⟨_, z, _, _, rfl, hz⟩ | ⟨_, z, _, _, _, _, rfl, hz⟩
  · exact (sc_small (by decide) h).mono (by decide) (by decide)
  · obtain ⟨_, _, ⟨_, h2, h3, h4, h5⟩, _⟩ := el_ok z hz; exact ⟨h2, h3, h4, h5⟩
  · obtain ⟨_, _, _, _, h2, h3, h4, h5⟩ := el_ok z hz; exact ⟨h2, h3, h4, h5⟩
theorem OdV.text (h : OdV p g G v d) : PyData.strOk d.shown = true := by
  rcases h with ⟨h, ⟨_, rfl⟩ | ⟨b, _, rfl⟩ | ⟨i, _, rfl⟩ | ⟨z, _, rfl⟩⟩ | ⟨_, z, _, _, rfl, hz⟩ | ⟨_, z, _, _, _, _, rfl, hz⟩
  · decide +kernel
  · cases b <;> decide +kernel
  · exact int_ok i
  · exact repr_ok h.2
  · exact (el_ok z hz).2.2.1.1
  · exact (el_ok z hz).2.2.2.1
theorem OdV.shaped (h : OdV p g G v d) : SeqAt.shaped d = true := by
  rcases h with ⟨h, _⟩ | ⟨_, z, _, _, rfl, hz⟩ | ⟨_, z, _, _, _, _, rfl, hz⟩
  · obtain ⟨h1, h2⟩ := sc_lay h
    exact Bool.and_eq_true_iff.mpr ⟨h1, decide_eq_true (Nat.le_trans h2 (by decide))⟩
  · exact tupSh (k := 8) (by decide) fun d hd => by rw [List.mem_singleton.mp hd]; obtain ⟨h1, h2, _⟩ := el_ok z hz; exact ⟨h1, Nat.le_trans h2 (by decide)⟩
  · exact listSh (k := 8) (by decide) fun d hd => by rw [List.mem_singleton.mp hd]; obtain ⟨h1, h2, _⟩ := el_ok z hz; exact ⟨h1, Nat.le_trans h2 (by decide)⟩
theorem OdV.int {i : Int} (h : i.natAbs ≤ 10 ^ 32) : OdV p g G (.int i) (.int i) := .inl ⟨h, .inr (.inr (.inl ⟨i, rfl, rfl⟩))⟩
end
def spLWa (K : PySem.W.Frag) : Sp := fun vs H Q _ => ∃ (v : V) (d : PyData), vs = [v] ∧ Dp K H v d ∧ SeqAt.shaped d = true ∧ Small d 8 2000 ∧ inS ops d = false ∧ ∀ G, Same H G → Q (.bl true) G
section
variable {P : Program} {w : World} {K : PySem.W.Frag} {mg : Str → Option Value} {base : Heap}
theorem scLWa : FnScope ["thing", "e"] ["thing"] (defScope sLWa) := ⟨rfl, rfl, rfl, by decide +kernel, rfl, by decide +kernel, by decide +kernel⟩
theorem ok_lwa {f fW : Addr} {fd fdW : FuncData} (F : FnP K "_law_worlds_answer" sLWa f fd) (BO : ErBO K) (GW : FnOk P w K mg base (L2N.CX P w) 4 fW fdW ["op"] (spWor K)) (bW : Binds K fdW ["op"] []) (kW : PySem.W.keepIn K (.ref fW) = true) (gW : mg "worlds_of" = some (.ref fW))
    (gBO : mg "BadOperation" = some (.ref (ga K "BadOperation"))) (n_repr : mg "repr" = none) : FnG P w K mg base CX0 5 f fd ["thing"] (spLWa K) := by
  refine fnG_ok F scLWa (fun vs H Q E h => ?_) (fun cdv A outer s H vs Q E gg hr h => ?_)
  · obtain ⟨v, d, rfl, _⟩ := h
    rfl
  · obtain ⟨v, d, rfl, hd, hs, hm, hi, k⟩ := h
    have nd := scLWa.nd
    have hr4 := hr.mono (j := 4) (by decide)
    have hu10 : (A.deeper (envOfC "_law_worlds_answer" (defScope sLWa) s.heap.objs.size f cdv)).units + 10 < cLine := Nat.lt_of_le_of_lt (Nat.add_le_add_left (by decide) _) hr.units
    refine ⟨_, (by exact (pss_cons (ps_try_ass (i := 1) (tb := fun W => tDrop (tCallS (spWor K) (WE W) (tCons (tVar 0) tNil))) rfl rfl nd rfl rfl (fun W pn xe tk _ => by exact (pss_one (ps_expr (pe_callS GW hr4 (by rfl) gW kW bW (fun σ => L2N.passAt tk σ) (pa_cons (pv 0) pa_nil))))) (HdsAs.cons (ts := tsAt _ (excBody (defBody sLWa))) ⟨rfl, by decide, Or.inl gBO⟩ (fun a oe cls d pn hz hf => tsAt_ok hz hf) .nil))
(pss_one (ps_ret pe_bl)))), ?_⟩
    refine ⟨_, rfl, v, d, rfl, hd, hs, fun z hz ez => ?_, fun _ d' H' s1 hd' => ?_⟩
    · rw [ez, inS_str, decide_eq_true hz] at hi
      cases hi
    · refine ⟨true, BO.ex ("BadOperation", true) (by simp), fun _ e ne => ?_, fun z => nomatch z⟩
      apply Exists.intro
      refine And.intro (fun oe pn hz hf => ?t1) ?t2
      case t1 =>
        show PSs _ (_ :: _) _
        exact (pss_one (ps_ret (pe_cmpR op_eq (pe_callB (show CallR _ (.builtin "repr") (rReprD K) from call_reprD gg hu10) (by rfl) n_repr (by decide +kernel) (pa_cons (pe_xf (a := e) (oe := oe) (pn := pn) BO.X (BO.no _ List.mem_cons_self) hz.zc hf (pv 1)) pa_nil)) (pe_callB (show CallR _ (.builtin "repr") (rReprD K) from call_reprD gg hu10) (by rfl) n_repr (by decide +kernel) (pa_cons (pv 0) pa_nil)) (nomark _))))
      case t2 =>
        refine ⟨_, rfl, rfl, rfl, d', _, _, rfl, hd', rfl, v, d, rfl, hd.mv s1, hm.mono (by decide) (by decide), _, rfl, v, d, rfl, hd.mv s1, hm.mono (by decide) (by decide), rfl, ?_⟩
        rw [decide_eq_true rfl]
        exact k _ s1
end
end K24

set_option Elab.async false
set_option maxRecDepth 100000
set_option maxHeartbeats 4000000
namespace K24
open PySem PySem.Spec PyProof.Rows L2 He KX StX
abbrev sLaw : Stmt := top 38
def spLaw (K : PySem.W.Frag) : Sp := fun vs H Q _ => ∃ (a : Addr) (ns : List Int), vs = [.ref a] ∧ SqL K H a (ns.map V.int) ∧ ns.length ≤ 63 ∧ ∀ H', Q (.bl true) H'
/-- a tuple beside the pool -/
structure TuP (p g : Addr) (H : Hp) (a : Addr) (xs : List V) : Prop where
  at_ : H a = some (.tup xs)
theorem TuP.mv {p g a : Addr} {H G : Hp} {xs : List V} (h : TuP p g H a xs) (s : Same H G) : TuP p g G a xs := ⟨s _ _ h.1⟩
theorem TuP.mp {p g a : Addr} {H G : Hp} {xs : List V} (h : TuP p g H a xs) (hB : Pool H p g) (k : KeptP p g H G) : TuP p g G a xs := ⟨k _ _ (hB.nt h.1 nofun).1 (hB.nt h.1 nofun).2 h.1⟩
theorem TuP.off {p g a b : Addr} {H : Hp} {xs : List V} {l : List (Key × V)} {o : HO} (h : TuP p g H a xs) (hb : H b = some (.dK l)) : TuP p g (upd H b o) a xs := ⟨(upd_ne (by rintro rfl; have := h.1; rw [hb] at this; cases this)).trans h.1⟩
theorem LsP.off {p g a b : Addr} {H : Hp} {xs : List Str} {l : List (Key × V)} {o : HO} (h : LsP p g H a xs) (hb : H b = some (.dK l)) : LsP p g (upd H b o) a xs := ⟨h.1, h.2, (upd_ne (by rintro rfl; have := h.3; rw [hb] at this; cases this)).trans h.3⟩
theorem DcP.off {p g a b : Addr} {H : Hp} {l : List (Key × V)} {o : HO} (h : DcP p g H a l) (hb : a ≠ b) : DcP p g (upd H b o) a l := ⟨h.1, h.2, (upd_ne hb).trans h.3⟩
theorem nuN_n6 {h t x y k o : Int} : nuN (fun z => .int (n6 h t x y k o z)) = ni6 h t x y k o := by
  unfold nuN ni6
  simp only [n6_home, n6_to, n6_x, n6_y, n6_k, n6_other]
def upN {α : Type} (m : Str → α) (z : Str) (v : α) : Str → α := fun y => if y = z then v else m y
theorem put_nk {m : Str → V} {v : V} : ∀ z ∈ nk, putK (nuN m) (.inr z) v = nuN (upN m z v) := by
  intro z hz
  rcases List.mem_cons.mp hz with rfl | hz
  · kernel_rfl
  rcases List.mem_cons.mp hz with rfl | hz
  · kernel_rfl
  rcases List.mem_cons.mp hz with rfl | hz
  · kernel_rfl
  rcases List.mem_cons.mp hz with rfl | hz
  · kernel_rfl
  rcases List.mem_cons.mp hz with rfl | hz
  · kernel_rfl
  rw [List.mem_singleton.mp hz]
  kernel_rfl
theorem get_nk {m : Str → V} : ∀ z ∈ nk, valV (nuN m) (.inr z) = some (m z) := by
  intro z hz
  rcases List.mem_cons.mp hz with rfl | hz
  · exact get_home
  rcases List.mem_cons.mp hz with rfl | hz
  · exact get_to
  rcases List.mem_cons.mp hz with rfl | hz
  · exact get_x
  rcases List.mem_cons.mp hz with rfl | hz
  · exact get_y
  rcases List.mem_cons.mp hz with rfl | hz
  · exact get_k
  rw [List.mem_singleton.mp hz]
  exact get_other
theorem dg_nk {G : Hp} {D : Addr} {m : Str → V} {z : Str} (hz : z ∈ nk) (q : G D = some (.dK (nuN m))) : DGet G D (.str z) (some (m z)) := .inl ⟨_, .inr z, .inl q, rfl, (get_nk z hz).symm⟩
theorem dp_nk {G : Hp} {D : Addr} {m : Str → V} {z : Str} {v : V} (hz : z ∈ nk) (q : G D = some (.dK (nuN m))) : DPut G D (.str z) v (upd G D (.dK (nuN (upN m z v)))) := .inl ⟨_, .inr z, q, rfl, (by show 6 < sizeLine; decide), by rw [put_nk z hz]⟩
/-- the dict that is changed -/
structure Chg (p g : Addr) (G : Hp) (C : Addr) (m : Str → V) (e : Str → PyData) : Prop where
  dc : DcP p g G C (nuN m)
  od : ∀ z ∈ nk, OdV p g G (m z) (e z)
theorem Chg.mv {p g C : Addr} {G G' : Hp} {m : Str → V} {e : Str → PyData} (h : Chg p g G C m e) (s : Same G G') : Chg p g G' C m e := ⟨h.1.mv s, fun z hz => (h.2 z hz).mv s⟩
theorem Chg.mp {p g C : Addr} {G G' : Hp} {m : Str → V} {e : Str → PyData} (h : Chg p g G C m e) (hB : Pool G p g) (k : KeptP p g G G') : Chg p g G' C m e := ⟨h.1.mp hB k, fun z hz => (h.2 z hz).mp hB k⟩
theorem Chg.put {p g C : Addr} {G : Hp} {m : Str → V} {e : Str → PyData} {z : Str} {v : V} {d : PyData} (h : Chg p g G C m e) (hv : OdV p g G v d) : Chg p g (upd G C (.dK (nuN (upN m z v)))) C (upN m z v) (upN e z d) :=
  ⟨⟨h.1.1, h.1.2, upd_same⟩, fun y hy => by
    unfold upN
    split
    · exact hv.off h.1.3
    · exact (h.2 y hy).off h.1.3⟩
theorem Chg.nua {K : PySem.W.Frag} {p g C : Addr} {G : Hp} {m : Str → V} {e : Str → PyData} (h : Chg p g G C m e) : NuA K G C m e := ⟨h.1.3, fun z hz => (h.2 z hz).dp⟩
theorem el0 : PyData.int 0 ∈ elemsL := List.mem_append_left _ List.mem_cons_self
theorem el1 : PyData.int 1 ∈ elemsL := List.mem_append_left _ (List.mem_cons_of_mem _ List.mem_cons_self)
theorem elw {z : Str} (h : z ∈ wordsL) : PyData.str z ∈ elemsL := List.mem_append_right _ (List.mem_map_of_mem h)
def scB (z : Str) : Bool := decide (z.length ≤ 100) && (tlc z).all fun c => decide (c < 1000)
theorem sc_of {m : Nat} {z : Str} (h : scB z = true) : ScD m (.str z) := by
  obtain ⟨h1, h2⟩ := Bool.and_eq_true_iff.mp h
  exact ⟨of_decide_eq_true h1, fun c hc => of_decide_eq_true (List.all_eq_true.mp h2 c hc)⟩
theorem OdV.txt {p g : Addr} {G : Hp} {z : Str} (h : scB z = true) : OdV p g G (.str z) (.str z) := .inl ⟨sc_of h, .inr (.inr (.inr ⟨z, rfl, rfl⟩))⟩
theorem OdV.no {p g : Addr} {G : Hp} : OdV p g G .non .none := .inl ⟨trivial, .inl ⟨rfl, rfl⟩⟩
theorem OdV.bool {p g : Addr} {G : Hp} {b : Bool} : OdV p g G (.bl b) (.bool b) := .inl ⟨trivial, .inr (.inl ⟨b, rfl, rfl⟩)⟩
theorem op_s : ∀ op ∈ ops, scB (op ++ "s") = true ∧ inS ops (.str (op ++ "s")) = false ∧ op.length ≤ 100 := by decide +kernel
def wanV (o : Option Str) (e : Str → PyData) : List V := match o with
  | some z => [.str "number", .str z, .bl true]
  | none => [.str "made", .str (madeT e)]
def wanD (o : Option Str) (e : Str → PyData) : PyData := match o with
  | some z => .tuple [.str "number", .str z, .bool true]
  | none => .tuple [.str "made", .str (madeT e)]
theorem wrong_mem {ok : Str → Bool} {z : Str} (h : wrong ok = some z) : z ∈ nk := by
  unfold wrong at h
  split at h
  · split at h
    · split at h
      · split at h
        · split at h
          · split at h
            · cases h
            · injection h with h; rw [← h]; decide
          · injection h with h; rw [← h]; decide
        · injection h with h; rw [← h]; decide
      · injection h with h; rw [← h]; decide
    · injection h with h; rw [← h]; decide
  · injection h with h; rw [← h]; decide
theorem nk_ok : ∀ z ∈ nk, PyData.strOk z = true := by decide +kernel
/-- tuples of a word, a text and perhaps True -/
theorem t2_dp {K : PySem.W.Frag} {G : Hp} {W : Addr} {s t : Str} (h : G W = some (.tup [.str s, .str t])) : Dp K G (.ref W) (.tuple [.str s, .str t]) := .tup (SqT.of h) (.cons (.str _) (.cons (.str _) .nil))
theorem t3_dp {K : PySem.W.Frag} {G : Hp} {W : Addr} {s t : Str} (h : G W = some (.tup [.str s, .str t, .bl true])) : Dp K G (.ref W) (.tuple [.str s, .str t, .bool true]) := .tup (SqT.of h) (.cons (.str _) (.cons (.str _) (.cons (.bl _) .nil)))
theorem t2_sh {s t : Str} (h1 : PyData.strOk s = true) (h2 : PyData.strOk t = true) : SeqAt.shaped (.tuple [.str s, .str t]) = true := by
  refine tupSh (k := 0) (by decide) fun e he => ?_
  rcases List.mem_cons.mp he with rfl | he
  · exact ⟨h1, Nat.le_refl _⟩
  rw [List.mem_singleton.mp he]
  exact ⟨h2, Nat.le_refl _⟩
theorem t3_sh {s t : Str} (h1 : PyData.strOk s = true) (h2 : PyData.strOk t = true) : SeqAt.shaped (.tuple [.str s, .str t, .bool true]) = true := by
  refine tupSh (k := 0) (by decide) fun e he => ?_
  rcases List.mem_cons.mp he with rfl | he
  · exact ⟨h1, Nat.le_refl _⟩
  rcases List.mem_cons.mp he with rfl | he
  · exact ⟨h2, Nat.le_refl _⟩
  rw [List.mem_singleton.mp he]
  exact ⟨rfl, Nat.le_refl _⟩
theorem wan_dp {K : PySem.W.Frag} {G : Hp} {W : Addr} {o : Option Str} {e : Str → PyData} (h : G W = some (.tup (wanV o e))) : Dp K G (.ref W) (wanD o e) := by
  cases o
  · exact t2_dp h
  · exact t3_dp h
theorem ok_w : PyData.strOk "made" = true ∧ PyData.strOk "number" = true ∧ PyData.strOk "world" = true ∧ PyData.strOk "operation" = true := by decide +kernel
theorem wan_sh {op wd : Str} {e : Str → PyData} : SeqAt.shaped (wanD (wrong (okP op wd e)) e) = true := by
  cases h : wrong (okP op wd e) with
  | none => exact t2_sh ok_w.1 (made_ok (ok_int6 h))
  | some z => exact t3_sh ok_w.2.1 (nk_ok z (wrong_mem h))
theorem sh_eqv {d : PyData} (h : SeqAt.shaped d = true) : (!d.eqv d) = false := by rw [SeqAt.eqv_refl _ (Bool.and_eq_true_iff.mp h).1]; rfl
theorem wd_in : ∀ op ∈ ops, ∀ wd ∈ wor op, wd ∈ wordsL ∧ SeqAt.shaped (.str wd) = true ∧ SeqAt.shaped (.str op) = true ∧ op ∈ wordsL ∧ wor op ≠ [] ∧ (wor op).length ≤ 3 := by decide +kernel

theorem wsm : ∀ z ∈ wordsL, scB z = true := by decide +kernel
theorem w_small {z : Str} (h : z ∈ wordsL) : Small (.str z) 8 2000 := (sc_small (by decide) (sc_of (m := big) (wsm z h))).mono (by decide) (by decide)
/-- what is asked of an answer to a good operation and a good world -/
theorem ans_ok {K : PySem.W.Frag} {H : Hp} {op wd : Str} {D : Addr} {n : Str → V} {d : Str → PyData} {Q : VK} {E : XK} (hop : op ∈ ops) (hwd : wd ∈ wor op) (A : NuA K H D n d) (k : TupIs H (wanV (wrong (okP op wd d)) d) Q) : spAns K [.str op, .str wd, .ref D] H Q E := by
  obtain ⟨w1, w2, w3, w4, _⟩ := wd_in op hop wd hwd
  refine ⟨.str op, .str wd, D, n, .str op, .str wd, d, rfl, ⟨A, .str _, w3, w_small w4, .str _, w2, w_small w1⟩, fun h => ?_, fun op2 h2 e2 h => ?_, fun op2 h2 e2 wd2 h3 e3 z h => ?_, fun op2 h2 e2 wd2 h3 e3 h => ?_⟩
  · rw [inS_str, decide_eq_true hop] at h; cases h
  · injection e2 with e2
    subst e2
    rw [inS_str, decide_eq_true hwd] at h; cases h
  · injection e2 with e2
    injection e3 with e3
    subst e2
    subst e3
    rw [h] at k
    exact k
  · injection e2 with e2
    injection e3 with e3
    subst e2
    subst e3
    rw [h] at k
    exact k
theorem no_str {l : List Str} {d : PyData} (h : isStrD d = false) : inS l d = false := by
  cases hi : inS l d with
  | false => rfl
  | true =>
    obtain ⟨z, _, rfl⟩ := inS_true hi
    cases h
theorem odd_it {K : PySem.W.Frag} {σ : L2.St} {H : Hp} {Q : Bool → Hp → Prop} {i jx : Nat} {v : V} {d : PyData} {W : Addr} {l : List Str} (hi : σ[i]? = some (some v)) (hj : σ[jx]? = some (some (.ref W))) (hd : Dp K H v d) (hW : SqL K H W (l.map V.str)) (k : Q (!inS l d) H) :
    tOr (tNot (tB (tCB (rIsi K) (tCons (tVar i) (tCons (tC (V.ty "str")) tNil))))) (tTest (tOp (rIn K true) (tVar i) (tVar jx))) σ H Q := by
  refine ⟨_, hi, _, _, _, _, _, rfl, .ty _, dp_ty hd, kit_str d, _, rfl, ?_⟩
  cases hs : isStrD d with
  | false =>
    rw [no_str hs] at k
    exact yes rfl k
  | true =>
    obtain ⟨y, rfl⟩ : ∃ y, d = .str y := by cases d <;> first | exact ⟨_, rfl⟩ | cases hs
    obtain rfl := dp_str hd
    refine no rfl ?_
    have fl : (l.map V.str).all flatV = true := List.all_eq_true.mpr fun y hy => by
      obtain ⟨z, _, rfl⟩ := List.mem_map.mp hy
      rfl
    refine ⟨_, hi, _, hj, W, _, rfl, .inl hW, rfl, fl, _, rfl, ?_⟩
    rw [if_pos rfl, inV_str]
    rw [inS_str] at k
    exact k
section
variable {P : Program} {w : World} {K : PySem.W.Frag} {mg : Str → Option Value} {base : Heap}
theorem scLaw : FnScope ["script", "pool", "turn", "op", "worlds", "world", "n", "good", "changed", "word", "things", "wrong", "wanted", "told", "odd"] ["script"] (defScope sLaw) := ⟨rfl, rfl, rfl, by decide +kernel, rfl, by decide +kernel, by decide +kernel⟩
theorem ok_law {f fPo fD fOp fWo fNu fFw fA fWa : Addr} {fd fdPo fdD fdOp fdWo fdNu fdFw fdA fdWa : FuncData} (F : FnP K "law" sLaw f fd)
    (GPo : FnOk P w K mg base CX0 1 fPo fdPo ["script"] (spPool K)) (bPo : Binds K fdPo ["script"] []) (kPo : PySem.W.keepIn K (.ref fPo) = true) (gPo : mg "_law_pool" = some (.ref fPo))
    (GD : FnOk P w K mg base CX0 1 fD fdD ["pool", "limit"] spDrawP) (bD : Binds K fdD ["pool", "limit"] []) (kD : PySem.W.keepIn K (.ref fD) = true) (gD : mg "_law_draw" = some (.ref fD))
    (GOp : FnOk P w K mg base CX0 2 fOp fdOp ["pool"] spLOp) (bOp : Binds K fdOp ["pool"] []) (kOp : PySem.W.keepIn K (.ref fOp) = true) (gOp : mg "_law_op" = some (.ref fOp))
    (GWo : FnOk P w K mg base CX0 1 fWo fdWo ["op"] spLWo) (bWo : Binds K fdWo ["op"] []) (kWo : PySem.W.keepIn K (.ref fWo) = true) (gWo : mg "_law_worlds" = some (.ref fWo))
    (GNu : FnOk P w K mg base CX0 3 fNu fdNu ["pool", "op", "world", "most"] spLNu) (bNu : Binds K fdNu ["pool", "op", "world", "most"] []) (kNu : PySem.W.keepIn K (.ref fNu) = true) (gNu : mg "_law_numbers" = some (.ref fNu))
    (GFw : FnOk P w K mg base CX0 2 fFw fdFw ["op", "world", "n"] (spLFw K)) (bFw : Binds K fdFw ["op", "world", "n"] []) (kFw : PySem.W.keepIn K (.ref fFw) = true) (gFw : mg "_law_first_wrong" = some (.ref fFw))
    (GA : FnG P w K mg base CX0 7 fA fdA ["op", "world", "n"] (spAns K)) (bA : Binds K fdA ["op", "world", "n"] []) (kA : PySem.W.keepIn K (.ref fA) = true) (gA : mg "_law_answer" = some (.ref fA))
    (GWa : FnG P w K mg base CX0 5 fWa fdWa ["thing"] (spLWa K)) (bWa : Binds K fdWa ["thing"] []) (kWa : PySem.W.keepIn K (.ref fWa) = true) (gWa : mg "_law_worlds_answer" = some (.ref fWa))
    (n_repr : mg "repr" = none) (n_dict : mg "dict" = none) (n_isinstance : mg "isinstance" = none) (n_str : mg "str" = none) (n_len : mg "len" = none) (n_range : mg "range" = none) : FnG P w K mg base CX0 8 f fd ["script"] (spLaw K) := by
  refine fnG_ok F scLaw (fun vs H Q E h => ?_) (fun cdv A outer s H vs Q E gg hr h => ?_)
  · obtain ⟨a, ns, rfl, _⟩ := h
    rfl
  · obtain ⟨a, ns, rfl, hS, hl, k⟩ := h
    have nd := scLaw.nd
    have hr7 := hr.mono (j := 7) (by decide)
    have hr5 := hr.mono (j := 5) (by decide)
    have hr3 := hr.mono (j := 3) (by decide)
    have hr2 := hr.mono (j := 2) (by decide)
    have hr1 := hr.mono (j := 1) (by decide)
    have hu64 := hr.units
    have hu := Nat.lt_of_le_of_lt (Nat.add_le_add_left (by decide : 1 ≤ 64) _) hr.units
    have hu10 : (A.deeper (envOfC "law" (defScope sLaw) s.heap.objs.size f cdv)).units + 10 < cLine := Nat.lt_of_le_of_lt (Nat.add_le_add_left (by decide) _) hr.units
    refine ⟨_, PSs.nox (pss_cons (ps_set (i := 1) nd rfl (Or.inl rfl) (pe_call GPo hr1 (by rfl) gPo kPo bPo .nil pass0 (pa_cons (pv 0) pa_nil)))
(pss_cons (ps_for PassesOwn.never rfl (pi_range1 (by rfl) n_range (pa_cons pe_int pa_nil)) (pg_name (i := 2) nd rfl (Or.inl rfl))
(pss_cons (ps_set (i := 3) nd rfl (Or.inl rfl) (pe_call GOp hr2 (by rfl) gOp kOp bOp .nil pass0 (pa_cons (pv 1) pa_nil)))
(pss_cons (ps_set (i := 4) nd rfl (Or.inl rfl) (pe_call GWo hr1 (by rfl) gWo kWo bWo .nil pass0 (pa_cons (pv 3) pa_nil)))
(pss_cons (ps_set (i := 5) nd rfl (Or.inl rfl) (pe_ix ix_list (pv 4) (pe_call GD hr1 (by rfl) gD kD bD .nil pass0 (pa_cons (pv 1) (pa_cons (pe_callB call_len_seq (by rfl) n_len PySem.boot_len (pa_cons (pv 4) pa_nil)) pa_nil))) (fun _ _ => rfl)))
(pss_cons (ps_set (i := 6) nd rfl (Or.inl rfl) (pe_call GNu hr3 (by rfl) gNu kNu bNu .nil pass0 (pa_cons (pv 1) (pa_cons (pv 3) (pa_cons (pv 5) (pa_cons (pe_ix ix_list (pe_lst (pa_cons pe_int (pa_cons (pe_op op_pow pe_int pe_int) pa_nil))) (pe_call GD hr1 (by rfl) gD kD bD .nil pass0 (pa_cons (pv 1) (pa_cons pe_int pa_nil))) (fun _ _ => rfl)) pa_nil))))))
(pss_cons (ps_set (i := 7) nd rfl (Or.inl rfl) (pe_tup (pa_cons pe_str (pa_cons (pe_callB (show CallR _ _ (rReprD K) from call_reprD gg hu10) (by rfl) n_repr (by decide +kernel) (pa_cons (pe_lst (pa_cons (pe_dget hu (pv 6) pe_str (fun _ _ => rfl)) (pa_cons (pe_dget hu (pv 6) pe_str (fun _ _ => rfl)) (pa_cons (pe_dget hu (pv 6) pe_str (fun _ _ => rfl)) (pa_cons (pe_dget hu (pv 6) pe_str (fun _ _ => rfl)) (pa_cons (pe_dget hu (pv 6) pe_str (fun _ _ => rfl)) (pa_cons (pe_dget hu (pv 6) pe_str (fun _ _ => rfl)) pa_nil))))))) pa_nil)) pa_nil))))
(pss_cons (ps_if (pt_cmpR (op_neD hu64) (pe_callG GA gg hr7 (by rfl) gA kA bA .nil pass0 (pa_cons (pv 3) (pa_cons (pv 5) (pa_cons (pv 6) pa_nil)))) (pv 7) (nomark _))
(pss_one (ps_ret pe_bl))
pss_nil)
(pss_cons (ps_set (i := 8) nd rfl (Or.inl rfl) (pe_callTy call_dictD (by rfl) n_dict (by decide +kernel) (pa_cons (pv 6) pa_nil)))
(pss_cons (ps_for PassesOwn.never rfl (pi_tup (pe_tup (pa_cons pe_str (pa_cons pe_str (pa_cons pe_str (pa_cons pe_str (pa_cons pe_str (pa_cons pe_str pa_nil)))))))) (pg_name (i := 9) nd rfl (Or.inl rfl))
(pss_one (ps_if (pt_cmpR op_eq (pe_call GD hr1 (by rfl) gD kD bD .nil pass0 (pa_cons (pv 1) (pa_cons pe_int pa_nil))) pe_int (nomark _))
(pss_cons (ps_set (i := 10) nd rfl (Or.inl rfl) (pe_lst (pa_cons (pe_op op_sub (pe_dget hu (pv 6) (pv 9) (fun _ _ => rfl)) pe_int) (pa_cons (pe_op op_add (pe_dget hu (pv 6) (pv 9) (fun _ _ => rfl)) pe_int) (pa_cons (pe_dget hu (pv 6) pe_str (fun _ _ => rfl)) (pa_cons (pe_op op_add (pe_dget hu (pv 6) pe_str (fun _ _ => rfl)) pe_int) (pa_cons (pe_op op_add (pe_dget hu (pv 6) pe_str (fun _ _ => rfl)) pe_int) (pa_cons (pe_op op_add (pe_dget hu (pv 6) pe_str (fun _ _ => rfl)) pe_int) (pa_cons pe_int (pa_cons pe_int (pa_cons pe_int (pa_cons (pe_un un_neg pe_int) pa_nil))))))))))))
(pss_cons (ps_set (i := 10) nd rfl (Or.inl rfl) (pe_op op_cat (pv 10) (pe_lst (pa_cons (pe_op op_pow pe_int pe_int) (pa_cons (pe_op op_add (pe_op op_pow pe_int pe_int) pe_int) (pa_cons pe_bl (pa_cons pe_bl (pa_cons pe_non (pa_cons pe_str (pa_cons (pe_tup (pa_cons pe_int pa_nil)) (pa_cons (pe_lst (pa_cons pe_int pa_nil)) pa_nil)))))))))))
(pss_one (ps_dput hu (pv 8) (pv 9) (pe_ix ix_list (pv 10) (pe_call GD hr1 (by rfl) gD kD bD .nil pass0 (pa_cons (pv 1) (pa_cons (pe_callB call_len_seq (by rfl) n_len PySem.boot_len (pa_cons (pv 10) pa_nil)) pa_nil))) (fun _ _ => rfl)) rfl))))
pss_nil)))
(pss_cons (ps_set (i := 11) nd rfl (Or.inl rfl) (pe_call GFw hr2 (by rfl) gFw kFw bFw .nil pass0 (pa_cons (pv 3) (pa_cons (pv 5) (pa_cons (pv 8) pa_nil)))))
(pss_cons (ps_set (i := 12) nd rfl (Or.inl rfl) (pe_tup (pa_cons pe_str (pa_cons (pv 11) (pa_cons pe_bl pa_nil)))))
(pss_cons (ps_if (pt_cmpR op_isN (pv 11) pe_non (nomark _))
(pss_cons (ps_set (i := 13) nd rfl (Or.inl rfl) (pe_lst (pa_cons (pe_dget hu (pv 8) pe_str (fun _ _ => rfl)) (pa_cons (pe_dget hu (pv 8) pe_str (fun _ _ => rfl)) (pa_cons (pe_dget hu (pv 8) pe_str (fun _ _ => rfl)) (pa_cons (pe_dget hu (pv 8) pe_str (fun _ _ => rfl)) (pa_cons (pe_dget hu (pv 8) pe_str (fun _ _ => rfl)) (pa_cons (pe_dget hu (pv 8) pe_str (fun _ _ => rfl)) pa_nil))))))))
(pss_one (ps_set (i := 12) nd rfl (Or.inl rfl) (pe_tup (pa_cons pe_str (pa_cons (pe_callB (show CallR _ _ (rReprD K) from call_reprD gg hu10) (by rfl) n_repr (by decide +kernel) (pa_cons (pv 13) pa_nil)) pa_nil))))))
pss_nil)
(pss_cons (ps_if (PW.pt (pw_or (pt_cmpR (op_neD hu64) (pe_callG GA gg hr7 (by rfl) gA kA bA .nil pass0 (pa_cons (pv 3) (pa_cons (pv 5) (pa_cons (pv 8) pa_nil)))) (pv 12) (nomark _)) (pw_or1 (pt_cmpR (op_neD hu64) (pe_callG GA gg hr7 (by rfl) gA kA bA .nil pass0 (pa_cons (pv 3) (pa_cons (pv 5) (pa_cons (pv 6) pa_nil)))) (pv 7) (nomark _)))))
(pss_one (ps_ret pe_bl))
pss_nil)
(pss_cons (ps_set (i := 14) nd rfl (Or.inl rfl) (pe_lst (pa_cons pe_non (pa_cons pe_int (pa_cons pe_str (pa_cons pe_str (pa_cons pe_str (pa_cons (pe_tup (pa_cons (pv 5) pa_nil)) (pa_cons (pe_lst (pa_cons (pv 5) pa_nil)) (pa_cons pe_bl (pa_cons pe_str (pa_cons pe_str (pa_cons pe_str (pa_cons pe_str pa_nil))))))))))))))
(pss_cons (ps_set (i := 14) nd rfl (Or.inl rfl) (pe_ix ix_list (pv 14) (pe_call GD hr1 (by rfl) gD kD bD .nil pass0 (pa_cons (pv 1) (pa_cons pe_int pa_nil))) (fun _ _ => rfl)))
(pss_cons (ps_if (PW.pt (pw_or (pt_not (pt_val (pe_callB call_isi (by rfl) n_isinstance (by decide +kernel) (pa_cons (pv 14) (pa_cons (pe_bltn (v := .ty "str") (by rfl) n_str (by decide +kernel) rfl) pa_nil))))) (pw_or1 (pt_cmpR op_notIn_seq (pv 14) (pv 4) rfl))))
(pss_one (ps_if (pt_cmpR (op_neD hu64) (pe_callG GA gg hr7 (by rfl) gA kA bA .nil pass0 (pa_cons (pv 3) (pa_cons (pv 14) (pa_cons (pv 8) pa_nil)))) (pe_tup (pa_cons pe_str (pa_cons (pe_callB (show CallR _ _ (rReprD K) from call_reprD gg hu10) (by rfl) n_repr (by decide +kernel) (pa_cons (pv 14) pa_nil)) (pa_cons pe_bl pa_nil)))) (nomark _))
(pss_one (ps_ret pe_bl))
pss_nil))
pss_nil)
(pss_cons (ps_set (i := 14) nd rfl (Or.inl rfl) (pe_ix ix_list (pe_lst (pa_cons pe_non (pa_cons pe_int (pa_cons pe_str (pa_cons pe_str (pa_cons (pe_op op_add_str (pv 3) pe_str) (pa_cons (pe_tup (pa_cons (pv 3) pa_nil)) (pa_cons (pe_lst (pa_cons (pv 3) pa_nil)) (pa_cons pe_bl pa_nil))))))))) (pe_call GD hr1 (by rfl) gD kD bD .nil pass0 (pa_cons (pv 1) (pa_cons pe_int pa_nil))) (fun _ _ => rfl)))
(pss_one (ps_if (PW.pt (pw_or (pt_cmpR (op_neD hu64) (pe_callG GA gg hr7 (by rfl) gA kA bA .nil pass0 (pa_cons (pv 14) (pa_cons (pv 5) (pa_cons (pv 8) pa_nil)))) (pe_tup (pa_cons pe_str (pa_cons (pe_callB (show CallR _ _ (rReprD K) from call_reprD gg hu10) (by rfl) n_repr (by decide +kernel) (pa_cons (pv 14) pa_nil)) (pa_cons pe_bl pa_nil)))) (nomark _)) (pw_or1 (pt_not (pt_val (pe_callG GWa gg hr5 (by rfl) gWa kWa bWa .nil pass0 (pa_cons (pv 14) pa_nil)))))))
(pss_one (ps_ret pe_bl))
pss_nil)))))))))))))))))))
(pss_one (ps_ret pe_bl)))), ?_⟩
    refine ⟨_, rfl, a, ns, rfl, hS, hl, fun p g G1 np ng s1 hB => ?_⟩
    dsimp only [gName, List.set]
    refine ⟨6, rfl, by decide, by decide, ?_⟩
    refine for_it (walk_rng (n := 6)) (fun _ σ G => ∃ w2 w3 w4 w5 w6 w7 w8 w9 w10 w11 w12 w13 w14, σ = [some (.ref a), some (.ref p), w2, w3, w4, w5, w6, w7, w8, w9, w10, w11, w12, w13, w14] ∧ Pool G p g)
      ⟨_, _, _, _, _, _, _, _, _, _, _, _, _, rfl, hB⟩ (fun _ _ _ _ _ => trivial) ?_ (fun σ G _ => k _)
    clear hB s1
    rintro j x σ G' G hj ⟨w2, w3, w4, w5, w6, w7, w8, w9, w10, w11, w12, w13, w14, rfl, hB⟩ ⟨rfl, rfl⟩
    dsimp only [gName, List.set]
    -- op, worlds
    refine ⟨_, rfl, p, g, rfl, hB, fun op hop G1 k1 hB1 => ?_⟩
    dsimp only [gName, List.set]
    refine ⟨_, rfl, op, rfl, fun W G2 nW s2 hW => ?_⟩
    obtain ⟨nWp, nWg⟩ := hB1.ne nW
    have hB1 := hB1.mv s2
    have hW : LsP p g G2 W (wor op) := ⟨nWp, nWg, hW⟩
    dsimp only [gName, List.set]
    -- world
    have wne : 1 ≤ (wor op).length ∧ (wor op).length ≤ 3 := by
      revert op
      intro op hop
      have : ∀ op ∈ ops, 1 ≤ (wor op).length ∧ (wor op).length ≤ 3 := by decide +kernel
      exact fun _ _ => this op hop
    refine ⟨_, rfl, _, rfl, _, rfl, W, _, rfl, .inl (SqL.of hW.at_), p, g, _, rfl, hB1, by rw [List.length_map]; omega, by rw [List.length_map]; omega, fun r G3 r0 r1 k3 hB3 => ?_⟩
    rw [List.length_map] at r1
    obtain ⟨jj, rfl⟩ : ∃ j : Nat, r = j := ⟨r.toNat, by omega⟩
    have hjj : jj < (wor op).length := by omega
    obtain ⟨wd, hwj⟩ : ∃ wd, (wor op)[jj]? = some wd := ⟨_, List.getElem?_eq_getElem hjj⟩
    have hwd : wd ∈ wor op := List.mem_of_getElem? hwj
    have hwx : ((wor op).map V.str)[jj]? = some (.str wd) := by rw [List.getElem?_map, hwj]; rfl
    have hW := hW.mp hB1 k3
    clear hB1 k3 k1 s2
    refine ⟨W, _, _, _, rfl, rfl, SqL.of hW.at_, atI_nat hwx, ?_⟩
    dsimp only [gName, List.set]
    -- n
    refine ⟨_, rfl, _, rfl, _, rfl, _, _, rfl, rfl, ⟨by decide, by decide, by decide⟩, (by show 2 ≤ sizeLine; decide), fun L nL => ?_⟩
    obtain ⟨nLp, nLg⟩ := hB3.ne nL
    generalize e_G4 : upd _ L _ = G4
    have s_L := new_same e_G4 nL
    have f_L := new_at e_G4
    clear e_G4
    have hB3 := hB3.mv s_L
    have hW := hW.mv s_L
    refine ⟨_, rfl, p, g, _, rfl, hB3, by decide, by decide, fun q G5 q0 q1 k5 hB5 => ?_⟩
    have e30 : (10 : Int) ^ Int.toNat 30 = G30 := by decide
    have hLm : ∃ m : Int, atI [V.int 6, V.int ((10 : Int) ^ Int.toNat 30)] q = some (.int m) ∧ 2 ≤ m ∧ m ≤ G30 := by
      obtain ⟨b, rfl⟩ : ∃ b : Bool, q = if b = true then (1 : Int) else 0 := by
        rcases (show q = 0 ∨ q = 1 by omega) with rfl | rfl
        · exact ⟨false, rfl⟩
        · exact ⟨true, rfl⟩
      refine ⟨_, at2i, ?_⟩
      rw [e30]
      cases b <;> decide
    obtain ⟨mm, hmm, m2, m30⟩ := hLm
    refine ⟨L, _, _, _, rfl, rfl, SqL.of (k5 _ _ nLp nLg f_L), hmm, p, g, op, wd, mm, rfl, hB5, hop, hwd, m2, m30, fun D G6 h t x y kk o N NO => ?_⟩
    have hW := hW.mp hB3 k5
    have hW := hW.mp hB5 N.kp
    have hg := nu_good hop hwd m30 NO
    have hD : DcP p g G6 D (nuN fun z => .int (n6 h t x y kk o z)) := by rw [nuN_n6]; exact N.dc
    have hB := N.po
    clear N NO hB3 hB5 k5 hmm m2 m30 f_L s_L nL nLp nLg
    revert hg hD
    generalize n6 h t x y kk o = nf
    intro hg hD
    have hnf : ∀ z ∈ nk, 0 ≤ nf z ∧ nf z ≤ G30 := made_le (d := fun z => .int (nf z)) hop hwd hg
    dsimp only [gName, List.set]
    -- good
    refine ⟨_, rfl, D, _, rfl, dg_nk (z := "home") (by decide) hD.at_, _, rfl, D, _, rfl, dg_nk (z := "to") (by decide) hD.at_, _, rfl, D, _, rfl, dg_nk (z := "x") (by decide) hD.at_, _, rfl, D, _, rfl, dg_nk (z := "y") (by decide) hD.at_, _, rfl, D, _, rfl, dg_nk (z := "k") (by decide) hD.at_, _, rfl, D, _, rfl, dg_nk (z := "other") (by decide) hD.at_, (by show 6 ≤ sizeLine; decide), fun L nL => ?_⟩
    generalize e_G7 : upd _ L _ = G7
    have s_L := new_same e_G7 nL
    have f_L := new_at e_G7
    clear e_G7
    have hB := hB.mv s_L
    have hW := hW.mv s_L
    have hD := hD.mv s_L
    have smI : ∀ z ∈ nk, Small (.int (nf z)) 0 1002 := fun z hz => by
      refine sc_small (m := 10 ^ 31) (by decide) ?_
      have := hnf z hz
      rw [g30] at this
      show (nf z).natAbs ≤ 10 ^ 31
      omega
    refine ⟨_, .list [.int (nf "home"), .int (nf "to"), .int (nf "x"), .int (nf "y"), .int (nf "k"), .int (nf "other")], rfl, .lst (SqL.of f_L) (.cons (.int _) (.cons (.int _) (.cons (.int _) (.cons (.int _) (.cons (.int _) (.cons (.int _) .nil)))))), ?_, (by show 2 ≤ sizeLine; decide), fun Gd nGd => ?_⟩
    · have sm : ∀ x ∈ [PyData.int (nf "home"), .int (nf "to"), .int (nf "x"), .int (nf "y"), .int (nf "k"), .int (nf "other")], Small x 0 1002 := by
        intro x hx
        simp only [List.mem_cons, List.not_mem_nil, or_false] at hx
        rcases hx with rfl | rfl | rfl | rfl | rfl | rfl <;> exact smI _ (by decide)
      exact (small_list (m := 6100) sm (by show 6 * (1002 + 2) + 2 ≤ 6100; decide)).mono (by decide) (by decide)
    generalize e_G8 : upd _ Gd _ = G8
    have s_Gd := new_same e_G8 nGd
    have f_Gd := new_at e_G8
    clear e_G8
    have hB := hB.mv s_Gd
    have hW := hW.mv s_Gd
    have hD := hD.mv s_Gd
    have hGd : TuP p g G8 Gd (wanV (wrong (okP op wd (fun z => PyData.int (nf z)))) (fun z => PyData.int (nf z))) := by
      rw [hg]
      exact ⟨f_Gd⟩
    have nua : ∀ {G : Hp}, DcP p g G D (nuN (fun z => V.int (nf z))) → NuA K G D (fun z => V.int (nf z)) (fun z => PyData.int (nf z)) := fun h => ⟨h.at_, fun z _ => .int _⟩
    clear f_Gd s_Gd nGd f_L s_L nL
    dsimp only [gName, List.set]
    refine ⟨_, rfl, _, rfl, _, rfl, ans_ok (E := E0) hop hwd (nua hD) fun P1 G9 s9 hP1 => ?_⟩
    have hB := hB.mv s9
    have hW := hW.mv s9
    have hD := hD.mv s9
    have hGd := hGd.mv s9
    refine ⟨_, rfl, wanD (wrong (okP op wd (fun z => PyData.int (nf z)))) (fun z => PyData.int (nf z)), wanD (wrong (okP op wd (fun z => PyData.int (nf z)))) (fun z => PyData.int (nf z)), wan_dp hP1, wan_dp hGd.at_, wan_sh, wan_sh, _, rfl, no (sh_eqv wan_sh) ?_⟩
    clear hP1 s9
    -- changed
    refine ⟨_, rfl, D, _, rfl, .inl hD.at_, fun C nC => ?_⟩
    obtain ⟨nCp, nCg⟩ := hB.ne nC
    have nDC : D ≠ C := ne_of_none hD.at_ nC
    generalize e_Ga : upd _ C _ = Ga
    have s_C := new_same e_Ga nC
    have f_C := new_at e_Ga
    clear e_Ga
    have hB := hB.mv s_C
    have hW := hW.mv s_C
    have hD := hD.mv s_C
    have hGd := hGd.mv s_C
    have hC : Chg p g Ga C (fun z => V.int (nf z)) (fun z => PyData.int (nf z)) := ⟨⟨nCp, nCg, f_C⟩, fun z hz => .int (by have := hnf z hz; rw [g30] at this; omega)⟩
    clear f_C s_C nC
    dsimp only [gName, List.set]
    refine seq_by (fun σ G => ∃ w9 w10 m e, σ = [some (.ref a), some (.ref p), some (.int (j : Int)), some (.str op), some (.ref W), some (.str wd), some (.ref D), some (.ref Gd), some (.ref C), w9, w10, w11, w12, w13, w14] ∧ Pool G p g ∧ LsP p g G W (wor op) ∧ DcP p g G D (nuN (fun z => V.int (nf z))) ∧ TuP p g G Gd (wanV (wrong (okP op wd (fun z => PyData.int (nf z)))) (fun z => PyData.int (nf z))) ∧ Chg p g G C m e) ?_ (fun nxt => ?_)
    rotate_left
    · refine ⟨(by show 6 ≤ sizeLine; decide), fun T nT => ?_⟩
      generalize e_Gb : upd _ T _ = Gb
      have s_T := new_same e_Gb nT
      have f_T := new_at e_Gb
      clear e_Gb
      have hB := hB.mv s_T
      have hW := hW.mv s_T
      have hD := hD.mv s_T
      have hGd := hGd.mv s_T
      have hC := hC.mv s_T
      have hT : TuP p g Gb T (nk.map V.str) := ⟨f_T⟩
      clear f_T s_T nT
      refine ⟨T, rfl, ⟨_, SqT.of hT.at_⟩, ?_⟩
      refine for_it (walk_tup (K := K) (a := T) (xs := nk.map V.str)) (fun i σ G => ∃ w9 w10 m e, σ = [some (.ref a), some (.ref p), some (.int (j : Int)), some (.str op), some (.ref W), some (.str wd), some (.ref D), some (.ref Gd), some (.ref C), w9, w10, w11, w12, w13, w14] ∧ Pool G p g ∧ LsP p g G W (wor op) ∧ DcP p g G D (nuN (fun z => V.int (nf z))) ∧ TuP p g G Gd (wanV (wrong (okP op wd (fun z => PyData.int (nf z)))) (fun z => PyData.int (nf z))) ∧ Chg p g G C m e ∧ TuP p g G T (nk.map V.str))
        ⟨_, _, _, _, rfl, hB, hW, hD, hGd, hC, hT⟩ (fun _ _ _ _ h => by obtain ⟨_, _, _, _, _, _, _, _, _, _, q⟩ := h; exact SqT.of q.at_) ?_ (fun σ G h => by obtain ⟨_, _, _, _, rfl, q1, q2, q3, q4, q5, _⟩ := h; exact nxt _ _ ⟨_, _, _, _, rfl, q1, q2, q3, q4, q5⟩)
      clear hB hW hD hGd hC hT nxt
      rintro i x σ G' G hi ⟨w9, w10, m, e, rfl, hB, hW, hD, hGd, hC, hT⟩ ⟨rfl, hx⟩
      obtain ⟨z, hz0, rfl⟩ := Option.map_eq_some_iff.mp ((List.getElem?_map ..).symm.trans hx)
      have hz : z ∈ nk := List.mem_of_getElem? hz0
      dsimp only [gName, List.set]
      refine ⟨_, rfl, p, g, _, rfl, hB, by decide, by decide, fun q G1 q0 q1 k1 hB1 => ⟨rfl, _, rfl, ?_⟩⟩
      have hW := hW.mp hB k1
      have hD := hD.mp hB k1
      have hGd := hGd.mp hB k1
      have hC := hC.mp hB k1
      have hT := hT.mp hB k1
      clear hB k1
      refine ite2' (fun _ => ?_) (fun _ => ?_)
      · refine ⟨_, rfl, _, rfl, D, _, rfl, dg_nk hz hD.at_, _, _, rfl, rfl, _, rfl, _, rfl, D, _, rfl, dg_nk hz hD.at_, _, _, rfl, rfl, _, rfl, D, _, rfl, dg_nk (z := "home") (by decide) hD.at_, _, rfl, D, _, rfl, dg_nk (z := "to") (by decide) hD.at_, _, _, rfl, rfl, _, rfl, D, _, rfl, dg_nk (z := "to") (by decide) hD.at_, _, _, rfl, rfl, _, rfl, D, _, rfl, dg_nk (z := "home") (by decide) hD.at_, _, _, rfl, rfl, _, rfl, (by show 10 ≤ sizeLine; decide), fun L1 nL1 => ?_⟩
        generalize e_G2 : upd _ L1 _ = G2
        have s_L1 := new_same e_G2 nL1
        have f_L1 := new_at e_G2
        clear e_G2
        have hB1 := hB1.mv s_L1
        have hW := hW.mv s_L1
        have hD := hD.mv s_L1
        have hGd := hGd.mv s_L1
        have hC := hC.mv s_L1
        have hT := hT.mv s_L1
        dsimp only [gName, List.set]
        refine ⟨_, rfl, _, _, rfl, rfl, ⟨by decide, by decide, by decide⟩, _, _, rfl, rfl, ⟨by decide, by decide, by decide⟩, _, _, rfl, rfl, (by show 1 ≤ sizeLine; decide), fun T1 nT1 => ?_⟩
        generalize e_G3 : upd _ T1 _ = G3
        have s_T1 := new_same e_G3 nT1
        have f_T1 := new_at e_G3
        clear e_G3
        have hB1 := hB1.mv s_T1
        have hW := hW.mv s_T1
        have hD := hD.mv s_T1
        have hGd := hGd.mv s_T1
        have hC := hC.mv s_T1
        have hT := hT.mv s_T1
        have f_L1 := f_L1.mv s_T1
        refine ⟨(by show 1 ≤ sizeLine; decide), fun L0 nL0 => ?_⟩
        obtain ⟨nL0p, nL0g⟩ := hB1.ne nL0
        generalize e_G4 : upd _ L0 _ = G4
        have s_L0 := new_same e_G4 nL0
        have f_L0 := new_at e_G4
        clear e_G4
        have hB1 := hB1.mv s_L0
        have hW := hW.mv s_L0
        have hD := hD.mv s_L0
        have hGd := hGd.mv s_L0
        have hC := hC.mv s_L0
        have hT := hT.mv s_L0
        have f_L1 := f_L1.mv s_L0
        have f_T1 := f_T1.mv s_L0
        refine ⟨(by show 8 ≤ sizeLine; decide), fun L2' nL2 => ?_⟩
        generalize e_G5 : upd _ L2' _ = G5
        have s_L2' := new_same e_G5 nL2
        have f_L2' := new_at e_G5
        clear e_G5
        have hB1 := hB1.mv s_L2'
        have hW := hW.mv s_L2'
        have hD := hD.mv s_L2'
        have hGd := hGd.mv s_L2'
        have hC := hC.mv s_L2'
        have hT := hT.mv s_L2'
        have f_L1 := f_L1.mv s_L2'
        have f_T1 := f_T1.mv s_L2'
        have f_L0 := f_L0.mv s_L2'
        refine ⟨L1, L2', _, _, rfl, rfl, f_L1, f_L2', (by show 10 + 8 ≤ sizeLine; decide), fun L3 nL3 => ?_⟩
        obtain ⟨nL3p, nL3g⟩ := hB1.ne nL3
        generalize e_G6 : upd _ L3 _ = G6
        have s_L3 := new_same e_G6 nL3
        have f_L3 := new_at e_G6
        clear e_G6
        have hB1 := hB1.mv s_L3
        have hW := hW.mv s_L3
        have hD := hD.mv s_L3
        have hGd := hGd.mv s_L3
        have hC := hC.mv s_L3
        have hT := hT.mv s_L3
        have f_T1 := f_T1.mv s_L3
        have f_L0 := f_L0.mv s_L3
        dsimp only [gName, List.set]
        refine ⟨_, rfl, _, rfl, _, rfl, L3, _, rfl, .inl (SqL.of f_L3), p, g, _, rfl, hB1, (by show (0 : Int) < 18; decide), (by show (18 : Int).natAbs < 2 ^ 200; decide), fun q G7 q0 q1 k7 hB7 => ?_⟩
        have hAll : ∀ x ∈ ([V.int (nf z - 1), V.int (nf z + 1), V.int (nf "home"), V.int (nf "to" + 1), V.int (nf "to" + 2), V.int (nf "home" + 1), V.int 0, V.int 1, V.int 2, V.int (-1)] ++ [V.int ((10 : Int) ^ Int.toNat 30), V.int ((10 : Int) ^ Int.toNat 30 + 1), V.bl true, V.bl false, V.non, V.str "1", V.ref T1, V.ref L0] : List V), ∃ dd, OdV p g G6 x dd := by
          have hz1 := hnf z hz
          have hz2 := hnf "home" (by decide)
          have hz3 := hnf "to" (by decide)
          rw [g30] at hz1 hz2 hz3
          have oi : ∀ i : Int, i.natAbs ≤ 10 ^ 32 → ∃ dd, OdV p g G6 (.int i) dd := fun i h => ⟨_, .int h⟩
          simp only [List.cons_append, List.nil_append, List.forall_mem_cons]
          refine ⟨oi _ (by omega), oi _ (by omega), oi _ (by omega), oi _ (by omega), oi _ (by omega), oi _ (by omega), oi _ (by decide), oi _ (by decide), oi _ (by decide), oi _ (by decide), oi _ (by rw [e30, g30]; decide), oi _ (by rw [e30, g30]; decide), ⟨_, .bool⟩, ⟨_, .bool⟩, ⟨_, .no⟩, ⟨_, .txt (by decide +kernel)⟩, ⟨.tuple [.int 1], .inr (.inl ⟨T1, .int 1, rfl, f_T1, rfl, el1⟩)⟩, ⟨.list [.int 0], .inr (.inr ⟨L0, .int 0, rfl, nL0p, nL0g, f_L0, rfl, el0⟩)⟩, fun _ h => nomatch h⟩
        obtain ⟨jq, rfl⟩ : ∃ jq : Nat, q = jq := ⟨q.toNat, by omega⟩
        have hjq : jq < 18 := by
          have : (jq : Int) < 18 := q1
          omega
        obtain ⟨xv, hxv⟩ : ∃ xv, ([V.int (nf z - 1), V.int (nf z + 1), V.int (nf "home"), V.int (nf "to" + 1), V.int (nf "to" + 2), V.int (nf "home" + 1), V.int 0, V.int 1, V.int 2, V.int (-1)] ++ [V.int ((10 : Int) ^ Int.toNat 30), V.int ((10 : Int) ^ Int.toNat 30 + 1), V.bl true, V.bl false, V.non, V.str "1", V.ref T1, V.ref L0] : List V)[jq]? = some xv := ⟨_, List.getElem?_eq_getElem hjq⟩
        obtain ⟨dd, hod⟩ := hAll xv (List.mem_of_getElem? hxv)
        have f_L3 := k7 _ _ nL3p nL3g f_L3
        have hW := hW.mp hB1 k7
        have hD := hD.mp hB1 k7
        have hGd := hGd.mp hB1 k7
        have hC := hC.mp hB1 k7
        have hT := hT.mp hB1 k7
        have hod := hod.mp hB1 k7
        refine ⟨L3, _, _, _, rfl, rfl, SqL.of f_L3, atI_nat hxv, _, rfl, _, rfl, C, _, rfl, dp_nk hz hC.dc.at_, ?_⟩
        have hcc := hC.dc.at_
        exact ⟨_, _, _, _, rfl, pool_off hB7 hcc nofun, hW.off hcc, hD.off nDC, hGd.off hcc, hC.put hod, hT.off hcc⟩
      · exact ⟨_, _, _, _, rfl, hB1, hW, hD, hGd, hC, hT⟩
    clear hB hW hD hGd hC
    rintro σ G ⟨w9, w10, m, e, rfl, hB, hW, hD, hGd, hC⟩
    -- wrong
    refine ⟨_, rfl, _, rfl, _, rfl, op, wd, C, m, e, rfl, hC.nua, fun G1 s1 => ?_⟩
    rw [← ok_eq hop hwd]
    have hB := hB.mv s1
    have hW := hW.mv s1
    have hD := hD.mv s1
    have hGd := hGd.mv s1
    have hC := hC.mv s1
    clear s1
    dsimp only [gName, List.set]
    -- wanted
    refine ⟨_, rfl, (by show 3 ≤ sizeLine; decide), fun T nT => ?_⟩
    generalize e_G2 : upd _ T _ = G2
    have s_T := new_same e_G2 nT
    have f_T := new_at e_G2
    clear e_G2
    have hB := hB.mv s_T
    have hW := hW.mv s_T
    have hD := hD.mv s_T
    have hGd := hGd.mv s_T
    have hC := hC.mv s_T
    dsimp only [gName, List.set]
    refine seq_by (fun σ G => ∃ Wt w13, σ = [some (.ref a), some (.ref p), some (.int (j : Int)), some (.str op), some (.ref W), some (.str wd), some (.ref D), some (.ref Gd), some (.ref C), w9, w10, some (nmV (wrong (okP op wd e))), some (.ref Wt), w13, w14] ∧ Pool G p g ∧ LsP p g G W (wor op) ∧ DcP p g G D (nuN (fun z => V.int (nf z))) ∧ TuP p g G Gd (wanV (wrong (okP op wd (fun z => PyData.int (nf z)))) (fun z => PyData.int (nf z))) ∧ Chg p g G C m e ∧ TuP p g G Wt (wanV (wrong (okP op wd e)) e)) ?_ (fun nxt => ?_)
    rotate_left
    · cases hw : wrong (okP op wd e) with
      | some z =>
        refine ⟨_, rfl, rfl, _, rfl, no (by rfl) ?_⟩
        rw [hw] at f_T nxt
        exact nxt _ _ ⟨T, _, rfl, hB, hW, hD, hGd, hC, ⟨f_T⟩⟩
      | none =>
        refine ⟨_, rfl, rfl, _, rfl, yes (by rfl) ?_⟩
        have di := ok_int6 hw
        have dle := made_le hop hwd hw
        refine ⟨_, rfl, C, _, rfl, dg_nk (z := "home") (by decide) hC.dc.at_, _, rfl, C, _, rfl, dg_nk (z := "to") (by decide) hC.dc.at_, _, rfl, C, _, rfl, dg_nk (z := "x") (by decide) hC.dc.at_, _, rfl, C, _, rfl, dg_nk (z := "y") (by decide) hC.dc.at_, _, rfl, C, _, rfl, dg_nk (z := "k") (by decide) hC.dc.at_, _, rfl, C, _, rfl, dg_nk (z := "other") (by decide) hC.dc.at_, (by show 6 ≤ sizeLine; decide), fun L nL => ?_⟩
        generalize e_G3 : upd _ L _ = G3
        have s_L := new_same e_G3 nL
        have f_L := new_at e_G3
        clear e_G3
        have hB := hB.mv s_L
        have hW := hW.mv s_L
        have hD := hD.mv s_L
        have hGd := hGd.mv s_L
        have hC := hC.mv s_L
        dsimp only [gName, List.set]
        refine ⟨_, rfl, _, .list [e "home", e "to", e "x", e "y", e "k", e "other"], rfl, .lst (SqL.of f_L) (.cons (hC.od _ (by decide)).dp (.cons (hC.od _ (by decide)).dp (.cons (hC.od _ (by decide)).dp (.cons (hC.od _ (by decide)).dp (.cons (hC.od _ (by decide)).dp (.cons (hC.od _ (by decide)).dp .nil)))))), ?_, (by show 2 ≤ sizeLine; decide), fun Wt nWt => ?_⟩
        · have one : ∀ z ∈ nk, Small (e z) 0 1002 := fun z hz => by
            rw [di z hz]
            refine sc_small (m := 10 ^ 31) (by decide) ?_
            have := dle z hz
            rw [g30] at this
            show (iv (e z)).natAbs ≤ 10 ^ 31
            omega
          have sm : ∀ x ∈ [e "home", e "to", e "x", e "y", e "k", e "other"], Small x 0 1002 := by
            intro x hx
            simp only [List.mem_cons, List.not_mem_nil, or_false] at hx
            rcases hx with rfl | rfl | rfl | rfl | rfl | rfl <;> exact one _ (by decide)
          exact (small_list (m := 6100) sm (by show 6 * (1002 + 2) + 2 ≤ 6100; decide)).mono (by decide) (by decide)
        · skip
          generalize e_G4 : upd _ Wt _ = G4
          have s_Wt := new_same e_G4 nWt
          have f_Wt := new_at e_G4
          clear e_G4
          have hB := hB.mv s_Wt
          have hW := hW.mv s_Wt
          have hD := hD.mv s_Wt
          have hGd := hGd.mv s_Wt
          have hC := hC.mv s_Wt
          rw [hw] at nxt
          exact nxt _ _ ⟨Wt, _, rfl, hB, hW, hD, hGd, hC, ⟨f_Wt⟩⟩
    clear hB hW hD hGd hC f_T s_T nT T w13
    rintro σ G ⟨Wt, w13, rfl, hB, hW, hD, hGd, hC, hWt⟩
    -- the two answers
    refine ⟨_, rfl, _, rfl, _, rfl, ans_ok (E := E0) hop hwd hC.nua fun P1 G3 s3 hP1 => ?_⟩
    have hB := hB.mv s3
    have hW := hW.mv s3
    have hD := hD.mv s3
    have hGd := hGd.mv s3
    have hC := hC.mv s3
    have hWt := hWt.mv s3
    refine ⟨_, rfl, wanD (wrong (okP op wd e)) e, wanD (wrong (okP op wd e)) e, wan_dp hP1, wan_dp hWt.at_, wan_sh, wan_sh, _, rfl, no (sh_eqv wan_sh) ?_⟩
    clear hP1 s3
    refine ⟨_, rfl, _, rfl, _, rfl, ans_ok (E := E0) hop hwd (nua hD) fun P1 G4 s4 hP1 => ?_⟩
    have hB := hB.mv s4
    have hW := hW.mv s4
    have hD := hD.mv s4
    have hGd := hGd.mv s4
    have hC := hC.mv s4
    have hWt := hWt.mv s4
    refine ⟨_, rfl, wanD (wrong (okP op wd (fun z => PyData.int (nf z)))) (fun z => PyData.int (nf z)), wanD (wrong (okP op wd (fun z => PyData.int (nf z)))) (fun z => PyData.int (nf z)), wan_dp hP1, wan_dp hGd.at_, wan_sh, wan_sh, _, rfl, no (sh_eqv wan_sh) ?_⟩
    clear hP1 s4 hD hGd hWt
    obtain ⟨wwd, wsh, osh, wop, _⟩ := wd_in op hop wd hwd
    -- an odd world
    refine ⟨_, rfl, (by show 1 ≤ sizeLine; decide), fun T1 nT1 => ?_⟩
    generalize e_G5 : upd _ T1 _ = G5
    have s_T1 := new_same e_G5 nT1
    have f_T1 := new_at e_G5
    clear e_G5
    have hB := hB.mv s_T1
    have hW := hW.mv s_T1
    have hC := hC.mv s_T1
    refine ⟨_, rfl, (by show 1 ≤ sizeLine; decide), fun L1 nL1 => ?_⟩
    obtain ⟨nL1p, nL1g⟩ := hB.ne nL1
    generalize e_G6 : upd _ L1 _ = G6
    have s_L1 := new_same e_G6 nL1
    have f_L1 := new_at e_G6
    clear e_G6
    have hB := hB.mv s_L1
    have hW := hW.mv s_L1
    have hC := hC.mv s_L1
    have f_T1 := f_T1.mv s_L1
    refine ⟨(by show 12 ≤ sizeLine; decide), fun O1 nO1 => ?_⟩
    obtain ⟨nO1p, nO1g⟩ := hB.ne nO1
    generalize e_G7 : upd _ O1 _ = G7
    have s_O1 := new_same e_G7 nO1
    have f_O1 := new_at e_G7
    clear e_G7
    have hB := hB.mv s_O1
    have hW := hW.mv s_O1
    have hC := hC.mv s_O1
    have f_T1 := f_T1.mv s_O1
    have f_L1 := f_L1.mv s_O1
    dsimp only [gName, List.set]
    refine ⟨_, rfl, _, rfl, p, g, _, rfl, hB, by decide, by decide, fun q G8 q0 q1 k8 hB8 => ?_⟩
    have hAll : ∀ x ∈ ([V.non, V.int 0, V.str "", V.str "Alone", V.str "a", V.ref T1, V.ref L1, V.bl true, V.str "alone", V.str "apart", V.str "within", V.str "itself"] : List V), ∃ dd, OdV p g G7 x dd := by
      simp only [List.forall_mem_cons]
      exact ⟨⟨_, .no⟩, ⟨_, .int (by decide)⟩, ⟨_, .txt (by decide +kernel)⟩, ⟨_, .txt (by decide +kernel)⟩, ⟨_, .txt (by decide +kernel)⟩, ⟨.tuple [.str wd], .inr (.inl ⟨T1, .str wd, rfl, f_T1, rfl, elw wwd⟩)⟩, ⟨.list [.str wd], .inr (.inr ⟨L1, .str wd, rfl, nL1p, nL1g, f_L1, rfl, elw wwd⟩)⟩, ⟨_, .bool⟩, ⟨_, .txt (by decide +kernel)⟩, ⟨_, .txt (by decide +kernel)⟩, ⟨_, .txt (by decide +kernel)⟩, ⟨_, .txt (by decide +kernel)⟩, fun _ h => nomatch h⟩
    obtain ⟨jq, rfl⟩ : ∃ jq : Nat, q = jq := ⟨q.toNat, by omega⟩
    have hjq : jq < 12 := by
      have : (jq : Int) < 12 := q1
      omega
    obtain ⟨v, hxv⟩ : ∃ xv, ([V.non, V.int 0, V.str "", V.str "Alone", V.str "a", V.ref T1, V.ref L1, V.bl true, V.str "alone", V.str "apart", V.str "within", V.str "itself"] : List V)[jq]? = some xv := ⟨_, List.getElem?_eq_getElem hjq⟩
    obtain ⟨d, hod⟩ := hAll v (List.mem_of_getElem? hxv)
    have f_O1 := k8 _ _ nO1p nO1g f_O1
    have hW := hW.mp hB k8
    have hC := hC.mp hB k8
    have hod := hod.mp hB k8
    refine ⟨O1, _, _, _, rfl, rfl, SqL.of f_O1, atI_nat hxv, ?_⟩
    dsimp only [gName, List.set]
    clear hAll hxv f_O1 k8 hB f_T1 s_T1 nT1 f_L1 s_L1 nL1 s_O1 nO1 nL1p nL1g nO1p nO1g hjq q0 q1 jq
    refine seq_by (fun σ G => σ = [some (.ref a), some (.ref p), some (.int (j : Int)), some (.str op), some (.ref W), some (.str wd), some (.ref D), some (.ref Gd), some (.ref C), w9, w10, some (nmV (wrong (okP op wd e))), some (.ref Wt), w13, some v] ∧ Pool G p g ∧ Chg p g G C m e) ?_ (fun nxt => ?_)
    rotate_left
    · refine odd_it rfl rfl hod.dp (SqL.of hW.at_) ?_
      refine ite2' (fun c => ?_) (fun _ => nxt _ _ ⟨rfl, hB8, hC⟩)
      have hi : inS (wor op) d = false := (Bool.not_eq_true' _).mp c
      have nbad : ∀ {A : Prop} (wd2 : Str), wd2 ∈ wor op → d = .str wd2 → A := fun wd2 h2 ed => by
        rw [ed, inS_str, decide_eq_true h2] at hi
        cases hi
      refine ⟨_, rfl, _, rfl, _, rfl, .str op, v, C, m, .str op, d, e, rfl, ⟨hC.nua, .str _, osh, w_small wop, hod.dp, hod.shaped, hod.small⟩, (fun h => by rw [inS_str, decide_eq_true hop] at h; cases h), (fun op2 h2 e2 _ P1 G9 s9 hP1 => ?_), (fun op2 h2 e2 wd2 h3 e3 z _ => by injection e2 with e2; subst e2; exact nbad wd2 h3 e3), (fun op2 h2 e2 wd2 h3 e3 _ => by injection e2 with e2; subst e2; exact nbad wd2 h3 e3)⟩
      have hB8 := hB8.mv s9
      have hW := hW.mv s9
      have hC := hC.mv s9
      have hod := hod.mv s9
      refine ⟨_, rfl, v, d, rfl, hod.dp, hod.small.mono (by decide) (by decide), (by show 3 ≤ sizeLine; decide), fun W2 nW2 => ?_⟩
      generalize e_Ga1 : upd _ W2 _ = Ga1
      have s_W2 := new_same e_Ga1 nW2
      have f_W2 := new_at e_Ga1
      clear e_Ga1
      have hB8 := hB8.mv s_W2
      have hC := hC.mv s_W2
      have hod := hod.mv s_W2
      have hP1 := hP1.mv s_W2
      exact ⟨_, _, t3_dp hP1, t3_dp f_W2, t3_sh ok_w.2.2.1 hod.text, t3_sh ok_w.2.2.1 hod.text, _, rfl, no (sh_eqv (t3_sh ok_w.2.2.1 hod.text)) (nxt _ _ ⟨rfl, hB8, hC⟩)⟩
    clear hB8 hC hW hod
    rintro σ G ⟨rfl, hB, hC⟩
    -- an odd operation
    obtain ⟨os1, os2, os3⟩ := op_s op hop
    refine ⟨_, rfl, op, "s", rfl, rfl, (by rw [sizeLine_eq]; show op.length + 1 ≤ _; omega), ?_⟩
    refine ⟨_, rfl, (by show 1 ≤ sizeLine; decide), fun T2 nT2 => ?_⟩
    generalize e_Gb1 : upd _ T2 _ = Gb1
    have s_T2 := new_same e_Gb1 nT2
    have f_T2 := new_at e_Gb1
    clear e_Gb1
    have hB := hB.mv s_T2
    have hC := hC.mv s_T2
    refine ⟨_, rfl, (by show 1 ≤ sizeLine; decide), fun M2 nM2 => ?_⟩
    obtain ⟨nM2p, nM2g⟩ := hB.ne nM2
    generalize e_Gb2 : upd _ M2 _ = Gb2
    have s_M2 := new_same e_Gb2 nM2
    have f_M2 := new_at e_Gb2
    clear e_Gb2
    have hB := hB.mv s_M2
    have hC := hC.mv s_M2
    have f_T2 := f_T2.mv s_M2
    refine ⟨(by show 8 ≤ sizeLine; decide), fun O2 nO2 => ?_⟩
    obtain ⟨nO2p, nO2g⟩ := hB.ne nO2
    generalize e_Gb3 : upd _ O2 _ = Gb3
    have s_O2 := new_same e_Gb3 nO2
    have f_O2 := new_at e_Gb3
    clear e_Gb3
    have hB := hB.mv s_O2
    have hC := hC.mv s_O2
    have f_T2 := f_T2.mv s_O2
    have f_M2 := f_M2.mv s_O2
    refine ⟨_, rfl, p, g, _, rfl, hB, by decide, by decide, fun q G8 q0 q1 k8 hB8 => ?_⟩
    have hAll : ∀ x ∈ ([V.non, V.int 1, V.str "", V.str "Put", V.str (op ++ "s"), V.ref T2, V.ref M2, V.bl true] : List V), ∃ dd, OdV p g Gb3 x dd ∧ inS ops dd = false := by
      simp only [List.forall_mem_cons]
      exact ⟨⟨_, .no, by decide +kernel⟩, ⟨_, .int (by decide), by decide +kernel⟩, ⟨_, .txt (by decide +kernel), by decide +kernel⟩, ⟨_, .txt (by decide +kernel), by decide +kernel⟩, ⟨_, .txt os1, os2⟩, ⟨.tuple [.str op], .inr (.inl ⟨T2, .str op, rfl, f_T2, rfl, elw wop⟩), no_str rfl⟩, ⟨.list [.str op], .inr (.inr ⟨M2, .str op, rfl, nM2p, nM2g, f_M2, rfl, elw wop⟩), no_str rfl⟩, ⟨_, .bool, by decide +kernel⟩, fun _ h => nomatch h⟩
    obtain ⟨jq, rfl⟩ : ∃ jq : Nat, q = jq := ⟨q.toNat, by omega⟩
    have hjq : jq < 8 := by
      have : (jq : Int) < 8 := q1
      omega
    obtain ⟨u, hxv⟩ : ∃ xv, ([V.non, V.int 1, V.str "", V.str "Put", V.str (op ++ "s"), V.ref T2, V.ref M2, V.bl true] : List V)[jq]? = some xv := ⟨_, List.getElem?_eq_getElem hjq⟩
    obtain ⟨d2, hod, hno⟩ := hAll u (List.mem_of_getElem? hxv)
    have f_O2 := k8 _ _ nO2p nO2g f_O2
    have hC := hC.mp hB k8
    have hod := hod.mp hB k8
    refine ⟨O2, _, _, _, rfl, rfl, SqL.of f_O2, atI_nat hxv, ?_⟩
    dsimp only [gName, List.set]
    have nbad : ∀ {A : Prop} (op2 : Str), op2 ∈ ops → d2 = .str op2 → A := fun op2 h2 ed => by
      rw [ed, inS_str, decide_eq_true h2] at hno
      cases hno
    refine ⟨_, rfl, _, rfl, _, rfl, u, .str wd, C, m, d2, .str wd, e, rfl, ⟨hC.nua, hod.dp, hod.shaped, hod.small, .str _, wsh, w_small wwd⟩, (fun _ P1 G9 s9 hP1 => ?_), (fun op2 h2 e2 _ => nbad op2 h2 e2), (fun op2 h2 e2 _ _ _ _ _ => nbad op2 h2 e2), (fun op2 h2 e2 _ _ _ _ => nbad op2 h2 e2)⟩
    have hB8 := hB8.mv s9
    have hC := hC.mv s9
    have hod := hod.mv s9
    refine ⟨_, rfl, u, d2, rfl, hod.dp, hod.small.mono (by decide) (by decide), (by show 3 ≤ sizeLine; decide), fun W2 nW2 => ?_⟩
    generalize e_Ga1 : upd _ W2 _ = Ga1
    have s_W2 := new_same e_Ga1 nW2
    have f_W2 := new_at e_Ga1
    clear e_Ga1
    have hB8 := hB8.mv s_W2
    have hC := hC.mv s_W2
    have hod := hod.mv s_W2
    have hP1 := hP1.mv s_W2
    refine ⟨_, _, t3_dp hP1, t3_dp f_W2, t3_sh ok_w.2.2.2 hod.text, t3_sh ok_w.2.2.2 hod.text, _, rfl, no (sh_eqv (t3_sh ok_w.2.2.2 hod.text)) ?_⟩
    refine ⟨_, rfl, u, d2, rfl, hod.dp, hod.shaped, hod.small, hno, fun Gz sz => ⟨_, rfl, no rfl ?_⟩⟩
    exact ⟨_, _, _, _, _, _, _, _, _, _, _, _, _, rfl, hB8.mv sz⟩
end
end K24

set_option Elab.async false
set_option maxRecDepth 100000
set_option maxHeartbeats 0
namespace K24
open PySem PySem.Spec PyProof.Rows L2 He KX
structure Fs (K : PySem.W.Frag) : Prop where
  scn : ScnK K
  fre : ∀ x ∈ frees, (Fa.free x).ok K = true
  glo : ∀ x ∈ gls, (Fa.glo x).ok K = true
  bo : ErBO K
  bw : ErBW K
  bn : ErBN K
  tO : tupB K (ga K "OPERATIONS") ops = true
  tN : tupB K (ga K "NEW") ["put", "add"] = true
  tT : tupB K (ga K "TWO_LISTS") ["move", "send", "swap"] = true
  gr : (Fa.int "GREATEST" (10 ^ 30)).ok K = true
  ar : ∀ o ∈ args, argB K o = true
theorem ba9 {a b : Bool} (h : (a && b) = true) : a = true ∧ b = true := Bool.and_eq_true_iff.mp h
theorem vals_app {xs ys : List V} {us ws : List Value} (h : Vals xs us) (k : Vals ys ws) : Vals (xs ++ ys) (us ++ ws) := by
  induction h with
  | nil => exact k
  | cons r _ ih => exact .cons r ih
theorem ops_args : ∀ z ∈ ops, ∃ o ∈ args, o.1 = z := by decide +kernel
theorem arg_of {K : PySem.W.Frag} {w : World} (c : SaysD chk fn dics w K) (ar : ∀ o ∈ args, argB K o = true) : ∀ z ∈ ops, ∃ v, KDct K w (ga K "ARGUMENTS") z v := fun z hz => by
  obtain ⟨es, n, h1, h2, _⟩ := c.dic 0 (d := ("ARGUMENTS", ops)) rfl
  obtain ⟨o, ho, rfl⟩ := ops_args z hz
  have h3 := ar o ho
  unfold argB at h3
  cases e : PySem.W.nsIn K (ga K "ARGUMENTS") o.1 with
  | none => rw [e] at h3; cases h3
  | some r =>
    cases r with
    | none => rw [e] at h3; cases h3
    | some u =>
      cases u with
      | ref a => exact ⟨.ref a, es, n, .ref a, h1, h2, e, rfl⟩
      | _ => rw [e] at h3; cases h3
theorem scn_of {K : PySem.W.Frag} (h : scnB K = true) : ScnK K := by
  unfold scnB at h
  obtain ⟨h1, h⟩ := ba9 h
  obtain ⟨h2, h3⟩ := ba9 h
  exact ⟨mkr_ok h1, cls_ok h2, fun f hf => noat_ok (List.all_eq_true.mp h3 f hf)⟩
theorem facts_of {K : PySem.W.Frag} (h : chk K = true) : Fs K := by
  unfold chk errB conB at h
  obtain ⟨h1, h⟩ := ba9 h
  obtain ⟨_, h⟩ := ba9 h
  obtain ⟨h2, h⟩ := ba9 h
  obtain ⟨h3, h⟩ := ba9 h
  obtain ⟨h4, h5⟩ := ba9 h
  obtain ⟨e1, e⟩ := ba9 h1
  obtain ⟨e2, e3⟩ := ba9 e
  obtain ⟨t1, t⟩ := ba9 h3
  obtain ⟨t2, t⟩ := ba9 t
  obtain ⟨t3, t⟩ := ba9 t
  obtain ⟨t4, t5⟩ := ba9 t
  exact ⟨scn_of h2, List.all_eq_true.mp h4, List.all_eq_true.mp h5, er_of e1, er_of e2, er_of e3, t1, t2, t3, t4, List.all_eq_true.mp t5⟩
theorem all_ok {P : Program} {w : World} {K : PySem.W.Frag} {h : Heap} {mg : Str → Option Value} {f : Addr} (X : K.In h) (G : h.Ns mainGlobals mg) (hfa : mg ("law" : Str) = some (.ref f)) (c : SaysD chk fn dics w K) :
    ∃ fd : FuncData, (∀ (s : Shared) (u : Value), BindsTo s fd ⟨[u], []⟩ [("script", u)]) ∧ ∀ base : Heap, K.In base → base.Ns mainGlobals mg → FnG P w K mg base CX0 8 f fd ["script"] (spLaw K) := by
  have cx := c.1
  have S := facts_of cx.1
  have g : ∀ x ∈ gls, mg x = some (.ref (ga K x)) := fun x hx => glo_ok X G (S.glo x hx)
  have fr : ∀ x ∈ frees, mg x = none := fun x hx => free_ok X G (S.fre x hx)
  obtain ⟨fd5, F5⟩ := cx.fd 5
  replace F5 : FnP K "is_integer" sInt (ga K "is_integer") fd5 := F5
  obtain ⟨fd6, F6⟩ := cx.fd 6
  replace F6 : FnP K "arguments_of" sArg (ga K "arguments_of") fd6 := F6
  obtain ⟨fd8, F8⟩ := cx.fd 8
  replace F8 : FnP K "worlds_of" sWor (ga K "worlds_of") fd8 := F8
  obtain ⟨fd9, F9⟩ := cx.fd 9
  replace F9 : FnP K "_fits" sFit (ga K "_fits") fd9 := F9
  obtain ⟨fd10, F10⟩ := cx.fd 10
  replace F10 : FnP K "_limits" sLim (ga K "_limits") fd10 := F10
  obtain ⟨fd11, F11⟩ := cx.fd 11
  replace F11 : FnP K "_limits_of_y" sLiY (ga K "_limits_of_y") fd11 := F11
  obtain ⟨fd12, F12⟩ := cx.fd 12
  replace F12 : FnP K "_limits_of_k" sLiK (ga K "_limits_of_k") fd12 := F12
  obtain ⟨fd13, F13⟩ := cx.fd 13
  replace F13 : FnP K "_law_pool" sLPool (ga K "_law_pool") fd13 := F13
  obtain ⟨fd14, F14⟩ := cx.fd 14
  replace F14 : FnP K "_law_draw" sLDraw (ga K "_law_draw") fd14 := F14
  obtain ⟨fd15, F15⟩ := cx.fd 15
  replace F15 : FnP K "_law_op" sLOp (ga K "_law_op") fd15 := F15
  obtain ⟨fd16, F16⟩ := cx.fd 16
  replace F16 : FnP K "_law_worlds" sLWo (ga K "_law_worlds") fd16 := F16
  obtain ⟨fd18, F18⟩ := cx.fd 18
  replace F18 : FnP K "_law_upto" sLUp (ga K "_law_upto") fd18 := F18
  obtain ⟨fd19, F19⟩ := cx.fd 19
  replace F19 : FnP K "_law_numbers" sLNu (ga K "_law_numbers") fd19 := F19
  obtain ⟨fd20, F20⟩ := cx.fd 20
  replace F20 : FnP K "_law_in" sLIn (ga K "_law_in") fd20 := F20
  obtain ⟨fd21, F21⟩ := cx.fd 21
  replace F21 : FnP K "_law_first_wrong" sLFw (ga K "_law_first_wrong") fd21 := F21
  obtain ⟨fd22, F22⟩ := cx.fd 22
  replace F22 : FnP K "_law_answer" sLAns (ga K "_law_answer") fd22 := F22
  obtain ⟨fd23, F23⟩ := cx.fd 23
  replace F23 : FnP K "_law_worlds_answer" sLWa (ga K "_law_worlds_answer") fd23 := F23
  obtain ⟨fd24, F24⟩ := cx.fd 24
  replace F24 : FnP K "law" sLaw (ga K "law") fd24 := F24
  obtain ⟨fd0, F0⟩ := cx.fd 0
  replace F0 : FunD K "__init__" (("BadOperation" : Str) ++ ".__init__") (defArgs sBOI) (defBody sBOI) (defScope sBOI) [] [] (ma K (ga K "BadOperation") "__init__") fd0 := F0
  rw [(by decide +kernel : (("BadOperation" : Str) ++ ".__init__" : Str) = "BadOperation.__init__")] at F0
  obtain ⟨fd1, F1⟩ := cx.fd 1
  replace F1 : FunD K "__init__" (("BadWorld" : Str) ++ ".__init__") (defArgs sBWI) (defBody sBWI) (defScope sBWI) [] [] (ma K (ga K "BadWorld") "__init__") fd1 := F1
  rw [(by decide +kernel : (("BadWorld" : Str) ++ ".__init__" : Str) = "BadWorld.__init__")] at F1
  obtain ⟨fd2, F2⟩ := cx.fd 2
  replace F2 : FunD K "__init__" (("BadNumber" : Str) ++ ".__init__") (defArgs sBNI) (defBody sBNI) (defScope sBNI) [] [] (ma K (ga K "BadNumber") "__init__") fd2 := F2
  rw [(by decide +kernel : (("BadNumber" : Str) ++ ".__init__" : Str) = "BadNumber.__init__")] at F2
  have e := hfa.symm.trans (g "law" (by decide))
  cases e
  refine ⟨fd24, fun s u => FunD.bindsA (ps := ["script"]) F24 (fun _ _ _ _ _ _ us hl => match us, hl with | [_], _ => rfl) s [u] rfl, fun base _ _ => ?_⟩
  have n_isinstance := fr "isinstance" (by decide)
  have n_int := fr "int" (by decide)
  have n_bool := fr "bool" (by decide)
  have n_str := fr "str" (by decide)
  have n_len := fr "len" (by decide)
  have n_dict := fr "dict" (by decide)
  have n_abs := fr "abs" (by decide)
  have n_min := fr "min" (by decide)
  have n_max := fr "max" (by decide)
  have n_repr := fr "repr" (by decide)
  have n_range := fr "range" (by decide)
  have n_ValueError := fr "ValueError" (by decide)
  have b5 : Binds K fd5 ["thing"] [] := F5.bindsN fun _ _ _ _ _ _ us hl => match us, hl with | [_], _ => rfl
  have b6 : Binds K fd6 ["op"] [] := F6.bindsN fun _ _ _ _ _ _ us hl => match us, hl with | [_], _ => rfl
  have b8 : Binds K fd8 ["op"] [] := F8.bindsN fun _ _ _ _ _ _ us hl => match us, hl with | [_], _ => rfl
  have b9 : Binds K fd9 ["name", "worth", "op", "world", "home", "to", "x"] [] := F9.bindsN fun _ _ _ _ _ _ us hl => match us, hl with | [_, _, _, _, _, _, _], _ => rfl
  have b10 : Binds K fd10 ["name", "op", "world", "home", "to"] [] := F10.bindsN fun _ _ _ _ _ _ us hl => match us, hl with | [_, _, _, _, _], _ => rfl
  have b11 : Binds K fd11 ["op", "world", "home", "to"] [] := F11.bindsN fun _ _ _ _ _ _ us hl => match us, hl with | [_, _, _, _], _ => rfl
  have b12 : Binds K fd12 ["op", "world", "home", "to"] [] := F12.bindsN fun _ _ _ _ _ _ us hl => match us, hl with | [_, _, _, _], _ => rfl
  have b13 : Binds K fd13 ["script"] [] := F13.bindsN fun _ _ _ _ _ _ us hl => match us, hl with | [_], _ => rfl
  have b14 : Binds K fd14 ["pool", "limit"] [] := F14.bindsN fun _ _ _ _ _ _ us hl => match us, hl with | [_, _], _ => rfl
  have b15 : Binds K fd15 ["pool"] [] := F15.bindsN fun _ _ _ _ _ _ us hl => match us, hl with | [_], _ => rfl
  have b16 : Binds K fd16 ["op"] [] := F16.bindsN fun _ _ _ _ _ _ us hl => match us, hl with | [_], _ => rfl
  have b18 : Binds K fd18 ["pool", "low", "high"] [] := F18.bindsN fun _ _ _ _ _ _ us hl => match us, hl with | [_, _, _], _ => rfl
  have b19 : Binds K fd19 ["pool", "op", "world", "most"] [] := F19.bindsN fun _ _ _ _ _ _ us hl => match us, hl with | [_, _, _, _], _ => rfl
  have b20 : Binds K fd20 ["thing", "low", "high"] [] := F20.bindsN fun _ _ _ _ _ _ us hl => match us, hl with | [_, _, _], _ => rfl
  have b21 : Binds K fd21 ["op", "world", "n"] [] := F21.bindsN fun _ _ _ _ _ _ us hl => match us, hl with | [_, _, _], _ => rfl
  have b22 : Binds K fd22 ["op", "world", "n"] [] := F22.bindsN fun _ _ _ _ _ _ us hl => match us, hl with | [_, _, _], _ => rfl
  have b23 : Binds K fd23 ["thing"] [] := F23.bindsN fun _ _ _ _ _ _ us hl => match us, hl with | [_], _ => rfl
  have b24 : Binds K fd24 ["script"] [] := F24.bindsN fun _ _ _ _ _ _ us hl => match us, hl with | [_], _ => rfl
  have b0 : Binds K fd0 ["self", "op"] [] := F0.bindsN fun _ _ _ _ _ _ us hl => match us, hl with | [_, _], _ => rfl
  have b1 : Binds K fd1 ["self", "world"] [] := F1.bindsN fun _ _ _ _ _ _ us hl => match us, hl with | [_, _], _ => rfl
  have b2 : Binds K fd2 ["self", "name"] [] := F2.bindsN fun _ _ _ _ _ _ us hl => match us, hl with | [_, _], _ => rfl
  have g5 := g "is_integer" (by decide)
  have g6 := g "arguments_of" (by decide)
  have g8 := g "worlds_of" (by decide)
  have g9 := g "_fits" (by decide)
  have g10 := g "_limits" (by decide)
  have g11 := g "_limits_of_y" (by decide)
  have g12 := g "_limits_of_k" (by decide)
  have g13 := g "_law_pool" (by decide)
  have g14 := g "_law_draw" (by decide)
  have g15 := g "_law_op" (by decide)
  have g16 := g "_law_worlds" (by decide)
  have g18 := g "_law_upto" (by decide)
  have g19 := g "_law_numbers" (by decide)
  have g20 := g "_law_in" (by decide)
  have g21 := g "_law_first_wrong" (by decide)
  have g22 := g "_law_answer" (by decide)
  have g23 := g "_law_worlds_answer" (by decide)
  have g24 := g "law" (by decide)
  have gBO := g "BadOperation" (by decide)
  have gBW := g "BadWorld" (by decide)
  have gBN := g "BadNumber" (by decide)
  have gPE := g "PlaceError" (by decide)
  have gSc := g "Scene" (by decide)
  have gOPS := g "OPERATIONS" (by decide)
  have gARG := g "ARGUMENTS" (by decide)
  have gNEW := g "NEW" (by decide)
  have gTWO := g "TWO_LISTS" (by decide)
  obtain ⟨t30, gGR⟩ : ∃ t, mg "GREATEST" = some (.int G30 t) := He.int_ok X G S.gr
  have hA : ∀ z ∈ ops, ∃ v, KDct K w (ga K "ARGUMENTS") z v := arg_of c S.ar
  have G5 : FnOk P w K mg base CX0 1 (ga K "is_integer") fd5 ["thing"] (spInt K) := ok_int F5 n_isinstance n_int n_bool
  have G6 : FnOk P w K mg base (L2N.CX P w) 3 (ga K "arguments_of") fd6 ["op"] (spArg K) := ok_arg F6 S.bo gBO F0 (fun _ => tupB_ok S.tO) gOPS hA gARG
  have G8 : FnOk P w K mg base (L2N.CX P w) 4 (ga K "worlds_of") fd8 ["op"] (spWor K) := ok_wor F8 G6 b6 F6.kp g6 (fun _ => tupB_ok S.tT) gTWO
  have G11 : FnOk P w K mg base CX0 1 (ga K "_limits_of_y") fd11 ["op", "world", "home", "to"] spLiY := ok_liy F11
  have G12 : FnOk P w K mg base CX0 1 (ga K "_limits_of_k") fd12 ["op", "world", "home", "to"] spLiK := ok_lik F12 gGR n_min
  have G10 : FnOk P w K mg base CX0 2 (ga K "_limits") fd10 ["name", "op", "world", "home", "to"] spLim := ok_lim F10 gGR (fun _ => tupB_ok S.tN) gNEW G11 b11 F11.kp g11 G12 b12 F12.kp g12
  have G9 : FnOk P w K mg base CX0 3 (ga K "_fits") fd9 ["name", "worth", "op", "world", "home", "to", "x"] spFit := ok_fit F9 G10 b10 F10.kp g10
  obtain ⟨fd4, F4⟩ := cx.fd 4
  replace F4 : FunD K "__init__" "Scene.__init__" (defArgs sSci) (defBody sSci) (defScope sSci) [] kwL (ma K (ga K "Scene") "__init__") fd4 := F4
  obtain ⟨mv4, kb4⟩ := F4.kbinds0 3 (["home", "to", "x", "y", "k", "other"] : List Str) [] (fun us _ ws => us ++ ws) (by simp) (fun q hq => nomatch hq) (fun r1 _ r3 => vals_app r1 r3) (fun D doc pm an cdv ct us mv ws l1 l2 l3 => match us, mv, ws, l1, l2, l3 with | [_, _, _], [], [_, _, _, _, _, _], _, _, _ => rfl) (ps := sciP)
  have G4 : FnOk P w K mg base (L2N.CX P w) 5 (ma K (ga K "Scene") "__init__") fd4 sciP (spSci K) := ok_sci F4 S.scn S.bw gBW F1 S.bn gBN F2 G5 b5 F5.kp g5 G9 b9 F9.kp g9 G8 b8 F8.kp g8
  have G14 : FnOk P w K mg base CX0 1 (ga K "_law_draw") fd14 ["pool", "limit"] spDrawP := ok_drawP F14 n_int n_len
  have G13 : FnOk P w K mg base CX0 1 (ga K "_law_pool") fd13 ["script"] (spPool K) := ok_poolP F13 n_int n_len n_abs n_min
  have G15 : FnOk P w K mg base CX0 2 (ga K "_law_op") fd15 ["pool"] spLOp := ok_lop F15 G14 b14 F14.kp g14
  have G16 : FnOk P w K mg base CX0 1 (ga K "_law_worlds") fd16 ["op"] spLWo := ok_lwo F16
  have G18 : FnOk P w K mg base CX0 2 (ga K "_law_upto") fd18 ["pool", "low", "high"] spLUp := ok_lup F18 G14 b14 F14.kp g14 n_min n_max
  have G19 : FnOk P w K mg base CX0 3 (ga K "_law_numbers") fd19 ["pool", "op", "world", "most"] spLNu := ok_lnu F19 G18 b18 F18.kp g18 n_int n_min
  have G20 : FnOk P w K mg base CX0 1 (ga K "_law_in") fd20 ["thing", "low", "high"] (spLIn K) := ok_lin F20 n_isinstance n_int n_bool
  have G21 : FnOk P w K mg base CX0 2 (ga K "_law_first_wrong") fd21 ["op", "world", "n"] (spLFw K) := ok_lfw F21 G20 b20 F20.kp g20 n_int
  have G22 : FnG P w K mg base CX0 7 (ga K "_law_answer") fd22 ["op", "world", "n"] (spAns K) := ok_ans F22 S.bo S.bw S.bn S.scn G4 kb4 gSc gPE gBO gBW gBN n_isinstance n_ValueError n_repr
  have G23 : FnG P w K mg base CX0 5 (ga K "_law_worlds_answer") fd23 ["thing"] (spLWa K) := ok_lwa F23 S.bo G8 b8 F8.kp g8 gBO n_repr
  exact ok_law F24 G13 b13 F13.kp g13 G14 b14 F14.kp g14 G15 b15 F15.kp g15 G16 b16 F16.kp g16 G19 b19 F19.kp g19 G21 b21 F21.kp g21 G22 b22 F22.kp g22 G23 b23 F23.kp g23 n_repr n_dict n_isinstance n_str n_len n_range
end K24
open PySem PySem.W PySem.Calls PyProof.Rows
set_option maxRecDepth 100000 in
set_option maxHeartbeats 0 in
theorem PySem.Challenge.cw_rowsinplace_k24_scenes_refused_holds : PySem.Challenge.rw_rowsinplace_k24_scenes_refused.Holds := by
  w_on; o_law
  refine HandSHeadRun.head_any (r := OpenLaw.row PySem.Challenge.rw_rowsinplace_k24_scenes_refused) (q := view (OpenLaw.row PySem.Challenge.rw_rowsinplace_k24_scenes_refused).prog [38]) (H := K24.hk) (ob := K24.ob) (M := 20000) (loose := K24.loose) (d := HandSHeadRun.topDef (OpenLaw.row PySem.Challenge.rw_rowsinplace_k24_scenes_refused).prog 38) (kwd := []) K24.ob_eq
    (by kernel_rfl) (fun s => by kernel_rfl) K24.run (by kernel_rfl) (by kernel_rfl) (by kernel_rfl) (by rfl) (by first | assumption | decide +kernel) (by decide +kernel) ⟨rfl, rfl, rfl, rfl, rfl, by decide +kernel⟩ ?hw ?hc
  case hw => w_witness2
  case hc =>
    refine KX.walk_atG (l := PySem.Challenge.rw_rowsinplace_k24_scenes_refused) (n := 63) (k := 8) (x := "script") rfl (by decide) (by kernel_rfl) ⟨rfl, by decide, by decide⟩ ?F
    intro w mg fa h Y G hmg0
    obtain ⟨K, KI, c⟩ := Y
    have hmg : mg ("law" : PySem.Str) = some (.ref fa) := by
      have e : (HandSHeadRun.topDef (OpenLaw.row PySem.Challenge.rw_rowsinplace_k24_scenes_refused).prog 38).name = ("law" : PySem.Str) := by kernel_rfl
      rw [← e]
      exact hmg0
    obtain ⟨fd, hb, hF⟩ := K24.all_ok (P := (PySem.Challenge.rw_rowsinplace_k24_scenes_refused).prog) (w := w) KI G hmg c
    exact ⟨K, fd, K24.spLaw K, KI, hb, fun H a ns hl _ hS => ⟨a, ns, rfl, hS, hl, fun _ => rfl⟩, hF⟩

