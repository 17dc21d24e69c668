import PyProof.Rows.All
import Wide.All
import OpenK.AllK
import Wide.FinOn
import HandS.ForMost
import HandS.ExcInit
import HandS.Defaults
import HandS.WordsExc
import HandS.Wide
import HandS.EndBits
import HandS.Head0
import HandS.Head1
import HandS.Head2
import HandS.HeadEnd
import HandS.HeadHook1
import HandS.HeadHook2
import KE.KExcInit
import KE.KExcIs
import HandS.HeadHook3
import HandS.More
import HandS.Property
import PyProof.ExcBaseAll.ValueError
import PyProof.ExcBaseAll.LookupError
import PyProof.ReprRoads
import HandS.ExcIs
import HandS.ExcField
import HandS.ExcCtx
import HandS.ExcInitHot
import HandS.HotCalls
import HandS.Star
import KE.GoesMore
import HandS.Walk
import PyProof.FitsInt
import HandS.IsInst
import HandS.Small
import HandS.SortKw
import KE.KOpsOwn
import KE.DataMinMax
import HandS.Text
import HandS.WideBits
import HandS.Deep
import HandS.ExcOwn
import HandS.SetKeys
import HandS.DictComp
import HandS.MakeKwOnly
import HandS.RaiseMore
import PySem.Challenge.RW_rowsinplace_k23_scenes_made
set_option Elab.async false
set_option maxRecDepth 100000
set_option maxHeartbeats 2000000
/-! A hook of our own: one Bool over the written part, and the defs by their places. -/
namespace KX
open PySem PySem.Spec PyProof.Rows L2 He
def lookX (n : Nat) (chk : PySem.W.Frag → Bool) (fn : List DefD) (g : Addr → Option Obj) : Bool × List FnW :=
  let K := frG g (asD g n)
  (chk K && fn.all fun d => d.ok K, fn.map fun d => fnW K d.at_)
def SaysX (chk : PySem.W.Frag → Bool) (fn : List DefD) (K : PySem.W.Frag) : Prop := chk K = true ∧ (fn.all fun d => d.ok K) = true ∧ fn.map (fun d => fnW K d.at_) = fn.map DefD.val
def hookX (n : Nat) (chk : PySem.W.Frag → Bool) (fn : List DefD) : PySem.W.Hook where
  α := Bool × List FnW
  obs := fun s => lookX n chk fn s.heap.get?
  val := fun _ => (true, fn.map DefD.val)
  says := fun _ h => ∃ K : PySem.W.Frag, K.In h ∧ SaysX chk fn K
  of := fun _ s e => by
    refine ⟨frG s.heap.get? (asD s.heap.get? n), frG_in, ?_⟩
    have e1 := congrArg Prod.fst e
    have e2 := congrArg Prod.snd e
    obtain ⟨a, b⟩ := Bool.and_eq_true_iff.mp e1
    exact ⟨a, b, e2⟩
  keeps := fun _ _ _ h k => by
    obtain ⟨K, hK, c⟩ := h
    exact ⟨K, PySem.W.Frag.In.keeps hK k, c⟩
theorem lookX_eq {n : Nat} {chk : PySem.W.Frag → Bool} {fn : List DefD} {g : Addr → Option Obj} {s : Shared} (h : ∀ a, g a = s.heap.get? a) : lookX n chk fn g = (hookX n chk fn).obs s := by
  obtain rfl : g = s.heap.get? := funext h
  rfl
theorem SaysX.fd {chk : PySem.W.Frag → Bool} {fn : List DefD} {K : PySem.W.Frag} (c : SaysX chk fn K) (i : Nat) {d : DefD} (h : fn[i]? = some d := by rfl) :
    ∃ fd, FunD K d.name d.qual d.params d.body d.scope (d.dvs K) (d.kws K) (fAd K d.at_) fd := by
  obtain ⟨_, c2, c3⟩ := c
  have q : (fn.map fun d => fnW K d.at_)[i]? = (fn.map DefD.val)[i]? := congrArg (·[i]?) c3
  rw [List.getElem?_map, List.getElem?_map, h] at q
  exact DefD.funD (Option.some.inj q) (List.all_eq_true.mp c2 d (List.mem_of_getElem? h))
end KX

set_option Elab.async false
set_option maxRecDepth 100000
set_option maxHeartbeats 2000000
/-! The hook with the keys of the module's dicts beside; tuples of texts that the module holds. -/
namespace KX
open PySem PySem.Spec PyProof.Rows L2 He
abbrev KeyT : Type := List (Option (List (Option (Str × Int))))
def lookD (n : Nat) (chk : PySem.W.Frag → Bool) (fn : List DefD) (ds : List (Str × List Str)) (g : Addr → Option Obj) : (Bool × List FnW) × KeyT :=
  let K := frG g (asD g n)
  ((chk K && fn.all fun d => d.ok K, fn.map fun d => fnW K d.at_), ds.map fun d => dicW K (ga K d.1))
def SaysD (chk : PySem.W.Frag → Bool) (fn : List DefD) (ds : List (Str × List Str)) (w : World) (K : PySem.W.Frag) : Prop := SaysX chk fn K ∧ ds.map (fun d => dicW K (ga K d.1)) = ds.map fun d => some (keysIn w.params d.2)
def hookD (n : Nat) (chk : PySem.W.Frag → Bool) (fn : List DefD) (ds : List (Str × List Str)) : PySem.W.Hook where
  α := (Bool × List FnW) × KeyT
  obs := fun s => lookD n chk fn ds s.heap.get?
  val := fun w => ((true, fn.map DefD.val), ds.map fun d => some (keysIn w.params d.2))
  says := fun w h => ∃ K : PySem.W.Frag, K.In h ∧ SaysD chk fn ds w K
  of := fun _ s e => by
    refine ⟨frG s.heap.get? (asD s.heap.get? n), frG_in, ?_⟩
    have e1 := congrArg (fun z : (Bool × List FnW) × KeyT => z.1.1) e
    have e2 := congrArg (fun z : (Bool × List FnW) × KeyT => z.1.2) e
    have e3 := congrArg (fun z : (Bool × List FnW) × KeyT => z.2) e
    obtain ⟨a, b⟩ := Bool.and_eq_true_iff.mp e1
    exact ⟨⟨a, b, e2⟩, e3⟩
  keeps := fun _ _ _ h k => by
    obtain ⟨K, hK, c⟩ := h
    exact ⟨K, PySem.W.Frag.In.keeps hK k, c⟩
theorem lookD_eq {n : Nat} {chk : PySem.W.Frag → Bool} {fn : List DefD} {ds : List (Str × List Str)} {g : Addr → Option Obj} {s : Shared} (h : ∀ a, g a = s.heap.get? a) : lookD n chk fn ds g = (hookD n chk fn ds).obs s := by
  obtain rfl : g = s.heap.get? := funext h
  rfl
theorem SaysD.dic {chk : PySem.W.Frag → Bool} {fn : List DefD} {ds : List (Str × List Str)} {w : World} {K : PySem.W.Frag} (c : SaysD chk fn ds w K) (i : Nat) {d : Str × List Str} (h : ds[i]? = some d := by rfl) : ∃ es n, KDict K w (ga K d.1) es n := by
  have e2 : (ds.map fun d => dicW K (ga K d.1))[i]? = (ds.map fun d => some (keysIn w.params d.2))[i]? := by rw [c.2]
  rw [List.getElem?_map, List.getElem?_map, h] at e2
  exact dicW_ok (Option.some.inj e2)
/-- a tuple of texts that the module holds at a -/
def strB : Value → Str → Bool
  | .str y _, z => decide (y = z)
  | _, _ => false
def strsB : List Value → List Str → Bool
  | [], [] => true
  | u :: r, z :: zs => strB u z && strsB r zs
  | _, _ => false
def tupB (K : PySem.W.Frag) (a : Addr) (zs : List Str) : Bool := match K.lookup a with
  | some ⟨.type c, _, .seq its _, _⟩ => decide (c = "tuple") && (decide (its.size ≤ 1000) && strsB its.toList zs)
  | _ => false
theorem strsB_ok : ∀ {us : List Value} {zs : List Str}, strsB us zs = true → Vals (zs.map V.str) us
  | [], [], _ => .nil
  | u :: r, z :: zs, h => by
    obtain ⟨h1, h2⟩ := Bool.and_eq_true_iff.mp h
    refine .cons ?_ (strsB_ok h2)
    cases u with
    | str y t => exact ⟨t, by rw [show y = z from of_decide_eq_true h1]⟩
    | _ => cases h1
  | [], _ :: _, h => nomatch h
  | _ :: _, [], h => nomatch h
theorem tupB_ok {K : PySem.W.Frag} {a : Addr} {zs : List Str} {H : Hp} (h : tupB K a zs = true) : SqT K H a (zs.map V.str) := by
  unfold tupB at h
  split at h
  · rename_i c d its n sl e
    obtain ⟨h1, h⟩ := Bool.and_eq_true_iff.mp h
    obtain ⟨h2, h3⟩ := Bool.and_eq_true_iff.mp h
    have e1 : c = "tuple" := of_decide_eq_true h1
    subst e1
    have h4 : its.size ≤ 1000 := of_decide_eq_true h2
    exact .inr ⟨_, its, n, e, rfl, rfl, Nat.le_trans h4 (by decide), strsB_ok h3⟩
  · cases h
/-- a world with one of its answers set; a dict with keys that the top makes asks for that answer alone -/
def setF (w : World) (b : Bool) : World := { w with params := { w.params with followText := fun r => if r = "special-get-raises" then b else w.params.followText r } }
theorem setF_eq {w : World} {b : Bool} (h : w.params.followText "special-get-raises" = b) : setF w b = w := by
  have e : (fun r => if r = "special-get-raises" then b else w.params.followText r) = w.params.followText := funext fun r => by
    by_cases c : r = "special-get-raises"
    · subst c
      rw [if_pos rfl]
      exact h.symm
    · rw [if_neg c]
  unfold setF
  rw [e]
theorem run_two {r : PySem.W.OpenRow} {q : Program} {H : PySem.W.Hook} {ob : PySem.W.SharedT → H.α} {M : Nat} {loose : List Str} (h1 : ∀ w, HandSHeadRun.RunEq r q H ob M loose (setF w true)) (h2 : ∀ w, HandSHeadRun.RunEq r q H ob M loose (setF w false)) (w : World) : HandSHeadRun.RunEq r q H ob M loose w := by
  cases h : w.params.followText "special-get-raises" with
  | true => rw [← setF_eq h]; exact h1 w
  | false => rw [← setF_eq h]; exact h2 w
end KX

set_option Elab.async false
set_option maxRecDepth 100000
set_option maxHeartbeats 2000000
/-! The hook with properties beside: their getters as defs. -/
namespace KX
open PySem PySem.Spec PyProof.Rows L2 He
def gAd (K : PySem.W.Frag) (c x : Str) : Addr := match PySem.W.recIn K (ma K (ga K c) x) "property" with
  | some (.ref g :: _) => g
  | _ => 0
def fnA (K : PySem.W.Frag) (f : Addr) : FnW := match K.lookup f with
  | some ⟨_, _, .func r, _⟩ => some (r.name, r.qualname, r.params, r.body, r.scope, r.globals, r.closure, r.builtins)
  | _ => none
/-- the property x of the class c, whose getter is d -/
structure PrD where
  c : Str
  x : Str
  d : DefD
def okA (K : PySem.W.Frag) (f : Addr) (d : DefD) : Bool := PySem.W.keepIn K (.ref f) && (match K.lookup f with
  | some ⟨_, _, .func r, _⟩ => PySem.W.codeIn K r.code d.qual && (dflB K r.defaults (d.dvs K) && kwdB K r.kwdefaults (d.kws K))
  | _ => false)
def propB (K : PySem.W.Frag) (c x : Str) : Bool :=
  eqO (PySem.W.findIn K (.ref (ga K c)) x) (some (some (.ref (ma K (ga K c) x)))) && (eqO (PySem.W.specialIn K (.ref (ma K (ga K c) x)) "__get__") (some (some (.builtin "property.__get__"))) &&
  (decide (PySem.W.takesIn K (.ref (ma K (ga K c) x)) = some true) && (match PySem.W.recIn K (ma K (ga K c) x) "property" with
  | some (.ref _ :: _) => true
  | _ => false)))
theorem propB_ok {K : PySem.W.Frag} {c x : Str} (h : propB K c x = true) : PropOf K (ga K c) x (ma K (ga K c) x) (gAd K c x) := by
  unfold propB at h
  obtain ⟨h1, h⟩ := Bool.and_eq_true_iff.mp h
  obtain ⟨h2, h⟩ := Bool.and_eq_true_iff.mp h
  obtain ⟨h3, h4⟩ := Bool.and_eq_true_iff.mp h
  refine ⟨eqO_ok h1, eqO_ok h2, of_decide_eq_true h3, ?_⟩
  unfold gAd
  split at h4
  · rename_i g rest e
    rw [e]
    exact ⟨rest, rfl⟩
  · cases h4
theorem fnA_ok {K : PySem.W.Frag} {d : DefD} {f : Addr} (e : fnA K f = d.val) (c : okA K f d = true) : ∃ fd, FunD K d.name d.qual d.params d.body d.scope (d.dvs K) (d.kws K) f fd := by
  obtain ⟨kp, c2⟩ := Bool.and_eq_true_iff.mp c
  unfold fnA at e
  cases q : K.lookup f with
  | none => rw [q] at c2; cases c2
  | some o =>
    obtain ⟨u1, u2, u3, u4⟩ := o
    rw [q] at c2 e
    cases u3 with
    | func fd =>
      obtain ⟨m1, m2, m3, m4, m5, m6, m7, m8, m9, mA, mB, mC, mD, mE, mF⟩ := fd
      have e2 : (some (m1, m2, m3, m4, m5, m6, m7, mF) : FnW) = some (d.name, d.qual, d.params, .stmts d.body, d.scope, mainGlobals, [], builtinsNs) := e
      simp only [Option.some.injEq, Prod.mk.injEq] at e2
      obtain ⟨h1, h2, h3, h4, h5, h6, h7, h8⟩ := e2
      subst h1 h2 h3 h4 h5 h6 h7 h8
      obtain ⟨k1, k2⟩ := Bool.and_eq_true_iff.mp (show (PySem.W.codeIn K mD d.qual && (dflB K m8 (d.dvs K) && kwdB K m9 (d.kws K))) = true from c2)
      obtain ⟨k3, k4⟩ := Bool.and_eq_true_iff.mp k2
      exact ⟨_, ⟨u1, u2, m8, m9, mA, mB, mC, mD, mE, u4, rfl, q, k1, dflB_ok k3, kwdB_ok k4⟩, kp⟩
    | _ => cases c2
def prOk (K : PySem.W.Frag) (p : PrD) : Bool := propB K p.c p.x && okA K (gAd K p.c p.x) p.d
def lookP (n : Nat) (chk : PySem.W.Frag → Bool) (fn : List DefD) (ps : List PrD) (g : Addr → Option Obj) : Bool × List FnW :=
  let K := frG g (asD g n)
  (chk K && (fn.all (fun d => d.ok K) && ps.all (prOk K)), fn.map (fun d => fnW K d.at_) ++ ps.map fun p => fnA K (gAd K p.c p.x))
def SaysP (chk : PySem.W.Frag → Bool) (fn : List DefD) (ps : List PrD) (K : PySem.W.Frag) : Prop := SaysX chk fn K ∧ ps.all (prOk K) = true ∧ ps.map (fun p => fnA K (gAd K p.c p.x)) = ps.map fun p => p.d.val
def hookP (n : Nat) (chk : PySem.W.Frag → Bool) (fn : List DefD) (ps : List PrD) : PySem.W.Hook where
  α := Bool × List FnW
  obs := fun s => lookP n chk fn ps s.heap.get?
  val := fun _ => (true, fn.map DefD.val ++ ps.map fun p => p.d.val)
  says := fun _ h => ∃ K : PySem.W.Frag, K.In h ∧ SaysP chk fn ps K
  of := fun _ s e => by
    refine ⟨frG s.heap.get? (asD s.heap.get? n), frG_in, ?_⟩
    obtain ⟨a, b⟩ := Bool.and_eq_true_iff.mp (congrArg Prod.fst e)
    obtain ⟨b1, b2⟩ := Bool.and_eq_true_iff.mp b
    have e2 := List.append_inj (congrArg Prod.snd e) (by simp)
    exact ⟨⟨a, b1, e2.1⟩, b2, e2.2⟩
  keeps := fun _ _ _ h k => by
    obtain ⟨K, hK, c⟩ := h
    exact ⟨K, PySem.W.Frag.In.keeps hK k, c⟩
theorem lookP_eq {n : Nat} {chk : PySem.W.Frag → Bool} {fn : List DefD} {ps : List PrD} {g : Addr → Option Obj} {s : Shared} (h : ∀ a, g a = s.heap.get? a) : lookP n chk fn ps g = (hookP n chk fn ps).obs s := by
  obtain rfl : g = s.heap.get? := funext h
  rfl
theorem SaysP.pr {chk : PySem.W.Frag → Bool} {fn : List DefD} {ps : List PrD} {K : PySem.W.Frag} (c : SaysP chk fn ps K) (i : Nat) {p : PrD} (h : ps[i]? = some p := by rfl) :
    PropOf K (ga K p.c) p.x (ma K (ga K p.c) p.x) (gAd K p.c p.x) ∧ ∃ fd, FunD K p.d.name p.d.qual p.d.params p.d.body p.d.scope (p.d.dvs K) (p.d.kws K) (gAd K p.c p.x) fd := by
  obtain ⟨_, c2, c3⟩ := c
  have q := congrArg (·[i]?) c3
  simp only [List.getElem?_map, h, Option.map_some] at q
  obtain ⟨k1, k2⟩ := Bool.and_eq_true_iff.mp (List.all_eq_true.mp c2 p (List.mem_of_getElem? h))
  exact ⟨propB_ok k1, fnA_ok (Option.some.inj q) k2⟩
end KX

set_option Elab.async false
set_option maxRecDepth 100000
set_option maxHeartbeats 2000000
/-! The hook with properties and with the keys of the top's dicts. -/
namespace KX
open PySem PySem.Spec PyProof.Rows L2 He
def lookPD (n : Nat) (chk : PySem.W.Frag → Bool) (fn : List DefD) (ps : List PrD) (ds : List (Str × List Str)) (g : Addr → Option Obj) : (Bool × List FnW) × KeyT :=
  let K := frG g (asD g n)
  (lookP n chk fn ps g, ds.map fun d => dicW K (ga K d.1))
def SaysPD (chk : PySem.W.Frag → Bool) (fn : List DefD) (ps : List PrD) (ds : List (Str × List Str)) (w : World) (K : PySem.W.Frag) : Prop :=
  SaysP chk fn ps K ∧ ds.map (fun d => dicW K (ga K d.1)) = ds.map fun d => some (keysIn w.params d.2)
def hookPD (n : Nat) (chk : PySem.W.Frag → Bool) (fn : List DefD) (ps : List PrD) (ds : List (Str × List Str)) : PySem.W.Hook where
  α := (Bool × List FnW) × KeyT
  obs := fun s => lookPD n chk fn ps ds s.heap.get?
  val := fun w => ((true, fn.map DefD.val ++ ps.map fun p => p.d.val), ds.map fun d => some (keysIn w.params d.2))
  says := fun w h => ∃ K : PySem.W.Frag, K.In h ∧ SaysPD chk fn ps ds w K
  of := fun _ s e => by
    refine ⟨frG s.heap.get? (asD s.heap.get? n), frG_in, ?_⟩
    have e1 := congrArg (fun z : (Bool × List FnW) × KeyT => z.1.1) e
    have e2 := congrArg (fun z : (Bool × List FnW) × KeyT => z.1.2) e
    have e3 := congrArg (fun z : (Bool × List FnW) × KeyT => z.2) e
    obtain ⟨a, b⟩ := Bool.and_eq_true_iff.mp e1
    obtain ⟨b1, b2⟩ := Bool.and_eq_true_iff.mp b
    have q := List.append_inj e2 (by simp)
    exact ⟨⟨⟨a, b1, q.1⟩, b2, q.2⟩, e3⟩
  keeps := fun _ _ _ h k => by
    obtain ⟨K, hK, c⟩ := h
    exact ⟨K, PySem.W.Frag.In.keeps hK k, c⟩
theorem lookPD_eq {n : Nat} {chk : PySem.W.Frag → Bool} {fn : List DefD} {ps : List PrD} {ds : List (Str × List Str)} {g : Addr → Option Obj} {s : Shared} (h : ∀ a, g a = s.heap.get? a) : lookPD n chk fn ps ds g = (hookPD n chk fn ps ds).obs s := by
  obtain rfl : g = s.heap.get? := funext h
  rfl
theorem SaysPD.dic {chk : PySem.W.Frag → Bool} {fn : List DefD} {ps : List PrD} {ds : List (Str × List Str)} {w : World} {K : PySem.W.Frag} (c : SaysPD chk fn ps ds w K) (i : Nat) {d : Str × List Str} (h : ds[i]? = some d := by rfl) : ∃ es n, KDict K w (ga K d.1) es n := by
  have e2 : (ds.map fun d => dicW K (ga K d.1))[i]? = (ds.map fun d => some (keysIn w.params d.2))[i]? := by rw [c.2]
  rw [List.getElem?_map, List.getElem?_map, h] at e2
  exact dicW_ok (Option.some.inj e2)
end KX

set_option Elab.async false
set_option maxRecDepth 100000
set_option maxHeartbeats 2000000
/-! What the written part says of an own exception class with an __init__ of its own, as one Bool. -/
namespace KX
open PySem PySem.Spec PyProof.Rows L2 He
structure ExK (K : PySem.W.Frag) (C : Addr) (bmB : List Value) (newId : String) : Prop where
  init : PySem.W.excInitIn K C bmB newId = true
  over : PySem.W.excOver K C bmB = true
  hd : PySem.W.hasDictIn K C = true
  sa : PySem.W.findIn K (.ref C) "__setattr__" = some (some (.builtin "object.__setattr__"))
  ga : PySem.W.findIn K (.ref C) "__getattribute__" = some (some (.builtin "BaseException.__getattribute__"))
  gg : PySem.W.findIn K (.ref C) "__getattr__" = some none
  exC : PySem.W.subIn K (.ref C) (.type "BaseException") = some true
  kC : PySem.W.keepIn K (.ref C) = true
  ha : PySem.W.findIn K (.ref C) "__class__" = some (some (.builtin "object.__class__"))
  hm : PySem.W.mroIn K C (.type "object") = some true
def exkB (K : PySem.W.Frag) (C : Addr) (bmB : List Value) (newId : String) : Bool :=
  PySem.W.excInitIn K C bmB newId && (PySem.W.excOver K C bmB && (PySem.W.hasDictIn K C && (eqO (PySem.W.findIn K (.ref C) "__setattr__") (some (some (.builtin "object.__setattr__")))
  && (eqO (PySem.W.findIn K (.ref C) "__getattribute__") (some (some (.builtin "BaseException.__getattribute__"))) && (eqO (PySem.W.findIn K (.ref C) "__getattr__") (some none)
  && (decide (PySem.W.subIn K (.ref C) (.type "BaseException") = some true) && (PySem.W.keepIn K (.ref C) && (eqO (PySem.W.findIn K (.ref C) "__class__") (some (some (.builtin "object.__class__"))) && decide (PySem.W.mroIn K C (.type "object") = some true)))))))))
theorem exkB_ok {K : PySem.W.Frag} {C : Addr} {bmB : List Value} {newId : String} (h : exkB K C bmB newId = true) : ExK K C bmB newId := by
  obtain ⟨h1, h⟩ := Bool.and_eq_true_iff.mp h
  obtain ⟨h2, h⟩ := Bool.and_eq_true_iff.mp h
  obtain ⟨h3, h⟩ := Bool.and_eq_true_iff.mp h
  obtain ⟨h4, h⟩ := Bool.and_eq_true_iff.mp h
  obtain ⟨h5, h⟩ := Bool.and_eq_true_iff.mp h
  obtain ⟨h6, h⟩ := Bool.and_eq_true_iff.mp h
  obtain ⟨h7, h⟩ := Bool.and_eq_true_iff.mp h
  obtain ⟨h8, h⟩ := Bool.and_eq_true_iff.mp h
  obtain ⟨h9, hA⟩ := Bool.and_eq_true_iff.mp h
  exact ⟨h1, h2, h3, eqO_ok h4, eqO_ok h5, eqO_ok h6, of_decide_eq_true h7, h8, eqO_ok h9, of_decide_eq_true hA⟩
end KX

set_option Elab.async false
set_option maxRecDepth 100000
set_option maxHeartbeats 2000000
/-! Own exception classes over any built-in base, with an __init__ that stores: made as values, read, asked by isinstance. -/
namespace KX
open PySem PySem.Spec PyProof.Rows L2
/-- what is known of the built-in base -/
def Bs (bmB : List Value) (newId : String) : Prop := ∃ B initId, ExcBaseFacts B newId initId bmB ∧ StoreFacts B bmB "object.__setattr__" "object"
theorem bsV : Bs [.type "ValueError", .type "Exception", .type "BaseException", .type "object"] "ValueError.__new__" := ⟨_, _, PySem.F.excBase_ValueError, PySem.F.store_ValueError⟩
theorem bsL : Bs [.type "LookupError", .type "Exception", .type "BaseException", .type "object"] "LookupError.__new__" := ⟨_, _, PySem.F.excBase_LookupError, PySem.F.store_LookupError⟩
section
open Builtin Builtin.ObjectAttr
variable {prog : Program} {w : World} {A : Around} {R : Result → Shared → Prop} {hp : Heap} {g : Array GenState} {dw : Drawn} {tt : Nat} {os : OsState} {K : PySem.W.Frag} {C x t1 : Addr} {bmB : List Value} {newId : String} {f : Str} {tk : Tok} {v : Value}
/-- the first store lays the dict -/
theorem put_first (T : ExK K C bmB newId) (bs : Bs bmB newId) (X : K.In hp) (hx : hp.get? x = some ({ cls := .ref C, dict := none, data := .fields #[.ref t1, .none, .none, .none, .bool false, .none] } : Obj)) (hno : PySem.W.findIn K (.ref C) f = some none)
    (hq : ∀ h' tk' dx, (∀ b o, b ≠ x → hp.get? b = some o → h'.get? b = some o) → hp.objs.size ≤ dx → dx ≠ x → h'.get? x = some ({ cls := .ref C, dict := some dx, data := .fields #[.ref t1, .none, .none, .none, .bool false, .none] } : Obj) →
      h'.Ns1 dx (fun y => if y = f then some v else none) → R (.ok (.ret .none)) ⟨h', g, dw, tk', os⟩) :
    codeAny (model prog w) A (.call (.builtin "object.__setattr__") ⟨[.ref x, .str f tk, v], []⟩) R ⟨hp, g, dw, tt, os⟩ := by
  obtain ⟨B, iid, _, SF⟩ := bs
  have hxs : x ≠ hp.objs.size := Nat.ne_of_lt (Heap.lt_size hx)
  refine PySem.W.osa_openX (s := ⟨hp, g, dw, tt, os⟩) (od := none) (r := none) SF X ⟨hx, rfl, rfl, trivial⟩ T.over (by unfold PySem.W.takerIn; rw [hno] <;> rfl) fun b => ?_
  obtain ⟨cd, hc, hd⟩ := PySem.W.any_some T.hd
  have hcls : PySem.W.Looks (model prog w) hp (classData C) cd := PySem.W.looks_clsIn X hc
  refine wpAny_bind (wpAny_pure (wpAny_bind (PySem.W.instanceDict_exc (s := ⟨hp, g, dw, tt, os⟩) hx hcls hd ?_)))
  refine HandSPX.store_in_new ?_ ?_
  · exact ⟨_, #[], _, (Heap.get?_update_ne _ _ _ _ hxs.symm).trans (Heap.get?_push_at rfl rfl), rfl, fun e he => absurd he (by simp), fun _ => rfl⟩
  · intro h' tk' hn' hs
    have hx1 : (hp.push { cls := .type "dict", data := .dict #[] }).get? x = _ := Heap.get?_push_of_some _ hx
    refine hq h' tk' hp.objs.size (fun b o hb ho => ?_) (Nat.le_refl _) hxs.symm ?_ hn'
    · have z := hs.2 b (Nat.ne_of_lt (Heap.lt_size ho))
      exact z.trans ((Heap.get?_update_ne _ _ _ _ hb).trans (Heap.get?_push_of_some _ ho))
    · exact (hs.2 x hxs).trans (Heap.get?_update_self _ hx1 rfl)
/-- a later one -/
theorem put_more {dx : Addr} {m0 : Str → Option Value} {nl : List Str} (T : ExK K C bmB newId) (bs : Bs bmB newId) (X : K.In hp) (hx : hp.get? x = some ({ cls := .ref C, dict := some dx, data := .fields #[.ref t1, .none, .none, .none, .bool false, .none] } : Obj))
    (hns : hp.Ns1 dx m0) (hw : Within m0 nl) (hz : nl.length ≤ 1000) (hno : PySem.W.findIn K (.ref C) f = some none)
    (hq : ∀ h' tk', (∀ b o, b ≠ dx → hp.get? b = some o → h'.get? b = some o) → h'.Ns1 dx (fun y => if y = f then some v else m0 y) → R (.ok (.ret .none)) ⟨h', g, dw, tk', os⟩) :
    codeAny (model prog w) A (.call (.builtin "object.__setattr__") ⟨[.ref x, .str f tk, v], []⟩) R ⟨hp, g, dw, tt, os⟩ := by
  obtain ⟨B, iid, _, SF⟩ := bs
  obtain ⟨oD, esD, epD, hoD, hdD, _⟩ := hns.count hw
  refine PySem.W.osa_openX (s := ⟨hp, g, dw, tt, os⟩) (od := some oD) (r := none) SF X ⟨hx, rfl, rfl, hoD⟩ T.over (by unfold PySem.W.takerIn; rw [hno] <;> rfl) fun b => ?_
  obtain ⟨cd, hc, hd⟩ := PySem.W.any_some T.hd
  have hcls : PySem.W.Looks (model prog w) hp (classData C) cd := PySem.W.looks_clsIn X hc
  obtain ⟨c1, c2, c3, c4, c5, c6, c7, c8, c9, cA, cB⟩ := cd
  dsimp only at hd
  subst hd
  show wpAny _ _ (storeInOwnDict _ _ _ _ _ _) _ _ _
  unfold storeInOwnDict ownDictForStores
  repeat (first | with_reducible refine PySem.OEX.store_in_old hns hw hz ?_ | with_reducible refine wpAny_loadPart_at hx ?_ | with_reducible refine hcls.at ?_ | wp_step)
  intro h' tk' hn' hs
  exact hq h' tk' (fun b o hb ho => (hs.2 b hb).trans ho) hn'
end
section
variable {X : Cx} {pins : List (Addr × Obj)} {σ : L2.St} {H : Hp} {s : Shared} {a C dx : Addr} {f : Str} {y : V} {u : Value} {fs : List (Str × V)} {Q : Unit → Shared → Prop} {E : Value → Shared → Prop} {A : Around} {bmB : List Value} {newId : String}
/-- an exception's object gets a dict that is new -/
theorem inv_dict {h' : Heap} {tk : Nat} {t1 : Addr} {od : HO} (I : Inv X pins σ H s) (e : H a = some (exo a C none)) (k : ∀ b o, b ≠ a → s.heap.get? b = some o → h'.get? b = some o) (dn : s.heap.objs.size ≤ dx) (dne : dx ≠ a)
    (hx : h'.get? a = some ({ cls := .ref C, dict := some dx, data := .fields #[.ref t1, .none, .none, .none, .bool false, .none] } : Obj)) (new : ∀ G : Hp, ObjOk X.prog X.w G h' dx od) :
    Inv X pins σ (upd (upd H dx od) a (exo a C (some dx))) { s with heap := h', toks := tk } := by
  have hnd : H dx = none := I.hok.fresh dn
  have hH : ∀ b, b ≠ a → b ≠ dx → upd (upd H dx od) a (exo a C (some dx)) b = H b := fun b n1 n2 => (upd_ne n1).trans (upd_ne n2)
  have na : ∀ b, H b = none → b ≠ a := fun b n z => by
    subst z
    exact nomatch n.symm.trans e
  have nd : ∀ b o, s.heap.get? b = some o → b ≠ dx := fun b o q => Nat.ne_of_lt (Nat.lt_of_lt_of_le (Heap.lt_size q) dn)
  have nk : ∀ b o, H b = some o → o ≠ exo a C none → upd (upd H dx od) a (exo a C (some dx)) b = some o := fun b o q n => by
    rw [hH b (ne_of q e n) (ne_of_none q hnd)]
    exact q
  refine I.un ⟨fun b o q n _ _ => k b o (na b n) q, fun b o q n _ _ => ⟨o.slots, k b o (na b n) q⟩, fun b o q n _ => ?_, fun b o q _ => ?_, fun b xs q => nk b _ q (Ne.symm exo_tup), fun b o v q => nk b _ q (Ne.symm exo_frz), fun b ps q => ⟨#[], ?_⟩⟩ fun b o q => ?_
  · rw [hH b (na b n) (nd b o q)]
    exact n
  · by_cases hb : b = a
    · subst hb
      exact ⟨_, hx⟩
    · exact ⟨o, k b o hb q⟩
  · rw [nk b _ q (Ne.symm exo_tbl)]
    simp
  · by_cases hb : b = a
    · subst hb
      obtain rfl := Option.some.inj (upd_same.symm.trans q)
      exact exo_ok hx
    · rw [upd_ne hb] at q
      by_cases hd : b = dx
      · subst hd
        obtain rfl := Option.some.inj (upd_same.symm.trans q)
        exact new _
      · rw [upd_ne hd] at q
        refine (I.hok b o q).stay (fun c v hc z => k c v ?_ z) (fun c hc => nk c _ hc (Ne.symm exo_own)) fun c xs hc => nk c _ hc (Ne.symm exo_tup)
        rcases hc with rfl | hc
        · exact hb
        · exact ne_of hc e (Ne.symm exo_own)
/-- self.f = y, the first one -/
theorem st_first (T : ExK X.K C bmB newId) (bs : Bs bmB newId) (I : Inv X pins σ H s) (e : H a = some (exo a C none)) (hno : PySem.W.findIn X.K (.ref C) f = some none) (ry : RelV y u)
    (h : ∀ d s', H d = none → d ≠ a → Inv X pins σ (upd (upd H d (exd d [(f, y)])) a (exo a C (some d))) s' → Q () s') : wpAny (model X.prog X.w) A (setAttr (.ref a) f u) Q E s := by
  obtain ⟨t1, ho⟩ := exo_at I.hok e
  obtain ⟨hp, g, d, t, os⟩ := s
  refine PySem.W.set_plain (od := none) I.kIn ⟨ho, rfl, rfl, trivial⟩ T.sa ?_
  refine put_first T bs I.kIn ho hno fun h' tk' dx k dn dne hx hn => ?_
  exact h dx _ (I.hok.fresh dn) dne (inv_dict I e k dn dne hx fun G => exd_ok hn (relO_put (fs := []) ry fun _ => True.intro))
/-- self.f = y, a further one -/
theorem st_more (T : ExK X.K C bmB newId) (bs : Bs bmB newId) (I : Inv X pins σ H s) (e : H a = some (exo a C (some dx))) (ed : H dx = some (exd dx fs)) (hl : fs.length ≤ 900) (hno : PySem.W.findIn X.K (.ref C) f = some none) (ry : RelV y u)
    (h : ∀ s', Inv X pins σ (upd H dx (exd dx ((f, y) :: fs))) s' → Q () s') : wpAny (model X.prog X.w) A (setAttr (.ref a) f u) Q E s := by
  obtain ⟨t1, ho⟩ := exo_at I.hok e
  obtain ⟨mA, hns, rel⟩ := exd_at I.hok ed
  have hw := within_of rel
  obtain ⟨hp, g, d, t, os⟩ := s
  obtain ⟨oD, _, _, hoD, _⟩ := hns.count hw
  refine PySem.W.set_plain (od := some oD) I.kIn ⟨ho, rfl, rfl, hoD⟩ T.sa ?_
  refine put_more T bs I.kIn ho hns hw (by rw [List.length_map]; omega) hno fun h' tk' k hn => ?_
  have hd : ∃ o, h'.get? dx = some o := let ⟨o, _, _, z, _⟩ := hn; ⟨o, z⟩
  exact h _ (I.write (t' := tk') (e := dx) (by rw [ed]; exact True.intro) (.inl rfl) k hd (exd_ok hn (relO_put ry rel)))
end
/-- self.f = e -/
def tSt (K : PySem.W.Frag) (f : Str) (to te : TE) : TS := fun D σ H => te σ H fun y H1 => to σ H1 fun x H2 => ∃ (a C : Addr) (bmB : List Value) (newId : String), x = .ref a ∧ ExK K C bmB newId ∧ Bs bmB newId ∧ PySem.W.findIn K (.ref C) f = some none ∧
  ((H2 a = some (exo a C none) ∧ ∀ d, H2 d = none → d ≠ a → D.nx σ (upd (upd H2 d (exd d [(f, y)])) a (exo a C (some d)))) ∨
    ∃ (d : Addr) (fs : List (Str × V)), H2 a = some (exo a C (some d)) ∧ H2 d = some (exd d fs) ∧ fs.length ≤ 900 ∧ D.nx σ (upd H2 d (exd d ((f, y) :: fs))))
/-- C(e, ..) as a value -/
def tMkV (C : Addr) (sp : Sp) (ta : TA) : TE := fun σ H Q => ta σ H fun vs H1 => vs.length ≤ 1000 ∧ ∀ a, H1 a = none → sp (.ref a :: vs) (upd H1 a (exo a C none)) (fun v H2 => v = .non ∧ Q (.ref a) H2) (fun _ _ _ => False)
/-- e.f of an own exception -/
def tXv (K : PySem.W.Frag) (f : Str) (te : TE) : TE := fun σ H Q => te σ H fun x H1 => ∃ (a C d : Addr) (bmB : List Value) (newId : String) (fs : List (Str × V)) (v : V), x = .ref a ∧ H1 a = some (exo a C (some d)) ∧ H1 d = some (exd d fs) ∧ ExK K C bmB newId ∧ PySem.W.findIn K (.ref C) f = some none ∧ fs.lookup f = some v ∧ Q v H1
section
variable {X : Cx} {o e : Expr} {es : List Expr} {to te : TE} {ta : TA} {f : Str} {p p' p1 p2 pos : Pos}
theorem ps_st (ho : PE X o to) (he : PE X e te) (hs : swapsWith e (some (.Attribute o f p')) pos.line X.env = pure false := by rfl) : PS X (.Assign [.Attribute o f p'] e pos) (tSt X.K f to te) := by
  refine ⟨fun pins s σ H D I h => plainObj_wpAny_Assign_Attribute (thn (he.run pins s σ H _ I h) fun v s1 ⟨y, H1, I1, r1, q1⟩ => thn (ho.run pins s1 σ H1 _ I1 q1) fun u s2 hh => ?_) hs⟩
  obtain ⟨x, H2, I2, r2, a, C, bmB, nid, rfl, T, bs, hno, q⟩ := hh
  obtain rfl : u = Value.ref a := r2
  rcases q with ⟨ea, q⟩ | ⟨d, fs, ea, ed, hl, q⟩
  · exact st_first T bs I2 ea hno r1 fun d s' n ne J => ⟨σ, _, J, q d n ne⟩
  · exact st_more T bs I2 ea ed hl hno r1 fun s' J => ⟨σ, _, J, q⟩
theorem pe_mkv {CX : CXT} {x : Str} {C fI : Addr} {k : Nat} {fd : FuncData} {ps : List Str} {sp : Sp} {bmB : List Value} {newId : String} (T : ExK X.K C bmB newId) (bs : Bs bmB newId) (iC : PySem.W.findIn X.K (.ref C) "__init__" = some (some (.ref fI))) (tI : PySem.W.isFn X.K (.ref fI) = true)
    (G : FnOk X.prog X.w X.K X.mg X.base CX k fI fd ps sp) (hr : Room (k + 1) X.A) (hb : Binds X.K fd ps []) (hx : Passes CX X (fun _ _ _ => False)) (hg : Gl X x) (hm : X.mg x = some (.ref C)) (ha : PA X (e :: es) ta)
    (hdb : (x == ("__debug__" : Str)) = false := by decide) (he : starEach (e :: es) X.env = (false, eval e X.env) :: starEach es X.env := by rfl) (hpl : (backTo pos (starEach es X.env)).any (·.1) = false := by rfl) :
    PE X (.Call (.Name x p) (e :: es) [] pos) (tMkV C sp ta) := by
  refine ⟨fun pins s σ H Q I h => ?_⟩
  refine wpAny_Call_Name_kw (ld_glob I hg hm ?_ hdb)
  refine PySem.W.callWith_K (h₀ := X.base) I.ok.mod.kin T.kC (thn (ha.run pos pins s σ H _ I h) fun us s1 hh => ?_) he hpl
  obtain ⟨vs, H1, I1, r1, hz, q1⟩ := hh
  refine ⟨I1.kIn, ?_⟩
  obtain ⟨B, iid, FB, SF⟩ := bs
  obtain ⟨nm, N', qn, bs', bm, hdct, sn, sub, ab, col, dd, k0, k1, k2, k3, k5, hC, hT⟩ := PySem.W.excInit_of I1.kIn T.init
  obtain ⟨oI, hoI, hcI⟩ : ∃ oI, s1.heap.get? fI = some oI ∧ oI.cls = .type "function" := by
    obtain ⟨oo, h1, h2⟩ := Option.map_eq_some_iff.mp (show (X.K.lookup fI).map (·.cls) = some (.type "function") from beq_iff_eq.mp tI)
    exact ⟨oo, I1.kIn _ _ h1, h2⟩
  obtain ⟨hp, g, dr, tk, os⟩ := s1
  have kk : ∀ b u, hp.get? b = some u → ((hp.push (PySem.W.kdv_tup us)).push (PySem.HandSPX.excO C hp.objs.size)).get? b = some u := fun b u z => Heap.get?_push_of_some _ (Heap.get?_push_of_some _ z)
  have hget : ((hp.push (PySem.W.kdv_tup us)).push (PySem.HandSPX.excO C hp.objs.size)).get? (hp.objs.size + 1) = some (PySem.HandSPX.excO C hp.objs.size) := by heap_get
  have I2 : Inv X pins σ (upd H1 (hp.objs.size + 1) (exo (hp.objs.size + 1) C none)) ⟨(hp.push (PySem.W.kdv_tup us)).push (PySem.HandSPX.excO C hp.objs.size), g, dr, tk, os⟩ := I1.laid (t' := tk) kk (Nat.le_succ _) (exo_ok hget)
  have hq := q1 (hp.objs.size + 1) (I1.hok.fresh (Nat.le_succ _))
  have r2 : Vals (V.ref (hp.objs.size + 1) :: vs) (Value.ref (hp.objs.size + 1) :: us) := .cons rfl r1
  have hl : (Value.ref (hp.objs.size + 1) :: us ++ []).length = ps.length := by
    rw [List.append_nil, ← r2.length]
    exact G.len _ _ _ _ hq
  have hus : us.length ≤ sizeLine := by
    rw [← Paired.length r1, sizeLine_eq]
    omega
  have hbi := hb _ (Value.ref (hp.objs.size + 1) :: us) I2.kIn hl
  rw [List.append_nil] at hbi
  refine wpAny_call (PySem.HandSPX.call_own FB hT hC (PySem.W.looks_findIn I1.kIn iC) (fun self => PySem.W.exc_bind hoI hcI self) hus (codeAny_mono (G.run _ X.stack _ _ _ _ _ _ (fun _ _ _ => False) (hr.make C us []) (I2.env0.make C us []) hbi r2 hq) fun r s' hq' => ?_))
  cases r with
  | error er => exact hx pins σ _ _ er s' I2 hq'
  | ok fl =>
    cases fl with
    | ret u =>
      obtain ⟨v, H2, os2, bare2, un2, hok2, rv, rfl, q2⟩ := hq'
      exact ⟨rv, .ref (hp.objs.size + 1), H2, I2.call' (ch := []) os2 un2 hok2 bare2 (fun b z => absurd z (by simp)), rfl, q2⟩
    | next => exact False.elim hq'
    | brk => exact False.elim hq'
    | cont => exact False.elim hq'
theorem pe_xv (he : PE X e te) (hb : attributeBase e f X.env (eval e X.env) = eval e X.env := by rfl) : PE X (.Attribute e f pos) (tXv X.K f te) := by
  refine ⟨fun pins s σ H Q I h => attr_of hb (thn (he.run pins s σ H _ I h) fun u s1 hh => ?_)⟩
  obtain ⟨x, H1, I1, rx, a, C, d, bmB, nid, fs, v, rfl, ea, ed, T, hno, l, q⟩ := hh
  obtain rfl : u = Value.ref a := rx
  obtain ⟨t1, ho⟩ := exo_at I1.hok ea
  obtain ⟨mA, hns, rel⟩ := exd_at I1.hok ed
  obtain ⟨od, h1, h2⟩ := lookIn_ns hns
  obtain ⟨u, hu, ru⟩ := RelO.some_of (v := v) (o := mA f) (by rw [← l]; exact rel f)
  exact HandSPX.exc_get I1.kIn ⟨ho, rfl, rfl, h1⟩ T.ga T.gg T.exC (PySem.W.findObj_own T.hd hno rfl (by rw [h2, hu])) (handed_of ru) ⟨v, H1, I1.tok _, ru, q⟩
end
end KX

set_option Elab.async false
set_option maxRecDepth 100000
set_option maxHeartbeats 2000000
/-! repr of nested data where no repr is running yet; isinstance of an own exception; defs that want to know that no repr is running. -/
namespace KX
open PySem PySem.Spec PyProof.Rows L2
/-- repr(data) -/
def rRepr (K : PySem.W.Frag) : List V → Hp → VK → Prop := fun xs H Q => ∃ (a : Addr) (d : PyData), xs = [.ref a] ∧ Dp K H (.ref a) d ∧ d.showable = true ∧ d.hasDict = false ∧ d.depth ≤ 8 ∧ d.shown.length ≤ sizeLine ∧ Q (.str d.shown) H
theorem call_repr {X : Cx} (hg : X.A.guards = some []) (hu : X.A.units + 10 < cLine) : CallR X (.builtin "repr") (rRepr X.K) := by
  intro pins s σ H xs us Q I r h
  obtain ⟨a, d, rfl, hd, h1, h2, h3, h4, q⟩ := h
  obtain ⟨u, rfl, ru⟩ := vals1 r
  obtain rfl : u = Value.ref a := ru
  obtain ⟨as, rd⟩ := Dp.reads I d _ _ hd rfl
  exact repr_of_reads' rd h1 (PyData.noDict_hsm h2) hg (by omega) (fun _ _ e => e) (fun h' u tk hk => ⟨.str d.shown, H, I.kept (t' := tk) hk, ⟨_, rfl⟩, q⟩) h4
/-- isinstance(e, c) of an own exception e -/
def rIsX (K : PySem.W.Frag) : List V → Hp → VK → Prop := fun xs H Q => ∃ (a C d : Addr) (bmB : List Value) (nid : String) (fs : List (Str × V)) (c : V) (cv : Value) (b : Bool), xs = [.ref a, c] ∧ H a = some (exo a C (some d)) ∧ H d = some (exd d fs) ∧ ExK K C bmB nid ∧
  PySem.W.specialIn K (.builtin "object.__class__") "__get__" = some (some (.builtin "getset_descriptor.__get__")) ∧ PySem.W.takesIn K (.builtin "object.__class__") = some true ∧ (∀ u, RelV c u → u = cv) ∧ PySem.W.kitOne K (.ref C) cv = some b ∧ Q (.bl b) H
theorem call_isX {X : Cx} : CallR X (.builtin "isinstance") (rIsX X.K) := by
  intro pins s σ H xs us Q I r h
  obtain ⟨a, C, d, bmB, nid, fs, c, cv, b, rfl, ea, ed, T, sp, tk, hcv, e, q⟩ := h
  cases r with
  | cons rx rr => cases rr with
    | cons rt rr =>
      cases rr
      cases rx
      obtain rfl := hcv _ rt
      obtain ⟨t1, ho⟩ := exo_at I.hok ea
      obtain ⟨mA, hns, rel⟩ := exd_at I.hok ed
      obtain ⟨od, h1, _⟩ := lookIn_ns hns
      obtain ⟨cd, hc, _⟩ := PySem.W.any_some T.hd
      exact PySem.W.kia_one (PySem.W.kitx_exc (od := some od) (by rw [hc] <;> rfl) T.ga T.gg T.exC T.ha sp tk T.hm) I.kIn ⟨ho, rfl, rfl, h1⟩ e (fun z => nomatch z) fun tk' => ⟨.bl b, H, I.kept (t' := tk') fun _ _ z => z, rfl, q⟩
end KX

set_option Elab.async false
set_option maxRecDepth 100000
set_option maxHeartbeats 2000000
/-! Own exceptions raised with what they keep, caught with the context None; isinstance of a caught one that has a dict; defs called in the suite; C() of a class with *rest. -/
namespace KX
open PySem PySem.Spec PyProof.Rows L2 StX
theorem mk_endN {X : Cx} {pins : List (Addr × Obj)} {σ : L2.St} {H1 H2 : Hp} {Q : XK} {hp hp2 h2 : Heap} {g1 g2 : Array GenState} {d1 d2 : Drawn} {t1 t2 : Nat} {os1 os2 : OsState} {a C d : Addr} {fs : List (Str × V)} (T : Raises X (.ref C)) (I1 : Inv X pins σ H1 ⟨hp, g1, d1, t1, os1⟩)
    (ha : hp.objs.size ≤ a) (k : ∀ b o, hp.get? b = some o → hp2.get? b = some o) (un : Un (frs X.stack) [] (upd H1 a (exo a C none)) H2 hp2 h2) (hok : HOk X.prog X.w H2 h2) (ho : os2 = os1) (hb : AllBare g2)
    (ea : H2 a = some (exo a C (some d))) (ed : H2 d = some (exd d fs)) (hd1 : H1 d = none) (q : Q (.ref C) (some d) (upd (del H2 a) d (.xd fs))) : L2N.MkP X pins σ Q (.ref a) ⟨h2, g2, d2, t2, os2⟩ := by
  obtain ⟨t0, G, J, kG, ge, hoe, na⟩ := mk_end0 (d2 := d2) (t2 := t2) I1 ha k un hok ho hb ea ed hd1
  exact ⟨a, _, _, ⟨G, g2, d2, t2, os2⟩, _, .ref C, some d, rfl, J, kG, ge, hoe, ⟨rfl, rfl, fun vs e => by cases e; rfl⟩, rfl, rfl, na, rfl, hb, T, q⟩
section
variable {X : Cx} {CX : CXT} {x : Str} {C fI : Addr} {k : Nat} {fd : FuncData} {ps : List Str} {sp : Sp} {e : Expr} {es : List Expr} {ta : TA} {p pos : Pos}
theorem pmk_x {bmB : List Value} {newId : String} (T : ExK X.K C bmB newId) (tyC : PySem.W.typeIn X.K (.ref C) = some (.type "type")) (bs : Bs bmB newId) (iC : PySem.W.findIn X.K (.ref C) "__init__" = some (some (.ref fI))) (tI : PySem.W.isFn X.K (.ref fI) = true)
    (G : FnOk X.prog X.w X.K X.mg X.base CX k fI fd ps sp) (hr : Room (k + 1) X.A) (hb : Binds X.K fd ps []) (hx : Passes CX X (fun _ _ _ => False)) (hg : Gl X x) (hm : X.mg x = some (.ref C)) (ha : PA X (e :: es) ta)
    (hdb : (x == ("__debug__" : Str)) = false := by decide) (he : starEach (e :: es) X.env = (false, eval e X.env) :: starEach es X.env := by rfl) (hpl : (backTo pos (starEach es X.env)).any (·.1) = false := by rfl) :
    L2N.PMk X (.Call (.Name x p) (e :: es) [] pos) (tMkO C sp [] ta) := by
  intro pins s σ H Q I h
  refine wpAny_Call_Name_kw (ld_glob I hg hm ?_ hdb)
  refine PySem.W.callWith_K (h₀ := X.base) I.ok.mod.kin T.kC (thn (ha.run pos pins s σ H _ I h) fun us s1 hh => ?_) he hpl
  obtain ⟨vs, H1, I1, r1, hz, q1⟩ := hh
  refine ⟨I1.kIn, ?_⟩
  obtain ⟨B, iid, FB, SF⟩ := bs
  obtain ⟨nm, N', qn, bs', bm, hdct, sn, sub, ab, col, dd, k0, k1, k2, k3, k5, hC, hT⟩ := PySem.W.excInit_of I1.kIn T.init
  obtain ⟨oI, hoI, hcI⟩ : ∃ oI, s1.heap.get? fI = some oI ∧ oI.cls = .type "function" := by
    obtain ⟨oo, h1, h2⟩ := Option.map_eq_some_iff.mp (show (X.K.lookup fI).map (·.cls) = some (.type "function") from beq_iff_eq.mp tI)
    exact ⟨oo, I1.kIn _ _ h1, h2⟩
  obtain ⟨hp, g, dr, tk, os⟩ := s1
  have kk : ∀ b u, hp.get? b = some u → ((hp.push (PySem.W.kdv_tup us)).push (PySem.HandSPX.excO C hp.objs.size)).get? b = some u := fun b u z => Heap.get?_push_of_some _ (Heap.get?_push_of_some _ z)
  have hget : ((hp.push (PySem.W.kdv_tup us)).push (PySem.HandSPX.excO C hp.objs.size)).get? (hp.objs.size + 1) = some (PySem.HandSPX.excO C hp.objs.size) := by heap_get
  have I2 : Inv X pins σ (upd H1 (hp.objs.size + 1) (exo (hp.objs.size + 1) C none)) ⟨(hp.push (PySem.W.kdv_tup us)).push (PySem.HandSPX.excO C hp.objs.size), g, dr, tk, os⟩ := I1.laid (t' := tk) kk (Nat.le_succ _) (exo_ok hget)
  have hq := q1 (hp.objs.size + 1) (I1.hok.fresh (Nat.le_succ _))
  rw [List.append_nil] at hq
  have r2 : Vals (V.ref (hp.objs.size + 1) :: vs) (Value.ref (hp.objs.size + 1) :: us) := .cons rfl r1
  have hl : (Value.ref (hp.objs.size + 1) :: us ++ []).length = ps.length := by
    rw [List.append_nil, ← r2.length]
    exact G.len _ _ _ _ hq
  have hus : us.length ≤ sizeLine := by
    rw [← Paired.length r1, sizeLine_eq]
    omega
  have hbi := hb _ (Value.ref (hp.objs.size + 1) :: us) I2.kIn hl
  rw [List.append_nil] at hbi
  refine wpAny_call (PySem.HandSPX.call_own FB hT hC (PySem.W.looks_findIn I1.kIn iC) (fun self => PySem.W.exc_bind hoI hcI self) hus (codeAny_mono (G.run _ X.stack _ _ _ _ _ _ (fun _ _ _ => False) (hr.make C us []) (I2.env0.make C us []) hbi r2 hq) fun r s' hq' => ?_))
  cases r with
  | error er => exact hx pins σ _ _ er s' I2 hq'
  | ok fl =>
    cases fl with
    | ret u =>
      obtain ⟨v, H2, os2, bare2, un2, hok2, rv, ev, d, fs, ea, ed, hd1, q2⟩ := hq'
      subst ev
      obtain ⟨h2, g2, d2, t2, os'⟩ := s'
      exact ⟨rv, mk_endN (raises_own T.exC tyC) I1 (Nat.le_succ _) kk un2 hok2 os2 bare2 ea ed hd1 q2⟩
    | next => exact False.elim hq'
    | brk => exact False.elim hq'
    | cont => exact False.elim hq'
end
/-- isinstance(e, c), e the exception that the suite holds -/
theorem call_isEd {X : Cx} {a D d : Addr} {oe : Obj} {pn : List (Addr × Obj)} {bmB : List Value} {nid : String} (T : ExK X.K D bmB nid) (sp : PySem.W.specialIn X.K (.builtin "object.__class__") "__get__" = some (some (.builtin "getset_descriptor.__get__"))) (tk : PySem.W.takesIn X.K (.builtin "object.__class__") = some true)
    (hz : Zc (.ref D) (some d) oe) (hf : ∃ vs, oe.data = .fields vs) : CallR (X.suite a ((a, oe) :: pn)) (.builtin "isinstance") (fun xs H Q => (∃ fs, H d = some (.xd fs)) ∧ rIsE X.K D a xs H Q) := by
  intro pins s σ H xs us Q I r h
  obtain ⟨⟨fs, hd⟩, c, cv, b, rfl, hcv, e, q⟩ := h
  cases r with
  | cons rx rr =>
    cases rr with
    | cons rt rr =>
      cases rr
      cases rx
      have ec := hcv _ rt
      subst ec
      obtain ⟨hget, _⟩ := I.pin (a, oe) (List.mem_append.mpr (.inl List.mem_cons_self))
      obtain ⟨vs, hv⟩ := hf
      have hx : ObjOk X.prog X.w H s.heap d (.xd fs) := I.hok d _ hd
      obtain ⟨mA, hns, rel⟩ := hx
      obtain ⟨od, ho, _⟩ := lookIn_ns hns
      obtain ⟨cd, hc, _⟩ := PySem.W.any_some T.hd
      have J : PySem.W.InstAt s.heap a oe D (some od) := ⟨hget, hz.1, by unfold PySem.W.notCls; rw [hv] <;> rfl, by rw [hz.2]; exact ho⟩
      exact PySem.W.kia_one (PySem.W.kitx_exc (od := some od) (by rw [hc] <;> rfl) T.ga T.gg T.exC T.ha sp tk T.hm) I.kIn J e (fun z => nomatch z) fun tk' => ⟨.bl b, H, I.kept (t' := tk') fun _ _ z => z, rfl, q⟩
theorem cxUpN {P : Program} {w : World} : CXUp (L2N.CX P w) := by
  rintro outer s H s2 H2 E e s' un kp ho ⟨a, B, H', cls, d, ea, fl, hok, ub, na, os, ag, he⟩
  refine ⟨a, B, H', cls, d, ea, fl, hok, ⟨fun b o q n hb => ub.keep b o (kp b o q) (un.free b o q n (by simp)) hb, fun b o q hb => ub.slot b o (kp b o q) hb, fun b o q n => ub.free b o (kp b o q) (un.free b o q n (by simp)),
    fun b o q hb => ub.there b o (kp b o q) hb, fun b xs q => ub.tups b xs (un.tups b xs q), fun b o xs q => ub.frzs b o xs (un.frzs b o xs q), fun b ps q => ?_⟩, na, os.trans ho, ag, he⟩
  obtain ⟨m1, e1⟩ := un.tbls b ps q
  obtain ⟨m2, e2⟩ := ub.tbls b _ e1
  exact ⟨m1 ++ m2, by rw [e2, Array.append_assoc]⟩
theorem fnH_ok {P : Program} {w : World} {K : PySem.W.Frag} {mg : Str → Option Value} {base : Heap} {f : Addr} {x qual : Str} {params : Arguments} {body : List Stmt} {scope : Scope} {dvs : List V} {kws : List (Str × V)} {fd : FuncData} {CX : CXT} {N ps : List Str} {k : Nat} {sp : Sp}
    (F : FunD K x qual params body scope dvs kws f fd) (S : FnScope N ps scope) (len : ∀ vs H Q E, sp vs H Q E → vs.length = ps.length)
    (hbody : ∀ (cdv : Value) (A : Around) (outer : List Env) (s : Shared) (H : Hp) (vs : List V) (Q : VK) (E : XK) (p : Addr × Obj), L2H.Hot1 A p → L2H.RoomH k (A.deeper (envOfC qual scope s.heap.objs.size f cdv)) → sp vs H Q E →
      ∃ t, PSs (L2H.cxH CX P w K mg base N qual scope f cdv A outer s H E p) body t ∧ t { nx := fun _ H' => Q .non H', rt := Q } (start N vs) H) : L2H.FnH P w K mg base CX (k + 1) f fd ps sp := by
  obtain ⟨oc, od, dV, kV, doc, pm, an, cdv, ct, osl, rfl, lk, hcd, _, _⟩ := F.ex
  exact L2H.fn_ofH lk hcd S len fun A outer s H vs Q E p hot hr hsp => hbody cdv A outer s H vs Q E p hot hr hsp
theorem pe_makeR0 {X : Cx} {CX : CXT} {k : Nat} {f C : Addr} {sp : Sp} {E : XK} {x : Str} {p pos : Pos} (M : Mk X.K C f) (F : FnR X.prog X.w X.K X.mg X.base CX k f sp) (hr : Room (k + 1) X.A) (hg : Gl X x) (hm : X.mg x = some (.ref C)) (hx : Passes CX X E)
    (hdb : (x == ("__debug__" : Str)) = false := by decide) : PE X (.Call (.Name x p) [] [] pos) (tMakeR C sp E tNil) := by
  refine ⟨fun pins s σ H Q I h => ?_⟩
  refine wpAny_Call_Name_kw (ld_glob I hg hm ?_ hdb)
  exact PySem.W.callWith_K0 I.kIn M.kp (run_makeR (us := []) M F hr hx I .nil h)
end KX

set_option Elab.async false
set_option maxRecDepth 100000
set_option maxHeartbeats 2000000
/-! for i, x in enumerate(t), t a tuple. -/
namespace KX
open PySem PySem.Spec PyProof.Rows L2
open Sem (wp)
open AutoSeq1 (wpAny_loadPart')
/-- enumerate's maker, told of whatever begins to be walked -/
theorem enum_new1 {v : Value} {o : Obj} {G : Heap → Prop} (B : Begins v o G) :
    Meets (Builtin.«enumerate.__new__» ⟨[.type "enumerate", v], []⟩) (fun _ R s => G s.heap ∧ R (.ok (.ret (.ref (s.heap.push o).objs.size)))
        { s with heap := (s.heap.push o).push { cls := .type "enumerate", data := .fields #[.none, .bool false, .ref s.heap.objs.size, rawInt 0, .none, .none] } }) :=
  .of_wp fun prog w A R s hh => by
    obtain ⟨hp, g, d, tk, os⟩ := s
    have hsub := sub_enumerate
    have it : ∀ {A' : Around} {E Q : Value → Shared → Prop}, Q (.ref hp.objs.size) ⟨hp.push o, g, d, tk, os⟩ → wpAny (model prog w) A' (pyIter v) Q E ⟨hp, g, d, tk, os⟩ := fun q => B.iter _ _ _ _ ⟨hp, g, d, tk, os⟩ _ hh.1 q
    wp_walk using it
    refine wpAny_stack_any fun _ => wpAny_pure ?_
    split
    case h_1 c _ _ _ _ _ => cases (c == Value.type "enumerate") <;> (wp_walk using it; exact ⟨_, rfl, hh.2⟩)
    all_goals (wp_walk using it; exact ⟨_, rfl, hh.2⟩)
section
variable {prog : Program} {w : World} {A : Around} {E : Value → Shared → Prop} {s : Shared}
theorem enum_tup {t : Addr} {its : Array Value} {Q : Value → Shared → Prop} (ht : s.heap.IsTuple t its)
    (q : ∀ h', IsEnum h' (s.heap.objs.size + 1) s.heap.objs.size 0 .none → h'.IsTupleIter s.heap.objs.size t 0 → (∀ b u, s.heap.get? b = some u → h'.get? b = some u) → Q (.ref (s.heap.objs.size + 1)) { s with heap := h' }) :
    wpAny (model prog w) A (call (.type "enumerate") [.ref t]) Q E s := by
  refine callType_new F.called_enumerate (by decide) (F.typeCall_enumerate_1 _) (F.newCall_enumerate_1 _) (fun obj => F.args_object_init_2 obj _) F.entry_enumerate_new (enum_new1 (begins_tuple t its)) ⟨ht, ?_⟩
  generalize ho : ({ cls := .type "tuple_iterator", data := .fields #[.ref t, .int 0 0] } : Obj) = o
  have hf : o.isFreed = false := by rw [← ho]; rfl
  have hz : (s.heap.push o).objs.size = s.heap.objs.size + 1 := Heap.size_push ..
  show _ ∧ _
  rw [hz]
  have e1 : ((s.heap.push o).push { cls := .type "enumerate", data := .fields #[.none, .bool false, .ref s.heap.objs.size, rawInt 0, .none, .none] }).get? (s.heap.objs.size + 1) = some { cls := .type "enumerate", data := .fields #[.none, .bool false, .ref s.heap.objs.size, rawInt 0, .none, .none] } := by
    rw [← hz]
    exact Heap.get?_push_size _ rfl
  have e2 := Heap.get?_push_of_some ({ cls := .type "enumerate", data := .fields #[.none, .bool false, .ref s.heap.objs.size, rawInt 0, .none, .none] }) (Heap.get?_push_size s.heap hf)
  exact ⟨⟨_, e1, rfl⟩, q _ e1 ⟨o, e2, by rw [← ho], by rw [← ho]; rfl⟩ fun b u z => Heap.get?_push_of_some _ (Heap.get?_push_of_some _ z)⟩
end
/-- the tuple at a as it stands at each turn, each item in a new pair -/
def ItE (K : PySem.W.Frag) (a : Addr) : It where
  go := fun i H => ∃ (xs : List V) (x : V), SqT K H a xs ∧ xs[i]? = some x
  yld := fun i H v H' => ∃ T x, v = .ref T ∧ H T = none ∧ H' = upd H T (.tup [.int (i : Nat), x]) ∧ ∀ xs, SqT K H a xs → xs[i]? = some x
  stop := fun i H => ∃ xs : List V, SqT K H a xs ∧ xs.length = i
theorem tup_ne {h : Heap} {a it : Addr} {i : Nat} {its : Array Value} (hi : h.IsTupleIter it a i) (ht : h.IsTuple a its) : a ≠ it := by
  rintro rfl
  obtain ⟨o, ho, hc, _⟩ := hi
  obtain ⟨u, hu, uc, _⟩ := ht
  rw [ho] at hu
  cases hu
  rw [hc] at uc
  exact absurd (Value.type.inj uc) (by decide)
theorem turn_enumT {P : Program} {w : World} {K : PySem.W.Frag} {elts : List Expr} {kk : Nat} {tpos : Pos} (a e it : Addr) :
    Turn P w K (.Tuple elts kk tpos) (ItE K a) [e, it] e (fun i h => (∃ old, IsEnum h e it ((i : Nat) : Int) old) ∧ h.IsTupleIter it a i ∧ e ≠ it) where
  mem := by simp
  obj := fun i h st b hb => by
    obtain ⟨⟨old, he⟩, ⟨o, ho, hc, hd⟩, _⟩ := st
    rcases List.mem_cons.mp hb with rfl | hb
    · exact ⟨_, he, fun v q => nomatch q⟩
    · rw [List.mem_singleton.mp hb]
      exact ⟨o, ho, fun v q => by rw [hd] at q; cases q⟩
  keep := fun i h h' st k => ⟨st.1.imp fun old he => k e (by simp) _ he, st.2.1.at fun o q => k it (by simp) o q, st.2.2⟩
  item := by
    intro X hP hw hK hc i pins s σ H E I hf st hg
    subst hP hw hK
    obtain ⟨⟨old, he⟩, hit, hne⟩ := st
    obtain ⟨xs, x, hq, hx⟩ := hg
    obtain ⟨its, rv, p, hz⟩ := I.tuple hq
    obtain ⟨u, hu, ru⟩ := rv.get hx
    have p' : s.heap.IsTuple a its.toArray := p
    have hel : e < s.heap.objs.size := Heap.lt_size he
    have hil : it < s.heap.objs.size := by obtain ⟨_, q, _⟩ := hit; exact Heap.lt_size q
    have hlt : i < its.toArray.size := by
      have := (List.getElem?_eq_some_iff.mp hu).1
      simpa using this
    have hea : e ≠ a := by
      rintro rfl
      obtain ⟨o2, ho2, uc, _⟩ := p'
      rw [he] at ho2
      cases ho2
      exact absurd (Value.type.inj uc) (by decide)
    refine wpAny_pyNext_enum_itemD (Draws.tuple (A := X.A.in1) (I.ok.hd hc) it a (tup_ne hit p') its.toArray) he ⟨hit, p'⟩ hlt hne (by simp [hne, hea]) fun x2 h' tk hx2 ho st2 hT hsz hk => ?_
    obtain rfl : x2 = u := by
      have e1 : its.toArray[i]? = some u := by simpa using hu
      exact Option.some.inj (hx2.symm.trans e1)
    refine ⟨_, rfl, wpAny_letOwnedTupleGo_enum (s := { s with heap := h', toks := tk + 1 }) ho fun h'' he' sb => ?_⟩
    have hT2 : h''.get? s.heap.objs.size = some { cls := .type "tuple", data := .seq #[.int i tk, x2] } := (sb.2 _ (Nat.ne_of_gt hel)).trans hT
    have new : ObjOk X.prog X.w (upd H s.heap.objs.size (.tup [.int (i : Nat), x])) h'' s.heap.objs.size (.tup [.int (i : Nat), x]) :=
      ⟨by show 2 ≤ sizeLine; decide, [.int i tk, x2], .cons ⟨_, rfl⟩ (.cons ru .nil), ⟨_, hT2, rfl, _, rfl⟩⟩
    have I1 : Inv X pins σ (upd H s.heap.objs.size (.tup [.int (i : Nat), x])) { s with heap := h'', toks := tk + 1 } :=
      I.turnedNew (ch := [e, it]) (fun b ob hb q => (sb.2 b (fun z => hb (by simp [z]))).trans (hk b ob (fun z => hb (by simp [z])) (fun z => hb (by simp [z])) q)) hf (Nat.le_refl _) new
    refine ⟨.ref s.heap.objs.size, _, I1, rfl, ⟨_, x, rfl, I.hok.fresh (Nat.le_refl _), rfl, fun ys hy => by rw [I.tuple_inj hy hq]; exact hx⟩, ⟨⟨x2, ?_⟩, st2.1.at fun o q => (sb.2 it (Ne.symm hne)).trans q, hne⟩, fun b hb => ?_⟩
    · rw [show ((i + 1 : Nat) : Int) = (i : Int) + 1 by omega]
      exact he'
    · have hb' : b < s.heap.objs.size := by
        rcases List.mem_cons.mp hb with rfl | hb
        · exact hel
        · rw [List.mem_singleton.mp hb]
          exact hil
      rw [upd_ne (Nat.ne_of_lt hb')]
      exact (hf b hb).1
  done := by
    intro X hP hw hK hc i pins s σ H E I hf st hg
    subst hP hw hK
    obtain ⟨⟨old, he⟩, hit, hne⟩ := st
    obtain ⟨xs, hq, hx⟩ := hg
    obtain ⟨its, rv, p, hz⟩ := I.tuple hq
    have p' : s.heap.IsTuple a its.toArray := p
    obtain ⟨f0, f1, f2, f3, f4, f5⟩ := hf it (by simp)
    have hl := rv.length
    obtain rfl : i = its.toArray.size := by simp; omega
    exact wpAny_pyNext_enum_endD (Draws.tuple (A := X.A.in1) (I.ok.hd hc) it a (tup_ne hit p') its.toArray) he ⟨hit, p'⟩ fun h' eb => ⟨rfl, I.turned (t' := s.toks) (fun b o hb q => eb b o hb q) f0 f1 f3 f4 f5⟩
  self := fun A i s Q E st h => let ⟨⟨_, he⟩, _⟩ := st; wpAny_pyIter_enum he h
def iEnumT (K : PySem.W.Frag) (ta : TA) : TI := fun σ H R => ta σ H fun vs H1 => ∃ a xs, vs = [.ref a] ∧ SqT K H1 a xs ∧ R (ItE K a) H1
theorem pi_enumT {X : Cx} {e : Expr} {ta : TA} {p pos tpos : Pos} {elts : List Expr} {kk : Nat} (hg : Gl X "enumerate") (hm : X.mg "enumerate" = none) (ha : PA X [e] ta) (hs : starEach [e] X.env = [(false, eval e X.env)] := by rfl) :
    PI X (.Tuple elts kk tpos) (.Call (.Name "enumerate" p) [e] [] pos) (iEnumT X.K ta) := by
  refine ⟨fun pins s σ H R I h => Call_ (ld_blt I hg hm boot_enumerate (PyProof.Rows.callWith_type1 (thn (ha.run pos pins s σ H _ I h) fun us s1 hh => ?_) hs rfl))⟩
  obtain ⟨vs, H1, I1, r1, a, xs, rfl, hq, q⟩ := hh
  obtain rfl := Vals.ref1 r1
  obtain ⟨its, rv, p', hz⟩ := I1.tuple hq
  refine enum_tup p' fun h' he hit hk => wpAny_pyIter_enum he ?_
  have I2 : Inv X pins σ H1 { s1 with heap := h' } := I1.kept (t' := s1.toks) hk
  refine ⟨s1.heap.objs.size + 1, [s1.heap.objs.size + 1, s1.heap.objs.size], _, _, H1, rfl, I2, turn_enumT a (s1.heap.objs.size + 1) s1.heap.objs.size, ⟨⟨.none, he⟩, hit, Nat.succ_ne_self _⟩, fun b hb => ?_, q⟩
  have hle : s1.heap.objs.size ≤ b := by
    rcases List.mem_cons.mp hb with rfl | hb
    · exact Nat.le_succ _
    · rw [List.mem_singleton.mp hb]
      exact Nat.le_refl _
  exact I1.fpOk hle (I1.hok.fresh hle)
theorem walk_enumT {K : PySem.W.Frag} {a : Addr} {xs : List V} : Walk (ItE K a) xs.length (fun H => SqT K H a xs) (YPair (fun i => some (.int (i : Nat))) (fun i => xs[i]?)) :=
  ⟨fun i _ hi q => ⟨xs, xs[i], q, by simp [hi]⟩, fun _ q => ⟨xs, q, rfl⟩, fun i H v H' _ q y => y.elim fun T y => y.elim fun x y => ⟨T, .int (i : Nat), x, y.1, y.2.1, y.2.2.1, rfl, y.2.2.2 xs q⟩⟩
end KX

set_option Elab.async false
set_option maxRecDepth 100000
set_option maxHeartbeats 2000000
namespace KX
open PySem PySem.Spec PyProof.Rows L2
/-- a def's promise where no repr is running -/
structure FnG (P : Program) (w : World) (K : PySem.W.Frag) (mg : Str → Option Value) (base : Heap) (CX : CXT) (k : Nat) (f : Addr) (fd : FuncData) (ps : List Str) (sp : Sp) : Prop where
  len : ∀ vs H Q E, sp vs H Q E → vs.length = ps.length
  run : ∀ (A : Around) (outer : List Env) (s : Shared) (H : Hp) (args : Args) (us : List Value) (vs : List V) (Q : VK) (E : XK), A.guards = some [] → Room k A →
    Env0 P w K mg base A outer s H → BindsTo s fd args (ps.zip us) → Vals vs us → sp vs H Q E → codeAny (model P w) A (.call (.ref f) args) (CR CX outer P w H s Q E) s
section
variable {P : Program} {w : World} {K : PySem.W.Frag} {mg : Str → Option Value} {base : Heap} {CX : CXT} {k : Nat} {f : Addr} {fd : FuncData} {ps : List Str} {sp : Sp}
theorem FnG.of (F : FnOk P w K mg base CX k f fd ps sp) : FnG P w K mg base CX k f fd ps sp :=
  ⟨F.len, fun A outer s H args us vs Q E _ => F.run A outer s H args us vs Q E⟩
/-- the rule for a def whose body may use that no repr is running -/
theorem fnG_ok {x qual : Str} {params : Arguments} {body : List Stmt} {scope : Scope} {dvs : List V} {kws : List (Str × V)} {N : List Str} (F : FunD K x qual params body scope dvs kws f fd) (S : FnScope N ps scope)
    (len : ∀ vs H Q E, sp vs H Q E → vs.length = ps.length)
    (hbody : ∀ (cdv : Value) (A : Around) (outer : List Env) (s : Shared) (H : Hp) (vs : List V) (Q : VK) (E : XK),
      A.guards = some [] → Room k (A.deeper (envOfC qual scope s.heap.objs.size f cdv)) → sp vs H Q E →
      ∃ t, PSs (cxOf CX P w K mg base N qual scope f cdv A outer s H E) body t ∧ t { nx := fun _ G => Q .non G, rt := Q } (start N vs) H) :
    FnG P w K mg base CX (k + 1) f fd ps sp := by
  obtain ⟨oc, od, dV, kV, doc, pm, an, cdv, ct, osl, rfl, lk, hcd, _, _⟩ := F.ex
  constructor
  · exact len
  intro A outer s H args us vs Q E hg hr e0 hb r hsp
  have hn := len _ _ _ _ hsp
  have keep : ∀ b o, base.get? b = some o → s.heap.get? b = some o := fun b o z => (e0.bs b o z).1
  have hK : K.In s.heap := e0.mod.kin.keeps keep
  have hL : s.heap.NoLimit := e0.mod.nolimit.keeps keep
  refine codeAny_call_function hr.depth (hK _ _ lk) rfl S.co S.gen rfl (PySem.W.codeRec_of hK hcd) (hb _ _ _ _ ?_)
  refine wpAny_newFunctionEnv_cells S.kind (fun y hy => ?_) fun env he s1 x => ?_
  · rcases S.par y.1 (List.of_mem_zip (show (y.1, y.2) ∈ ps.zip us from hy)).1 with z | z
    · exact Or.inl z
    · exact Or.inr ⟨z, PySem.W.cellsFrom_some _ _ _ (Or.inl z)⟩
  · subst he
    refine ⟨hL.keeps x.toInCall.keep, codeAny_func ?_⟩
    obtain ⟨t, ht, hq⟩ := hbody cdv A outer s H vs Q E hg (hr.deeper _) hsp
    have I0 := inv_start (CX := CX) (E := E) S hr.hd e0 hn r x
    refine wpAny_mono (ht.run [] s1 (start N vs) H _ I0 hq) (fun fl s' z => ?_) fun _ _ z => z
    match fl, z with
    | .ret u, ⟨v, σ', G, J, rv, qv⟩ => exact ⟨v, G, J.os, J.bare, J.base, J.hok, rv, qv⟩
    | .next, ⟨σ', G, J, qv⟩ => exact ⟨.non, G, J.os, J.bare, J.base, J.hok, rfl, qv⟩
    | .brk, ⟨_, _, _, qv⟩ => exact False.elim qv
    | .cont, ⟨_, _, _, qv⟩ => exact False.elim qv
end
section
variable {X : Cx} {CX : CXT} {k : Nat} {f : Addr} {fd : FuncData} {ps : List Str} {sp : Sp} {dvs : List V} {ds : List Value} {E : XK} {x : Str} {p pos : Pos} {e : Expr} {es : List Expr} {t : TA}
/-- f(e, ..) where no repr is running -/
theorem pe_callG (F : FnG X.prog X.w X.K X.mg X.base CX k f fd ps sp) (gg : X.A.guards = some []) (hr : Room k X.A) (hg : Gl X x) (hm : X.mg x = some (.ref f)) (hk : PySem.W.keepIn X.K (.ref f) = true) (hb : Binds X.K fd ps ds) (hd : Vals dvs ds)
    (hx : Passes CX X E) (ha : PA X (e :: es) t) (hdb : (x == ("__debug__" : Str)) = false := by decide) (he : starEach (e :: es) X.env = (false, eval e X.env) :: starEach es X.env := by rfl)
    (hpl : (backTo pos (starEach es X.env)).any (·.1) = false := by rfl) : PE X (.Call (.Name x p) (e :: es) [] pos) (tCall sp dvs E t) := by
  constructor
  intro pins s σ H Q I h
  refine wpAny_Call_Name_kw (ld_glob I hg hm ?_ hdb)
  refine PySem.W.callWith_K (h₀ := X.base) I.ok.mod.kin hk (thn (ha.run pos pins s σ H _ I h) fun us s1 hh => ?_) he hpl
  obtain ⟨vs, H1, I1, r, q⟩ := hh
  refine ⟨I1.kIn, ?_⟩
  have r2 : Vals (vs ++ dvs) (us ++ ds) := r.append hd
  have hl : (us ++ ds).length = ps.length := r2.length.symm.trans (F.len _ _ _ _ q)
  refine wpAny_call (codeAny_mono (F.run X.A X.stack s1 H1 ⟨us, []⟩ _ _ Q E gg hr I1.env0 (hb s1 us I1.kIn hl) r2 q) fun res s' z => ?_)
  match res, z with
  | .error er, z => exact hx pins σ H1 s1 er s' I1 z
  | .ok (.ret u), z => exact I1.after z
  | .ok .next, z => exact False.elim z
  | .ok .brk, z => exact False.elim z
  | .ok .cont, z => exact False.elim z
end
/-! ### the law's own call -/
theorem law_atG {P : Program} {w : World} {K : PySem.W.Frag} {mg mb : Str → Option Value} {k : Nat} {fa a : Addr} {fd : FuncData} {x : Str} {sp : Sp} {s1 : Shared} {vs : List Value} {ns : List Int}
    (KI : K.In s1.heap) (hns : s1.heap.Ns mainGlobals mg) (hb : s1.heap.Ns builtinsNs mb) (hbb : ∀ x : Str, x ≠ "__name__" → mb x = bootBuiltins x) (hlim : s1.heap.NoLimit) (hg : s1.gens = #[])
    (ha : s1.heap.get? a = some { cls := .type "list", data := .seq vs.toArray }) (hi : IntsAre vs ns) (hl : ns.length ≤ sizeLine) (hr : Room k callerA)
    (F : ∀ base : Heap, K.In base → base.Ns mainGlobals mg → FnG P w K mg base CX0 k fa fd [x] sp) (hbind : ∀ (s : Shared) (u : Value), BindsTo s fd ⟨[u], []⟩ [(x, u)])
    (hsp : ∀ H : Hp, SqL K H a (ns.map V.int) → sp [.ref a] H (fun v _ => v = .bl true) E0) :
    codeAny (model P w) callerA (.call (.ref fa) ⟨[.ref a], []⟩) (fun r s' => r = .ok (.ret (.bool true)) ∧ PySem.OldK s1.heap s'.heap ∧ s'.os = s1.os ∧ AllBare s'.gens) s1 := by
  have rv := vals_ints hi
  have frozen : ∀ H : Hp, (∀ b u, H b = some u → b = a ∧ u = .frz { cls := .type "list", data := .seq vs.toArray } (.lst (ns.map V.int)) ∧ K.lookup a = none) → SqL K H a (ns.map V.int) →
      codeAny (model P w) callerA (.call (.ref fa) ⟨[.ref a], []⟩) (fun r s' => r = .ok (.ret (.bool true)) ∧ PySem.OldK s1.heap s'.heap ∧ s'.os = s1.os ∧ AllBare s'.gens) s1 := by
    intro H hH hS
    have free : ∀ b o, s1.heap.get? b = some o → (b = a → K.lookup a ≠ none ∨ (∀ its n, o.data ≠ .seq its n)) → H b = none := by
      intro b o e n
      cases q : H b with
      | none => rfl
      | some u =>
        obtain ⟨rfl, _, z3⟩ := hH b u q
        rw [ha] at e
        obtain rfl := Option.some.inj e
        rcases n rfl with n | n
        · exact absurd z3 n
        · exact absurd rfl (n vs.toArray _)
    have inK : K.In (hidT s1.heap H) := fun b o e => hidT_get (KI b o e) (free b o (KI b o e) fun z => .inl (by rw [← z, e]; simp))
    have nsOk : ∀ {b : Addr} {m : Str → Option Value}, s1.heap.Ns b m → (hidT s1.heap H).Ns b m := by
      rintro b m ⟨o, es, ep, e, d, r⟩
      exact ⟨o, es, ep, hidT_get e (free b o e fun _ => .inr fun its n z => by rw [d] at z; cases z), d, r⟩
    have hok : HOk P w H s1.heap := by
      intro b u q
      obtain ⟨rfl, rfl, _⟩ := hH b u q
      exact ⟨ha, by rw [List.length_map]; exact hl, vs, _, rv, ha⟩
    have md : Mod K mg (hidT s1.heap H) := ⟨inK, nsOk hns, ⟨mb, nsOk hb, hbb⟩, by
      obtain ⟨mc, h1, h2⟩ := hlim
      exact ⟨mc, nsOk h1, h2⟩⟩
    have e0 : Env0 P w K mg (hidT s1.heap H) callerA [] s1 H :=
      ⟨rfl, md, fun b o e => of_hidT e, Nat.le_of_eq (hidT_size _ _), trivial, fun b z => absurd (show b ∈ ([] : List Addr) from z) (by simp), hok, .of_eq hg⟩
    have go := (F _ inK (nsOk hns)).run callerA [] s1 H ⟨[.ref a], []⟩ [.ref a] [.ref a] _ _ rfl hr e0 (hbind s1 (.ref a)) (.cons rfl .nil) (hsp H hS)
    refine codeAny_mono go fun r s' z => ?_
    match r, z with
    | .error _, z => exact False.elim z
    | .ok .next, z => exact False.elim z
    | .ok .brk, z => exact False.elim z
    | .ok .cont, z => exact False.elim z
    | .ok (.ret u), ⟨v, G, os, bare, un, hok', rr, qv⟩ =>
      obtain rfl : v = .bl true := qv
      obtain rfl : u = Value.bool true := rr
      refine ⟨rfl, PySem.OldK.of_keep fun b o e => ?_, os, bare⟩
      cases q : H b with
      | none => exact un.keep b o e q (fun z => absurd (show b ∈ ([] : List Addr) from z) (by simp)) (by simp)
      | some t =>
        obtain ⟨rfl, rfl, _⟩ := hH b t q
        obtain ⟨e2, _⟩ := hok' _ _ (un.frzs _ _ _ q)
        exact e2.trans (ha.symm.trans e)
  cases hk : K.lookup a with
  | none =>
    refine frozen (fun b => if b = a then some (.frz { cls := .type "list", data := .seq vs.toArray } (.lst (ns.map V.int))) else none) (fun b u z => ?_) (.inl (.inr ⟨_, if_pos rfl⟩))
    by_cases hba : b = a
    · exact ⟨hba, (Option.some.inj ((if_pos hba).symm.trans z)).symm, hk⟩
    · exact nomatch (if_neg hba).symm.trans z
  | some o =>
    have e := KI a o hk
    rw [ha] at e
    obtain rfl := Option.some.inj e
    exact frozen (fun _ => none) (fun b u z => nomatch (show (none : Option HO) = some u from z))
      (.inr ⟨_, vs.toArray, _, hk, rfl, rfl, rfl, by rw [List.size_toArray, hi.length]; exact hl, by simpa using rv⟩)
/-- the goal that a head leaves, by the law's promise -/
theorem walk_atG {l : PySem.W.OpenLaw} {n k : Nat} {q : Program} {loose : List Str} {XP : (Str → Option Value) → Heap → Prop} {YP : World → Heap → Prop} {d : DefRec} {x : Str}
    (hn : l.most = some n) (hn2 : n ≤ sizeLine) (hdf : d.params.defaults = []) (hr : Room k callerA)
    (F : ∀ (w : World) (mg : Str → Option Value) (fa : Addr) (h : Heap), YP w h → h.Ns mainGlobals mg → mg d.name = some (.ref fa) →
      ∃ (K : PySem.W.Frag) (fd : FuncData) (sp : Sp), K.In h ∧ (∀ (s : Shared) (u : Value), BindsTo s fd ⟨[u], []⟩ [(x, u)]) ∧
        (∀ (H : Hp) (a : Addr) (ns : List Int), ns.length ≤ n → (∀ z ∈ ns, Builtin.Int.intBits z ≤ 1048576) → SqL K H a (ns.map V.int) → sp [.ref a] H (fun v _ => v = .bl true) E0) ∧
        ∀ base : Heap, K.In base → base.Ns mainGlobals mg → FnG l.prog w K mg base CX0 k fa fd [x] sp) :
    PySem.W.WalkO q loose XP YP l.row.toRowW d [] (fun f vs => PySem.call f vs) := by
  refine Att.attach_callB hn hdf fun w s₀ s₁ mg mb fa o pm cd doc a vs ns G Y ho hd hcd hmg hobj hints hlen hbits hg => ?_
  obtain ⟨K, fd, sp, KI, hb, hsp, hF⟩ := F w mg fa _ Y G.T.g hmg
  exact law_atG KI G.T.g G.T.b G.T.builtins G.T.nolimit hg hobj hints (Nat.le_trans hlen hn2) hr hF hb fun H hS => hsp H a ns hlen hbits hS
end KX

set_option Elab.async false
set_option maxRecDepth 100000
set_option maxHeartbeats 2000000
/-! The bag that a law draws from: what stands in it, what is promised of a draw. -/
namespace KX
open PySem PySem.Spec PyProof.Rows L2
/-- the bag at b: digits, a seed, a count of at most n -/
def Bag (H : Hp) (b : Addr) (n : Int) : Prop := ∃ d m c : Int, H b = some (.lst [.int d, .int m, .int c]) ∧ 0 ≤ d ∧ 0 ≤ m ∧ m < 2 ^ 61 ∧ 0 ≤ c ∧ c ≤ n
/-- all but b is as it was -/
def But (b : Addr) (H H' : Hp) : Prop := ∀ x, x ≠ b → H' x = H x
/-- what was tracked is as it was, but b -/
def Kept (b : Addr) (H H' : Hp) : Prop := ∀ x o, x ≠ b → H x = some o → H' x = some o
theorem But.kept {b : Addr} {H H' : Hp} (h : But b H H') : Kept b H H' := fun x o n e => (h x n).trans e
theorem Kept.refl (b : Addr) (H : Hp) : Kept b H H := fun _ _ _ e => e
theorem Kept.trans {b : Addr} {H H1 H2 : Hp} (h : Kept b H H1) (k : Kept b H1 H2) : Kept b H H2 := fun x o n e => k x o n (h x o n e)
theorem Kept.new {b p : Addr} {H : Hp} {o : HO} (h : H p = none) : Kept b H (upd H p o) := fun x u _ e => by
  rw [upd_ne (ne_of_none e h)]
  exact e
theorem Kept.seq {K : PySem.W.Frag} {b a : Addr} {H H' : Hp} {xs : List V} (k : Kept b H H') (n : a ≠ b) (h : SqL K H a xs) : SqL K H' a xs := by
  rcases h with (h | ⟨o, h⟩) | h
  · exact .inl (.inl (k _ _ n h))
  · exact .inl (.inr ⟨o, k _ _ n h⟩)
  · exact .inr h
theorem Bag.some {H : Hp} {b : Addr} {n : Int} (h : Bag H b n) : ∃ o, H b = some o := let ⟨_, _, _, e, _⟩ := h; ⟨_, e⟩
theorem Bag.ne {H : Hp} {b p : Addr} {n : Int} (h : Bag H b n) (hp : H p = none) : p ≠ b := by
  obtain ⟨o, e⟩ := h.some
  exact (ne_of_none e hp).symm
theorem Bag.put {H : Hp} {b p : Addr} {n : Int} {o : HO} (h : Bag H b n) (hp : p ≠ b) : Bag (upd H p o) b n := by
  obtain ⟨d, m, c, e, r⟩ := h
  exact ⟨d, m, c, (upd_ne hp.symm).trans e, r⟩
theorem Bag.mono {H : Hp} {b : Addr} {n n' : Int} (h : Bag H b n) (hn : n ≤ n') : Bag H b n' := by
  obtain ⟨d, m, c, e, r1, r2, r3, r4, r5⟩ := h
  exact ⟨d, m, c, e, r1, r2, r3, r4, by omega⟩
/-- _law_bag -/
def spBag (K : PySem.W.Frag) : Sp := fun vs H Q _ => ∃ (a : Addr) (ns : List Int) (i : Nat), vs = [.ref a, .int i] ∧ SqL K H a (ns.map V.int) ∧ ns.length ≤ 63 ∧ i ≤ 63 ∧ ∀ b H', H b = none → Kept b H H' → (∀ x, x ≠ b → H' x = H x) → Bag H' b 0 → Q (.ref b) H'
/-- _law_draw -/
def spDraw : Sp := fun vs H Q _ => ∃ (b : Addr) (n many : Int), vs = [.ref b, .int many] ∧ Bag H b n ∧ n < 1000000 ∧ 0 < many ∧ many.natAbs < 2 ^ 200 ∧ ∀ (r : Int) (H' : Hp), 0 ≤ r → r < many → But b H H' → Bag H' b (n + 1) → Q (.int r) H'
/-- _law_of -/
def spOf (K : PySem.W.Frag) : Sp := fun vs H Q _ => ∃ (b l : Addr) (n : Int) (xs : List V), vs = [.ref b, .ref l] ∧ Bag H b n ∧ n < 1000000 ∧ l ≠ b ∧ SqL K H l xs ∧ 0 < xs.length ∧ xs.length ≤ 1000 ∧
  ∀ (i : Nat) (v : V) (H' : Hp), xs[i]? = some v → But b H H' → Bag H' b (n + 1) → Q v H'
/-- the numbers of a draw -/
theorem draw_pow {m c : Int} (hm0 : 0 ≤ m) (hm : m < 2 ^ 61) (hc0 : 0 ≤ c) (hc : c ≤ 1000000) : CPow (m + 611953 * (c + 1)) 2 := by
  refine ⟨by decide, by decide, ?_⟩
  omega
theorem draw_pow3 {x c : Int} (hx0 : 0 ≤ x) (hx : x < 1152921504606846869) (hc0 : 0 ≤ c) (hc : c ≤ 1000000) : CPow (x + 15485863 * (c + 1)) 3 := by
  refine ⟨by decide, by decide, ?_⟩
  omega
theorem fmod_in {x y : Int} (h : 0 < y) : 0 ≤ x.fmod y ∧ x.fmod y < y := by
  rw [Int.fmod_eq_emod_of_nonneg x (Int.le_of_lt h)]
  exact ⟨Int.emod_nonneg x (by omega), Int.emod_lt_of_pos x h⟩
end KX

set_option Elab.async false
set_option maxRecDepth 100000
set_option maxHeartbeats 2000000
/-! Nested data on the abstract heap: it stays while what is tracked stays; bounds of its text. -/
namespace KX
open PySem PySem.Spec PyProof.Rows L2
theorem sqT_same {K : PySem.W.Frag} {H H' : Hp} {a : Addr} {xs : List V} (s : Same H H') (h : SqT K H a xs) : SqT K H' a xs := by
  rcases h with (h | ⟨o, h⟩) | h
  · exact .inl (.inl (s _ _ h))
  · exact .inl (.inr ⟨o, s _ _ h⟩)
  · exact .inr h
mutual
theorem dp_same {K : PySem.W.Frag} {H H' : Hp} (s : Same H H') : ∀ (d : PyData) (v : V), Dp K H v d → Dp K H' v d
  | .none, _, .non => .non
  | .bool _, _, .bl b => .bl b
  | .int _, _, .int i => .int i
  | .str _, _, .str x => .str x
  | .list ds, _, .lst hS ha => .lst (s.seq hS) (dps_same s ds _ ha)
  | .tuple ds, _, .tup hS ha => .tup (sqT_same s hS) (dps_same s ds _ ha)
  | .dict _, _, h => nomatch h
theorem dps_same {K : PySem.W.Frag} {H H' : Hp} (s : Same H H') : ∀ (ds : List PyData) (vs : List V), DpAll K H vs ds → DpAll K H' vs ds
  | [], _, .nil => .nil
  | d :: ds, _, .cons h hs => .cons (dp_same s d _ h) (dps_same s ds _ hs)
end
/-- what may be shown in little room -/
structure Small (d : PyData) (k n : Nat) : Prop where
  sh : d.showable = true
  nd : d.hasDict = false
  dp : d.depth ≤ k
  ln : d.shown.length ≤ n
/-- v is small data on H -/
def Good (K : PySem.W.Frag) (H : Hp) (v : V) : Prop := ∃ d, Dp K H v d ∧ Small d 2 100
theorem Good.same {K : PySem.W.Frag} {H H' : Hp} {v : V} (s : Same H H') (h : Good K H v) : Good K H' v := let ⟨d, h1, h2⟩ := h; ⟨d, dp_same s d v h1, h2⟩
theorem good_int {K : PySem.W.Frag} {H : Hp} {i : Int} (h : i.natAbs < 10 ^ 30) : Good K H (.int i) := by
  refine ⟨.int i, .int i, ⟨decide_eq_true ?_, rfl, Nat.zero_le _, ?_⟩⟩
  · have h2 : i.natAbs < 2 ^ 100 := Nat.lt_trans h (by decide)
    exact Nat.lt_trans (PySem.Flt.log2_lt_of (by decide) h2) (by decide)
  · have q := int_text_length_le10 (k := 30) (by decide) h
    show (Str.ofString (toString i)).length ≤ 100
    rw [PySem.ofString_length]
    omega
theorem textFrom_le {m : Nat} : ∀ (ts : List Str) (k : Nat) (acc : Str), (∀ t ∈ ts, t.length ≤ m) → (textFrom k acc ts).length ≤ acc.length + ts.length * (m + 2)
  | [], k, acc, _ => Nat.le_add_right _ _
  | t :: r, k, acc, h => by
    have q := textFrom_le r (k + 1) (acc ++ (if k > 0 then ", " else "" : String) ++ t) (fun u hu => h u (List.mem_cons_of_mem _ hu))
    have ht := h t List.mem_cons_self
    have e : (acc ++ (if k > 0 then ", " else "" : String) ++ t).length ≤ acc.length + 2 + t.length := by
      rw [Str.length_append, Str.length_append]
      have z : ((if k > 0 then ", " else "" : String) : Str).length ≤ 2 := by
        split <;> decide
      omega
    have f : (t :: r).length * (m + 2) = r.length * (m + 2) + (m + 2) := by rw [List.length_cons, Nat.succ_mul]
    show (textFrom (k + 1) _ r).length ≤ _
    omega
theorem listText_le {m : Nat} {ts : List Str} (h : ∀ t ∈ ts, t.length ≤ m) : (listText ts).length ≤ ts.length * (m + 2) + 2 := by
  have q := textFrom_le ts 0 ("[" : String) h
  unfold listText
  rw [Str.length_append]
  have e1 : (("[" : String) : Str).length = 1 := by decide
  have e2 : (("]" : String) : Str).length = 1 := by decide
  omega
theorem shownAll_mem : ∀ {ds : List PyData} {t : Str}, t ∈ PyData.shownAll ds → ∃ d ∈ ds, t = d.shown
  | [], _, h => nomatch h
  | d :: r, t, h => by
    rcases List.mem_cons.mp (show t ∈ d.shown :: PyData.shownAll r from h) with h | h
    · exact ⟨d, List.mem_cons_self, h⟩
    · obtain ⟨e, he, q⟩ := shownAll_mem h
      exact ⟨e, List.mem_cons_of_mem _ he, q⟩
theorem shownAll_len : ∀ ds : List PyData, (PyData.shownAll ds).length = ds.length
  | [] => rfl
  | d :: r => congrArg (· + 1) (shownAll_len r)
theorem small_all {k n : Nat} : ∀ {ds : List PyData}, (∀ d ∈ ds, Small d k n) → PyData.showableAll ds = true ∧ PyData.hasDictAll ds = false ∧ PyData.depthAll ds ≤ k
  | [], _ => ⟨rfl, rfl, Nat.zero_le _⟩
  | d :: r, h => by
    obtain ⟨h1, h2, h3⟩ := small_all (ds := r) fun e he => h e (List.mem_cons_of_mem _ he)
    have z := h d List.mem_cons_self
    refine ⟨?_, ?_, ?_⟩
    · show (d.showable && PyData.showableAll r) = true
      rw [z.sh, h1]
      rfl
    · show (d.hasDict || PyData.hasDictAll r) = false
      rw [z.nd, h2]
      rfl
    · exact Nat.max_le.mpr ⟨z.dp, h3⟩
/-- a list of small data is small, one deeper -/
theorem small_list {k n m : Nat} {ds : List PyData} (h : ∀ d ∈ ds, Small d k n) (hm : ds.length * (n + 2) + 2 ≤ m) : Small (.list ds) (k + 1) m := by
  obtain ⟨h1, h2, h3⟩ := small_all h
  refine ⟨h1, h2, Nat.succ_le_succ h3, Nat.le_trans (listText_le (m := n) fun t ht => ?_) (by rw [shownAll_len]; exact hm)⟩
  obtain ⟨d, hd, rfl⟩ := shownAll_mem ht
  exact (h d hd).ln
end KX

set_option Elab.async false
set_option maxRecDepth 100000
set_option maxHeartbeats 2000000
/-! Nested data: its type, what isinstance says of it; items of it; small walks. -/
namespace KX
open PySem PySem.Spec PyProof.Rows L2
def tyD : PyData → String
  | .none => "NoneType"
  | .bool _ => "bool"
  | .int _ => "int"
  | .str _ => "str"
  | .list _ => "list"
  | .tuple _ => "tuple"
  | .dict _ => "dict"
def isIntD : PyData → Bool
  | .int _ => true
  | _ => false
def isBoolD : PyData → Bool
  | .bool _ => true
  | _ => false
def isStrD : PyData → Bool
  | .str _ => true
  | _ => false
def isTupD : PyData → Bool
  | .tuple _ => true
  | _ => false
def isLstD : PyData → Bool
  | .list _ => true
  | _ => false
theorem dp_ty {K : PySem.W.Frag} {H : Hp} {v : V} {d : PyData} (h : Dp K H v d) : TyX K H v (.type (tyD d)) := by
  cases h with
  | non => exact .base .non
  | bl b => exact .base (.bl b)
  | int i => exact .base (.int i)
  | str z => exact .base (.str z)
  | tup h _ =>
    rcases h with h | ⟨o, its, n, h1, h2, _⟩
    · rcases h with h | ⟨o, h⟩
      · exact .base (.tup h)
      · exact .fTuple h
    · exact .kTuple h1 h2
  | lst h _ =>
    rcases h with h | ⟨o, its, n, h1, h2, _⟩
    · rcases h with h | ⟨o, h⟩
      · exact .base (.lst h)
      · exact .base (.frz h)
    · exact .kList h1 h2
theorem kit_int {K : PySem.W.Frag} (d : PyData) : PySem.W.kitOne K (.type (tyD d)) (.type "int") = some (isIntD d || isBoolD d) := by cases d <;> kernel_rfl
theorem kit_bool {K : PySem.W.Frag} (d : PyData) : PySem.W.kitOne K (.type (tyD d)) (.type "bool") = some (isBoolD d) := by cases d <;> kernel_rfl
theorem kit_str {K : PySem.W.Frag} (d : PyData) : PySem.W.kitOne K (.type (tyD d)) (.type "str") = some (isStrD d) := by cases d <;> kernel_rfl
theorem kit_tup {K : PySem.W.Frag} (d : PyData) : PySem.W.kitOne K (.type (tyD d)) (.type "tuple") = some (isTupD d) := by cases d <;> kernel_rfl
theorem kit_lst {K : PySem.W.Frag} (d : PyData) : PySem.W.kitOne K (.type (tyD d)) (.type "list") = some (isLstD d) := by cases d <;> kernel_rfl
theorem kit_seq {K : PySem.W.Frag} (d : PyData) : PySem.W.kitAny K (.type (tyD d)) [.type "list", .type "tuple"] = some (isLstD d || isTupD d) := by
  unfold PySem.W.kitAny PySem.W.kitAny PySem.W.kitAny
  rw [kit_lst, kit_tup]
  cases d <;> rfl
theorem ite2' {b : Bool} {A B : Prop} (h1 : b = true → A) (h2 : b = false → B) : if b = true then A else B := by
  cases b
  · exact h2 rfl
  · exact h1 rfl
theorem same_put {H : Hp} {p : Addr} {o : HO} (hp : H p = none) : Same H (upd H p o) := fun x u e => (upd_ne (ne_of_none e hp)).trans e
theorem sqL_same {K : PySem.W.Frag} {H H' : Hp} {a : Addr} {xs : List V} (s : Same H H') (h : SqL K H a xs) : SqL K H' a xs := by
  rcases h with (h | ⟨o, h⟩) | h
  · exact .inl (.inl (s _ _ h))
  · exact .inl (.inr ⟨o, s _ _ h⟩)
  · exact .inr h
theorem dpall_len {K : PySem.W.Frag} {H : Hp} : ∀ {xs : List V} {ds : List PyData}, DpAll K H xs ds → xs.length = ds.length
  | _, _, .nil => rfl
  | _, _, .cons _ h => congrArg (· + 1) (dpall_len h)
theorem dpall_at {K : PySem.W.Frag} {H : Hp} : ∀ {xs : List V} {ds : List PyData} {i : Nat} {x : V}, DpAll K H xs ds → xs[i]? = some x → ∃ d, ds[i]? = some d ∧ Dp K H x d
  | _, _, 0, _, .cons h _, e => ⟨_, rfl, by cases e; exact h⟩
  | _, _, i + 1, _, .cons _ t, e => dpall_at (i := i) t e
theorem dpall_snoc {K : PySem.W.Frag} {H : Hp} {x : V} {d : PyData} (h : Dp K H x d) : ∀ {xs : List V} {ds : List PyData}, DpAll K H xs ds → DpAll K H (xs ++ [x]) (ds ++ [d])
  | _, _, .nil => .cons h .nil
  | _, _, .cons h1 t => .cons h1 (dpall_snoc h t)
theorem dpall_app {K : PySem.W.Frag} {H : Hp} {ys : List V} {es : List PyData} (k : DpAll K H ys es) : ∀ {xs : List V} {ds : List PyData}, DpAll K H xs ds → DpAll K H (xs ++ ys) (ds ++ es)
  | _, _, .nil => k
  | _, _, .cons h1 t => .cons h1 (dpall_app k t)
theorem dpall_take {K : PySem.W.Frag} {H : Hp} : ∀ {xs : List V} {ds : List PyData} (i : Nat), DpAll K H xs ds → DpAll K H (xs.take i) (ds.take i)
  | _, _, 0, _ => .nil
  | _, _, _ + 1, .nil => .nil
  | _, _, i + 1, .cons h t => .cons h (dpall_take i t)
theorem dpall_drop {K : PySem.W.Frag} {H : Hp} : ∀ {xs : List V} {ds : List PyData} (i : Nat), DpAll K H xs ds → DpAll K H (xs.drop i) (ds.drop i)
  | _, _, 0, h => h
  | _, _, _ + 1, .nil => .nil
  | _, _, i + 1, .cons _ t => dpall_drop i t
theorem dpall_set {K : PySem.W.Frag} {H : Hp} {x : V} {d : PyData} (h : Dp K H x d) : ∀ {xs : List V} {ds : List PyData} (i : Nat), DpAll K H xs ds → DpAll K H (xs.set i x) (ds.set i d)
  | _, _, _, .nil => .nil
  | _, _, 0, .cons _ t => .cons h t
  | _, _, i + 1, .cons h1 t => .cons h1 (dpall_set h i t)
theorem dpall_erase {K : PySem.W.Frag} {H : Hp} : ∀ {xs : List V} {ds : List PyData} (i : Nat), DpAll K H xs ds → DpAll K H (xs.eraseIdx i) (ds.eraseIdx i)
  | _, _, _, .nil => .nil
  | _, _, 0, .cons _ t => t
  | _, _, i + 1, .cons h t => .cons h (dpall_erase i t)
theorem dpall_3 {K : PySem.W.Frag} {H : Hp} : ∀ {xs : List V} {ds : List PyData}, DpAll K H xs ds → xs.length = 3 → ∃ x y z a b c, xs = [x, y, z] ∧ ds = [a, b, c] ∧ Dp K H x a ∧ Dp K H y b ∧ Dp K H z c
  | _, _, .cons h1 (.cons h2 (.cons h3 .nil)), _ => ⟨_, _, _, _, _, _, rfl, rfl, h1, h2, h3⟩
  | _, _, .nil, e => nomatch e
  | _, _, .cons _ .nil, e => nomatch e
  | _, _, .cons _ (.cons _ .nil), e => nomatch e
  | _, _, .cons _ (.cons _ (.cons _ (.cons _ _))), e => absurd e (by simp)
/-- a text's data -/
theorem dpall_strs {K : PySem.W.Frag} {H : Hp} : ∀ zs : List Str, DpAll K H (zs.map V.str) (zs.map PyData.str)
  | [] => .nil
  | z :: zs => .cons (.str z) (dpall_strs zs)
/-- one of two walks -/
theorem pi_or {X : Cx} {tg e : Expr} {A B : TI} (ha : PI X tg e A) (hb : PI X tg e B) : PI X tg e (fun σ H R => A σ H R ∨ B σ H R) :=
  ⟨fun pins s σ H R I h => h.elim (ha.run pins s σ H R I) (hb.run pins s σ H R I)⟩
theorem take_at {α : Type} {xs : List α} {i : Nat} {x : α} (h : xs[i]? = some x) : xs.take (i + 1) = xs.take i ++ [x] := by
  rw [List.take_add_one, h]
  rfl
theorem ixN_nat {n j : Nat} (h : j < n) : ixN n (j : Int) = some j := by
  unfold ixN
  rw [if_pos (by omega), if_pos (by omega)]
  rfl
theorem len_is {α : Type} {xs : List α} (j : Nat) (c : decide (V.int ((xs.length : Nat) : Int) = V.int (j : Int)) = true) : xs.length = j := by
  have q := V.int.inj (of_decide_eq_true c)
  omega
theorem len_not {α : Type} {xs : List α} (j : Nat) (c : decide (V.int ((xs.length : Nat) : Int) = V.int (j : Int)) = false) : xs.length ≠ j := fun e => of_decide_eq_false c (by rw [e])
theorem len_isN {α : Type} {xs : List α} (j : Nat) (c : (!decide (V.int ((xs.length : Nat) : Int) = V.int (j : Int))) = false) : xs.length = j := by
  refine len_is j ?_
  revert c
  cases decide (V.int ((xs.length : Nat) : Int) = V.int (j : Int)) <;> intro q
  · cases q
  · rfl
theorem len_notN {α : Type} {xs : List α} (j : Nat) (c : (!decide (V.int ((xs.length : Nat) : Int) = V.int (j : Int))) = true) : xs.length ≠ j := by
  rintro e
  rw [e, decide_eq_true rfl] at c
  cases c
theorem lay_all {k : Nat} : ∀ {ds : List PyData}, (∀ d ∈ ds, d.canLay0 = true ∧ d.depth ≤ k) → PyData.canLayAll0 ds = true ∧ PyData.depthAll ds ≤ k
  | [], _ => ⟨rfl, Nat.zero_le _⟩
  | d :: ds, h => by
    obtain ⟨h1, h2⟩ := h d List.mem_cons_self
    obtain ⟨h3, h4⟩ := lay_all fun e he => h e (List.mem_cons_of_mem _ he)
    refine ⟨?_, ?_⟩
    · show (d.canLay0 && PyData.canLayAll0 ds) = true
      rw [h1, h3]
      rfl
    · show max d.depth (PyData.depthAll ds) ≤ k
      exact Nat.max_le.mpr ⟨h2, h4⟩
theorem list_shaped {ds : List PyData} (h : ∀ d ∈ ds, d.canLay0 = true ∧ d.depth ≤ 60) : SeqAt.shaped (.list ds) = true := by
  obtain ⟨h1, h2⟩ := lay_all h
  unfold SeqAt.shaped
  refine Bool.and_eq_true_iff.mpr ⟨h1, decide_eq_true ?_⟩
  show PyData.depthAll ds + 1 ≤ 64
  omega
end KX

set_option Elab.async false
set_option maxRecDepth 100000
set_option maxHeartbeats 2000000
/-! Names: texts of 1 to 8 letters a to z. -/
namespace KX
open PySem PySem.Spec PyProof.Rows L2
def isLet (c : Nat) : Bool := decide (97 ≤ c) && decide (c ≤ 122)
def isNm (z : Str) : Bool := decide (1 ≤ z.length) && decide (z.length ≤ 8) && z.cps.toList.all isLet
def nmD : PyData → Bool
  | .str z => isNm z
  | _ => false
def okN (d : PyData) : Prop := ∀ z, d = .str z → z.length ≤ 1000
theorem letters_eq : (("abcdefghijklmnopqrstuvwxyz" : Str)).cps.toList = [97, 98, 99, 100, 101, 102, 103, 104, 105, 106, 107, 108, 109, 110, 111, 112, 113, 114, 115, 116, 117, 118, 119, 120, 121, 122] := by decide +kernel
theorem mem_26 (c : Nat) : c ∈ ([97, 98, 99, 100, 101, 102, 103, 104, 105, 106, 107, 108, 109, 110, 111, 112, 113, 114, 115, 116, 117, 118, 119, 120, 121, 122] : List Nat) ↔ (97 ≤ c ∧ c ≤ 122) := by
  constructor
  · intro h
    have k : ∀ x ∈ ([97, 98, 99, 100, 101, 102, 103, 104, 105, 106, 107, 108, 109, 110, 111, 112, 113, 114, 115, 116, 117, 118, 119, 120, 121, 122] : List Nat), 97 ≤ x ∧ x ≤ 122 := by decide
    exact k c h
  · rintro ⟨h1, h2⟩
    obtain ⟨k, rfl⟩ : ∃ k, c = 97 + k := ⟨c - 97, by omega⟩
    have hk : k < 26 := by omega
    have z : ∀ k : Fin 26, 97 + k.val ∈ ([97, 98, 99, 100, 101, 102, 103, 104, 105, 106, 107, 108, 109, 110, 111, 112, 113, 114, 115, 116, 117, 118, 119, 120, 121, 122] : List Nat) := by decide
    exact z ⟨k, hk⟩
theorem mem_letters (c : Nat) : decide (c ∈ (("abcdefghijklmnopqrstuvwxyz" : Str)).cps.toList) = isLet c := by
  rw [letters_eq]
  unfold isLet
  by_cases h : 97 ≤ c ∧ c ≤ 122
  · rw [decide_eq_true h.1, decide_eq_true h.2]
    exact decide_eq_true ((mem_26 c).mpr h)
  · have e : (decide (97 ≤ c) && decide (c ≤ 122)) = false := by
      by_cases h1 : 97 ≤ c
      · rw [decide_eq_true h1, decide_eq_false (fun h2 => h ⟨h1, h2⟩)]
        rfl
      · rw [decide_eq_false h1]
        rfl
    rw [e]
    exact decide_eq_false fun q => h ((mem_26 c).mp q)
theorem one_lt (a b : Nat) : ([a] < [b]) ↔ a < b := by
  constructor
  · intro h
    rcases List.cons_lt_cons_iff.mp h with h | ⟨rfl, h⟩
    · exact h
    · exact absurd h (List.lt_irrefl _)
  · intro h
    exact List.cons_lt_cons_iff.mpr (.inl h)
theorem lo_let (c : Nat) : (!decide ((⟨#[c]⟩ : Str).cps.toList < (("a" : Str)).cps.toList)) = decide (97 ≤ c) := by
  have e : (("a" : Str)).cps.toList = [97] := by decide +kernel
  rw [e]
  show (!decide ([c] < [97])) = _
  by_cases h : 97 ≤ c
  · rw [decide_eq_true h, decide_eq_false (fun q => by have := (one_lt _ _).mp q; omega)]
    rfl
  · rw [decide_eq_false h, decide_eq_true ((one_lt _ _).mpr (by omega))]
    rfl
theorem hi_let (c : Nat) : (!decide ((("z" : Str)).cps.toList < (⟨#[c]⟩ : Str).cps.toList)) = decide (c ≤ 122) := by
  have e : (("z" : Str)).cps.toList = [122] := by decide +kernel
  rw [e]
  show (!decide ([122] < [c])) = _
  by_cases h : c ≤ 122
  · rw [decide_eq_true h, decide_eq_false (fun q => by have := (one_lt _ _).mp q; omega)]
    rfl
  · rw [decide_eq_false h, decide_eq_true ((one_lt _ _).mpr (by omega))]
    rfl
theorem nm_off {d : PyData} (h : isStrD d = false) : nmD d = false := by cases d <;> first | rfl | cases h
theorem nm_short {z : Str} (h : z.length < 1) : isNm z = false := by
  unfold isNm
  rw [decide_eq_false (by omega)]
  rfl
theorem nm_long {z : Str} (h : z.length > 8) : isNm z = false := by
  unfold isNm
  rw [decide_eq_false (show ¬ z.length ≤ 8 by omega), Bool.and_false]
  rfl
theorem nm_mid {z : Str} (h1 : ¬ z.length < 1) (h2 : ¬ z.length > 8) : isNm z = z.cps.toList.all isLet := by
  unfold isNm
  rw [decide_eq_true (by omega), decide_eq_true (by omega)]
  rfl
/-- what is promised of is_name -/
def spName (K : PySem.W.Frag) : Sp := fun vs H Q _ => ∃ (x : V) (d : PyData), vs = [x] ∧ Dp K H x d ∧ okN d ∧ ∀ H', Same H H' → Q (.bl (nmD d)) H'
def spInt (K : PySem.W.Frag) : Sp := fun vs H Q _ => ∃ (x : V) (d : PyData), vs = [x] ∧ Dp K H x d ∧ Q (.bl (isIntD d)) H
theorem str_dec (u v : Str) : decide (V.str u = V.str v) = decide (u = v) := by
  by_cases h : u = v
  · rw [h, decide_eq_true rfl, decide_eq_true rfl]
  · rw [decide_eq_false (fun q => h (V.str.inj q)), decide_eq_false h]
theorem str_dec' (u v : Str) : decide (V.str u = V.str v) = decide (v = u) := by
  rw [str_dec]
  by_cases h : u = v
  · rw [h]
  · rw [decide_eq_false h, decide_eq_false (fun q => h q.symm)]
end KX

set_option Elab.async false
set_option maxRecDepth 100000
set_option maxHeartbeats 2000000
/-! A walk over a thing that is a list or a tuple. -/
namespace KX
open PySem PySem.Spec PyProof.Rows L2
section
variable {X : Cx} {tg : Expr}
def Sq (K : PySem.W.Frag) (H : Hp) (a : Addr) (xs : List V) : Prop := SqL K H a xs ∨ SqT K H a xs
theorem Sq.same {K : PySem.W.Frag} {H H' : Hp} {a : Addr} {xs : List V} (s : Same H H') (h : Sq K H a xs) : Sq K H' a xs := h.imp (sqL_same s) (sqT_same s)
def iSeq (K : PySem.W.Frag) (tl : TE) : TI := fun σ H R => tl σ H fun x H1 => ∃ a xs, x = .ref a ∧ Sq K H1 a xs ∧ ∀ J, Walk J xs.length (fun G => Same H1 G) (YAt xs) → R J H1
theorem pi_seq {l : Expr} {tl : TE} (hl : PE X l tl) : PI X tg l (iSeq X.K tl) := by
  refine ⟨fun pins s σ H R I h => ?_⟩
  refine thn (hl.run pins s σ H _ I h) fun v s1 ⟨x, H1, I1, r1, q1⟩ => ?_
  obtain ⟨a, xs, e, hq, q⟩ := q1
  subst e
  cases r1
  rcases hq with hq | hq
  · obtain ⟨its, rv, p, hz⟩ := I1.list hq
    refine wpAny_pyIter_list p.isList ?_
    refine ⟨s1.heap.objs.size, [s1.heap.objs.size], _, _, H1, rfl, I1.kept (t' := s1.toks) fun b o e => Heap.get?_push_of_some _ e, turn_list a _, ⟨_, Heap.get?_push_size _ rfl, rfl, rfl⟩, fun b hb => ?_, q _ (walk_list.mono (fun G z => sqL_same z hq) fun _ _ _ _ _ _ y => y)⟩
    have e : b = s1.heap.objs.size := by simpa using hb
    subst e
    exact I1.fpOk (Nat.le_refl _) (I1.hok.fresh (Nat.le_refl _))
  · obtain ⟨its, rv, p, hz⟩ := I1.tuple hq
    refine wpAny_pyIter_tuple (show s1.heap.IsTuple a its.toArray from p) ?_
    refine ⟨s1.heap.objs.size, [s1.heap.objs.size], _, _, H1, rfl, I1.kept (t' := s1.toks) fun b o e => Heap.get?_push_of_some _ e, turn_tuple a _, ⟨_, Heap.get?_push_size _ rfl, rfl, rfl⟩, fun b hb => ?_, q _ (walk_tup.mono (fun G z => sqT_same z hq) fun _ _ _ _ _ _ y => y)⟩
    have e : b = s1.heap.objs.size := by simpa using hb
    subst e
    exact I1.fpOk (Nat.le_refl _) (I1.hok.fresh (Nat.le_refl _))
def iEnumS (K : PySem.W.Frag) (ta : TA) : TI := fun σ H R => ta σ H fun vs H1 => ∃ a xs, vs = [.ref a] ∧ Sq K H1 a xs ∧ ∀ J, Walk J xs.length (fun G => Same H1 G) (YPair (fun i => some (.int (i : Nat))) (fun i => xs[i]?)) → R J H1
theorem pi_enumS {e : Expr} {ta : TA} {p pos tpos : Pos} {elts : List Expr} {kk : Nat} (hg : Gl X "enumerate") (hm : X.mg "enumerate" = none) (ha : PA X [e] ta) (hs : starEach [e] X.env = [(false, eval e X.env)] := by rfl) :
    PI X (.Tuple elts kk tpos) (.Call (.Name "enumerate" p) [e] [] pos) (iEnumS X.K ta) := by
  refine ⟨fun pins s σ H R I h => Call_ (ld_blt I hg hm boot_enumerate (PyProof.Rows.callWith_type1 (thn (ha.run pos pins s σ H _ I h) fun us s1 hh => ?_) hs rfl))⟩
  obtain ⟨vs, H1, I1, r1, a, xs, rfl, hq, q⟩ := hh
  obtain rfl := Vals.ref1 r1
  rcases hq with hq | hq
  · obtain ⟨its, rv, p', hz⟩ := I1.list hq
    refine call_enumerate_list p'.isList fun h' he hit hsz hk => wpAny_pyIter_enum he ?_
    have I2 : Inv X pins σ H1 { s1 with heap := h' } := I1.kept (t' := s1.toks) hk
    refine ⟨s1.heap.objs.size + 1, [s1.heap.objs.size + 1, s1.heap.objs.size], _, _, H1, rfl, I2, turn_enum a (s1.heap.objs.size + 1) s1.heap.objs.size, ⟨⟨.none, he⟩, hit, Nat.succ_ne_self _⟩, fun b hb => ?_, q _ (walk_enum.mono (fun G z => sqL_same z hq) fun _ _ _ _ _ _ y => y)⟩
    have hle : s1.heap.objs.size ≤ b := by
      rcases List.mem_cons.mp hb with rfl | hb
      · exact Nat.le_succ _
      · rw [List.mem_singleton.mp hb]
        exact Nat.le_refl _
    exact I1.fpOk hle (I1.hok.fresh hle)
  · obtain ⟨its, rv, p', hz⟩ := I1.tuple hq
    refine enum_tup p' fun h' he hit hk => wpAny_pyIter_enum he ?_
    have I2 : Inv X pins σ H1 { s1 with heap := h' } := I1.kept (t' := s1.toks) hk
    refine ⟨s1.heap.objs.size + 1, [s1.heap.objs.size + 1, s1.heap.objs.size], _, _, H1, rfl, I2, turn_enumT a (s1.heap.objs.size + 1) s1.heap.objs.size, ⟨⟨.none, he⟩, hit, Nat.succ_ne_self _⟩, fun b hb => ?_, q _ (walk_enumT.mono (fun G z => sqT_same z hq) fun _ _ _ _ _ _ y => y)⟩
    have hle : s1.heap.objs.size ≤ b := by
      rcases List.mem_cons.mp hb with rfl | hb
      · exact Nat.le_succ _
      · rw [List.mem_singleton.mp hb]
        exact Nat.le_refl _
    exact I1.fpOk hle (I1.hok.fresh hle)
/-- xs[i] of a list or a tuple -/
theorem atI_len {α β : Type} (f : α → β) (xs : List α) (i : Int) : atI (xs.map f) i = (atI xs i).map f := by
  unfold atI
  rw [List.length_map]
  cases ixN xs.length i with
  | none => rfl
  | some j =>
    show (xs.map f)[j]? = (xs[j]?).map f
    rw [List.getElem?_map]
end
end KX
namespace KX
open PySem PySem.Spec PyProof.Rows L2
theorem ix_of {K : PySem.W.Frag} {H : Hp} {a : Addr} {xs : List V} {i : Int} {v : V} {Q : VK} (h : Sq K H a xs) (e : atI xs i = some v) (q : Q v H) : rIx K (.ref a) (.int i) H Q :=
  h.elim (fun h => .inl ⟨a, xs, i, v, rfl, rfl, h, e, q⟩) fun h => .inr (.inl ⟨a, xs, i, v, rfl, rfl, h, e, q⟩)
/-- the place ahead of i, around -/
def pred (n i : Nat) : Nat := if i = 0 then n - 1 else i - 1
theorem pred_lt {n i : Nat} (h : i < n) : pred n i < n := by unfold pred; split <;> omega
theorem ixN_pred {n i : Nat} (h : i < n) : ixN n ((i : Int) - 1) = some (pred n i) := by
  unfold ixN pred
  by_cases h0 : i = 0
  · subst h0
    rw [if_neg (by omega), if_pos (by omega), if_pos rfl]
    congr 1
    omega
  · rw [if_pos (by omega), if_pos (by omega), if_neg h0]
    congr 1
    omega
theorem atI_pred {α : Type} {xs : List α} {i : Nat} (h : i < xs.length) : atI xs ((i : Int) - 1) = xs[pred xs.length i]? := by
  unfold atI
  rw [ixN_pred h]
  rfl
theorem range_at {n i : Nat} : (List.range n).take n = List.range n := by rw [List.take_of_length_le (by rw [List.length_range]; exact Nat.le_refl _)]
theorem map_range_succ {α : Type} (f : Nat → α) (i : Nat) : (List.range (i + 1)).map f = (List.range i).map f ++ [f i] := by
  rw [List.range_succ, List.map_append]
  rfl
theorem walk_rng {n : Nat} : Walk (Itr 0 n) n (fun _ => True) (fun i H x H' => H' = H ∧ x = .int ((i : Nat) : Int)) :=
  walk_range.mono (fun _ h => h) fun i H x H' _ _ y => ⟨y.1, by rw [y.2]; show V.int (0 + (i : Int)) = _; rw [Int.zero_add]⟩
def rLenQ (K : PySem.W.Frag) : List V → Hp → VK → Prop := fun xs H Q => ∃ p ys, xs = [.ref p] ∧ (SqL K H p ys ∨ SqT K H p ys) ∧ Q (.int ys.length) H
end KX

set_option Elab.async false
set_option maxRecDepth 100000
set_option maxHeartbeats 2000000
/-! len, bool, abs, in, ==, >>, + of own instances, by own methods; max(.., default=). -/
namespace KX
open PySem PySem.Spec PySem.Calls PyProof.Rows L2
section
variable {X : Cx} {pins : List (Addr × Obj)} {σ : L2.St} {H : Hp} {s : Shared} {CX : CXT} {k : Nat} {f C : Addr} {fd : FuncData} {ps : List Str} {sp : Sp} {E : XK}
/-- f called by a built-in, one call deep -/
theorem run_in1 {us : List Value} {vs : List V} {Q : VK} (F : FnOk X.prog X.w X.K X.mg X.base CX k f fd ps sp) (hr : Room (k + 1) X.A) (hb : Binds X.K fd ps []) (hx : Passes CX X E) (I : Inv X pins σ H s) (r : Vals vs us) (h : sp vs H Q E) :
    wpAny (model X.prog X.w) X.A.in1 (call (.ref f) us) (EP X pins σ Q) X.xe s := by
  have hl : (us ++ []).length = ps.length := by
    rw [List.append_nil, ← r.length]
    exact F.len _ _ _ _ h
  have hbi := hb s us I.kIn hl
  rw [List.append_nil] at hbi
  refine wpAny_call (codeAny_mono (F.run X.A.in1 X.stack s H ⟨us, []⟩ us vs Q E hr.in1 I.env0.in1 hbi r h) fun res s' z => ?_)
  match res, z with
  | .error e, z => exact hx pins σ H s e s' I z
  | .ok (.ret u), z => exact I.after z
  | .ok .next, z => exact False.elim z
  | .ok .brk, z => exact False.elim z
  | .ok .cont, z => exact False.elim z
theorem run_in0 {us : List Value} {vs : List V} {Q : VK} (F : FnOk X.prog X.w X.K X.mg X.base CX k f fd ps sp) (hr : Room k X.A) (hb : Binds X.K fd ps []) (hx : Passes CX X E) (I : Inv X pins σ H s) (r : Vals vs us) (h : sp vs H Q E) :
    wpAny (model X.prog X.w) X.A (call (.ref f) us) (EP X pins σ Q) X.xe s :=
  run_fn (dvs := []) F hr hb .nil hx I r (by rw [List.append_nil]; exact h)
/-- an instance of C that H tracks -/
abbrev InsT (H : Hp) (a C : Addr) : Prop := ∃ dx fs, H a = some (.ins C dx fs)
theorem insT_at (I : Inv X pins σ H s) {a : Addr} (h : InsT H a C) : ∃ ox od, PySem.W.InstAt s.heap a ox C od := by
  obtain ⟨dx, fs, h⟩ := h
  obtain ⟨mA, O, _⟩ := ins_get I.hok h
  obtain ⟨od, J, _⟩ := O.look
  exact ⟨_, _, J⟩
/-- len(o) -/
theorem call_lenO (m : Meth X.K C "__len__" f) (F : FnOk X.prog X.w X.K X.mg X.base CX k f fd ps sp) (hr : Room (k + 1) X.A) (hb : Binds X.K fd ps []) (hx : Passes CX X E) :
    CallR X (.builtin "len") (fun xs H Q => ∃ a, xs = [.ref a] ∧ InsT H a C ∧ sp [.ref a] H (fun v H' => ∃ n : Nat, v = .int n ∧ n < 2 ^ 62 ∧ Q (.int n) H') E) := by
  intro pins s σ H xs us Q I r h
  obtain ⟨a, rfl, hi, q⟩ := h
  obtain rfl := Vals.ref1 r
  obtain ⟨ox, od, J⟩ := insT_at I hi
  obtain ⟨m', fr⟩ := I.fr
  refine PySem.W.len_K fr I.mod.kin J m.at_ m.fn (wpAny_mono (run_in1 F hr hb hx I r q) (fun u s' z => ?_) fun _ _ z => z)
  obtain ⟨v, H', I', rv, n, rfl, hn, q'⟩ := z
  obtain ⟨t, rfl⟩ := rv
  exact ⟨⟨by omega, by omega⟩, .int n, H', I'.tok _, ⟨_, rfl⟩, q'⟩
/-- the truth of o -/
theorem truthy_O (m : Meth X.K C "__bool__" f) (F : FnOk X.prog X.w X.K X.mg X.base CX k f fd ps sp) (hr : Room k X.A) (hb : Binds X.K fd ps []) (hx : Passes CX X E) {a : Addr} {Q : Bool → Hp → Prop} (I : Inv X pins σ H s) (hi : InsT H a C)
    (q : sp [.ref a] H (fun v H' => ∃ b, v = .bl b ∧ Q b H') E) : wpAny (model X.prog X.w) X.A (truthy (.ref a)) (TP X pins σ Q) X.xe s := by
  obtain ⟨ox, od, J⟩ := insT_at I hi
  obtain ⟨m', fr⟩ := I.fr
  refine PySem.W.truthy_K fr I.mod.kin J m.at_ m.fn (wpAny_mono (run_in0 F hr hb hx I (us := [.ref a]) (vs := [.ref a]) (.cons rfl .nil) q) (fun u s' z => ?_) fun _ _ z => z)
  obtain ⟨v, H', I', rv, b, rfl, q'⟩ := z
  cases (show u = Value.bool b from rv)
  exact ⟨H', I', q'⟩
/-- x in o -/
theorem op_inO (m : Meth X.K C "__contains__" f) (F : FnOk X.prog X.w X.K X.mg X.base CX k f fd ps sp) (hr : Room k X.A) (hb : Binds X.K fd ps []) (hx : Passes CX X E) :
    OpR X (compareOp .In) (fun x y H Q => ∃ a, y = .ref a ∧ InsT H a C ∧ sp [.ref a, x] H (fun v H' => ∃ b, v = .bl b ∧ Q (.bl b) H') E) := by
  intro pins s σ H x y v u Q I rx ry h
  obtain ⟨a, rfl, hi, q⟩ := h
  cases (show u = Value.ref a from ry)
  obtain ⟨ox, od, J⟩ := insT_at I hi
  obtain ⟨m', fr⟩ := I.fr
  refine PySem.W.in_K fr I.mod.kin J m.at_ m.fn (wpAny_mono (run_in0 F hr hb hx I (us := [.ref a, v]) (vs := [.ref a, x]) (.cons rfl (.cons rx .nil)) q) (fun u s' z => ?_) fun _ _ z => z)
  obtain ⟨v', H', I', rv, b, rfl, q'⟩ := z
  cases (show u = Value.bool b from rv)
  exact wpAny_truthy_bool ⟨.bl b, H', I', rfl, q'⟩
theorem op_notInO (m : Meth X.K C "__contains__" f) (F : FnOk X.prog X.w X.K X.mg X.base CX k f fd ps sp) (hr : Room k X.A) (hb : Binds X.K fd ps []) (hx : Passes CX X E) :
    OpR X (compareOp .NotIn) (fun x y H Q => ∃ a, y = .ref a ∧ InsT H a C ∧ sp [.ref a, x] H (fun v H' => ∃ b, v = .bl b ∧ Q (.bl (!b)) H') E) := by
  intro pins s σ H x y v u Q I rx ry h
  obtain ⟨a, rfl, hi, q⟩ := h
  cases (show u = Value.ref a from ry)
  obtain ⟨ox, od, J⟩ := insT_at I hi
  obtain ⟨m', fr⟩ := I.fr
  refine PySem.W.notIn_K fr I.mod.kin J m.at_ m.fn (wpAny_mono (run_in0 F hr hb hx I (us := [.ref a, v]) (vs := [.ref a, x]) (.cons rfl (.cons rx .nil)) q) (fun u s' z => ?_) fun _ _ z => z)
  obtain ⟨v', H', I', rv, b, rfl, q'⟩ := z
  cases (show u = Value.bool b from rv)
  exact wpAny_truthy_bool ⟨.bl (!b), H', I', rfl, q'⟩
/-- abs(o) -/
theorem call_absO (m : Meth X.K C "__abs__" f) (F : FnOk X.prog X.w X.K X.mg X.base CX k f fd ps sp) (hr : Room (k + 1) X.A) (hb : Binds X.K fd ps []) (hx : Passes CX X E) :
    CallR X (.builtin "abs") (fun xs H Q => ∃ a, xs = [.ref a] ∧ InsT H a C ∧ sp [.ref a] H Q E) := by
  intro pins s σ H xs us Q I r h
  obtain ⟨a, rfl, hi, q⟩ := h
  obtain rfl := Vals.ref1 r
  obtain ⟨ox, od, J⟩ := insT_at I hi
  refine call_function_entry kind_abs plain_abs entry_abs (args_abs _) ?_
  unfold Builtin.«abs»
  refine wpAny_bind (m := oneArg "abs" _) (wpAny_pure ?_)
  refine wpAny_bind (m := callSpecial? (.ref a) (Str.ofString "__abs__")) ?_
  refine PySem.W.special_fn I.kIn J m.at_ (beq_iff_eq.mp m.fn) ?_
  exact wpAny_mono (run_in1 F hr hb hx I r q) (fun u s' z => wpAny_pure ⟨u, rfl, z⟩) fun _ _ z => z
/-- max(xs, default=d), of whole numbers -/
def rMaxD (K : PySem.W.Frag) : List V → List V → Hp → VK → Prop := fun xs zs H Q => ∃ (a : Addr) (ns : List Int) (d : Int), xs = [.ref a] ∧ zs = [.int d] ∧ SqL K H a (ns.map V.int) ∧
  Q (.int (match ns with | [] => d | n :: r => r.foldl max n)) H
theorem cr_maxD (hc : X.calm = true) (hu : X.A.units + 64 < cLine) : CallRK X (.builtin "max") [Str.ofString "default"] (rMaxD X.K) := by
  intro pins s σ H xs zs us ws Q I r rz h
  obtain ⟨a, ns, d, rfl, rfl, hs, q⟩ := h
  obtain rfl := Vals.ref1 r
  obtain ⟨ud, rfl, td, rfl⟩ := vals1 rz
  obtain ⟨its, rv, hl, _⟩ := I.list hs
  obtain ⟨as, ra⟩ : ∃ as, ReadsAll s.heap its (ns.map PyData.int) as := by
    clear hs hl q
    rename_i hlen
    clear hlen
    induction ns generalizing its with
    | nil => cases rv; exact ⟨_, .nil⟩
    | cons n r ih =>
      cases rv with
      | cons h t =>
        obtain ⟨tk, rfl⟩ := h
        obtain ⟨as, ra⟩ := ih _ t
        exact ⟨_, .cons (.int _ _) ra⟩
  have dep : PyData.depthAll (ns.map PyData.int) = 0 := by
    clear ra hs q rv hl
    rename_i hlen
    clear hlen
    induction ns with
    | nil => rfl
    | cons n r ih => exact Nat.le_zero.mp (Nat.max_le.mpr ⟨Nat.le_refl _, Nat.le_of_eq ih⟩)
  refine PySem.W.max_list_default (I.ok.hd hc) hl.isList (by simpa using ra) ⟨fun x hx y hy => by
    obtain ⟨i, _, rfl⟩ := List.mem_map.mp hx
    obtain ⟨j, _, rfl⟩ := List.mem_map.mp hy
    rfl, fun x hx => by
    obtain ⟨i, _, rfl⟩ := List.mem_map.mp hx
    exact nofun⟩ (by rw [dep]; omega) (fun e h' tk kp => ?_) (fun y ys i v h' tk bs e hv hr kp => ?_)
  · have e0 : ns = [] := List.map_eq_nil_iff.mp e
    subst e0
    exact ⟨.int d, H, I.kept (t' := tk) kp, ⟨_, rfl⟩, q⟩
  · cases ns with
    | nil => cases e
    | cons n r =>
      cases e
      rw [PySem.W.maxD_ints] at hr
      cases hr
      exact ⟨.int _, H, I.kept (t' := tk) kp, ⟨_, rfl⟩, q⟩
/-- bool(o) -/
theorem bool_in {prog : Program} {w : World} (x : Value) : MeetsIn prog w (Builtin.«bool.__new__» ⟨[.type "bool", x], []⟩) (fun A R s => wpAny (model prog w) A.in1 (truthy x) (fun b s' => R (.ok (.ret (.bool b))) s') (fun e s' => R (.error e) s') s) :=
  .of_wp fun A R s h => by
    have f1 := F.conv_sub_bool
    obtain ⟨hp, g, d, tk, os⟩ := s
    repeat (any_goals (first | assumption | (with_reducible refine wpAny_bind (wpAny_mono h (fun b s' z => ?_) fun _ _ e => e)) | wp_step))
    exact ⟨_, rfl, z⟩
theorem op_eqO (m : Meth X.K C "__eq__" f) (F : FnOk X.prog X.w X.K X.mg X.base CX k f fd ps sp) (hr : Room k X.A) (hb : Binds X.K fd ps []) (hx : Passes CX X E) (hu : X.A.units < cLine) :
    OpR X (compareOp .Eq) (fun x y H Q => ∃ (a : Addr) (t : Value), x = .ref a ∧ InsT H a C ∧ TyX X.K H y t ∧ PySem.W.notFirst X.K C t = true ∧ sp [.ref a, y] H (fun v H' => ∃ b, v = .bl b ∧ Q (.bl b) H') E) := by
  intro pins s σ H x y v u Q I rx ry h
  obtain ⟨a, t, rfl, hi, ty, hn, q⟩ := h
  cases (show v = Value.ref a from rx)
  obtain ⟨ox, od, J⟩ := insT_at I hi
  obtain ⟨m', fr⟩ := I.fr
  obtain ⟨P, Z, p, _⟩ := kit_of I ry ty
  show wpAny _ _ (richCompare .Eq (.ref a) u) _ _ _
  refine PySem.W.cmp_K (op := .Eq) hu fr I.mod.kin J (Z.ty _ _ I.kIn p) hn m.at_ m.fn (wpAny_mono (run_in0 F hr hb hx I (us := [.ref a, u]) (vs := [.ref a, y]) (.cons rfl (.cons ry .nil)) q) (fun w s' z => ?_) fun _ _ z => z)
  obtain ⟨v', H', I', rv, b, rfl, q'⟩ := z
  cases (show w = Value.bool b from rv)
  exact ⟨.bl b, H', I', rfl, q'⟩
/-- bool(x), by the truth of x -/
theorem bool_of {x : Value} {Q : Bool → Hp → Prop} {R : VK} (h : wpAny (model X.prog X.w) X.A.in1.in1 (truthy x) (TP X pins σ Q) X.xe s) (q : ∀ b H', Q b H' → R (.bl b) H') : wpAny (model X.prog X.w) X.A (call (.type "bool") [x]) (EP X pins σ R) X.xe s :=
  callType_newIn F.called_bool F.newNe_bool (F.typeCall_bool_1 x) (F.newCall_bool_1 x) (fun obj => F.args_object_init_2 obj x) F.entry_bool_new (bool_in x) (wpAny_mono h (fun b s' z => by
    obtain ⟨H', I', q'⟩ := z
    exact ⟨PySem.typeIs_bool _ _, .bl b, H', I', rfl, q b H' q'⟩) fun _ _ z => z)
theorem run_in22 {us : List Value} {vs : List V} {Q : VK} (F : FnOk X.prog X.w X.K X.mg X.base CX k f fd ps sp) (hr : Room (k + 2) X.A) (hb : Binds X.K fd ps []) (hx : Passes CX X E) (I : Inv X pins σ H s) (r : Vals vs us) (h : sp vs H Q E) :
    wpAny (model X.prog X.w) X.A.in1.in1 (call (.ref f) us) (EP X pins σ Q) X.xe s := by
  have hl : (us ++ []).length = ps.length := by
    rw [List.append_nil, ← r.length]
    exact F.len _ _ _ _ h
  have hbi := hb s us I.kIn hl
  rw [List.append_nil] at hbi
  refine wpAny_call (codeAny_mono (F.run X.A.in1.in1 X.stack s H ⟨us, []⟩ us vs Q E hr.in1.in1 I.env0.in1.in1 hbi r h) fun res s' z => ?_)
  match res, z with
  | .error e, z => exact hx pins σ H s e s' I z
  | .ok (.ret u), z => exact I.after z
  | .ok .next, z => exact False.elim z
  | .ok .brk, z => exact False.elim z
  | .ok .cont, z => exact False.elim z
/-- bool(o) -/
theorem call_boolO (m : Meth X.K C "__bool__" f) (F : FnOk X.prog X.w X.K X.mg X.base CX k f fd ps sp) (hr : Room (k + 2) X.A) (hb : Binds X.K fd ps []) (hx : Passes CX X E) :
    CallR X (.type "bool") (fun xs H Q => ∃ a, xs = [.ref a] ∧ InsT H a C ∧ sp [.ref a] H (fun v H' => ∃ b, v = .bl b ∧ Q (.bl b) H') E) := by
  intro pins s σ H xs us Q I r h
  obtain ⟨a, rfl, hi, q⟩ := h
  obtain rfl := Vals.ref1 r
  obtain ⟨ox, od, J⟩ := insT_at I hi
  obtain ⟨m', fr⟩ := I.fr
  refine bool_of (Q := fun b H' => Q (.bl b) H') (PySem.W.truthy_K fr I.mod.kin J m.at_ m.fn (wpAny_mono (run_in22 F hr hb hx I r q) (fun u s' z => ?_) fun _ _ z => z)) fun b H' q => q
  obtain ⟨v, H', I', rv, b, rfl, q'⟩ := z
  cases (show u = Value.bool b from rv)
  exact ⟨H', I', q'⟩
/-- bool(t), t a tuple -/
theorem call_boolT : CallR X (.type "bool") (fun xs H Q => ∃ (a : Addr) (zs : List V), xs = [.ref a] ∧ SqT X.K H a zs ∧ Q (.bl (!zs.isEmpty)) H) := by
  intro pins s σ H xs us Q I r h
  obtain ⟨a, zs, rfl, hq, q⟩ := h
  obtain rfl := Vals.ref1 r
  obtain ⟨its, rv, pl, hz⟩ := I.tuple hq
  have hl := line63
  have hlen := rv.length
  exact bool_of (Q := fun b H' => Q (.bl b) H') (truthy_tuple pl (by simp only [List.size_toArray]; omega) ⟨H, I.tok _, by rw [isEmpty_of rv]; exact q⟩) fun b H' q => q
end
end KX

set_option Elab.async false
set_option maxRecDepth 100000
set_option maxHeartbeats 2000000
namespace KX
open PySem PySem.Spec PyProof.Rows L2
theorem call_isEdT {X : Cx} {a D d : Addr} {oe : Obj} {pn : List (Addr × Obj)} {bmB : List Value} {nid : String} (T : ExK X.K D bmB nid) (sp : PySem.W.specialIn X.K (.builtin "object.__class__") "__get__" = some (some (.builtin "getset_descriptor.__get__"))) (tk : PySem.W.takesIn X.K (.builtin "object.__class__") = some true)
    (hz : Zc (.ref D) (some d) oe) (hf : ∃ vs, oe.data = .fields vs) : CallR (X.suite a ((a, oe) :: pn)) (.builtin "isinstance") (fun xs H Q => (∃ fs, H d = some (.xd fs)) ∧ ∃ (tp : Addr) (cs : List V) (us : List Value) (b : Bool), xs = [.ref a, .ref tp] ∧ H tp = some (.tup cs) ∧ Paired ClsV cs us ∧ PySem.W.kitAny X.K (.ref D) us = some b ∧ Q (.bl b) H) := by
  intro pins s σ H xs us Q I r h
  obtain ⟨⟨fs, hd⟩, tp, cs, ws, b, rfl, hT, k, e, q⟩ := h
  obtain ⟨u1, u2, rfl, r1, r2⟩ := vals2 r
  cases (show u2 = Value.ref tp from r2)
  cases (show u1 = Value.ref a from r1)
  obtain ⟨_, its, rv, o, h1, h2, n, h3⟩ := (show ObjOk X.prog X.w H s.heap tp (.tup cs) from I.hok tp _ hT)
  obtain rfl := ClsV.all k rv
  obtain ⟨oc, od2, dt, sl⟩ := o
  simp only at h2 h3
  subst h2 h3
  obtain ⟨hget, _⟩ := I.pin (a, oe) (List.mem_append.mpr (.inl List.mem_cons_self))
  obtain ⟨vs, hv⟩ := hf
  have hx : ObjOk X.prog X.w H s.heap d (.xd fs) := I.hok d _ hd
  obtain ⟨mA, hns, rel⟩ := hx
  obtain ⟨od, ho, _⟩ := lookIn_ns hns
  obtain ⟨cd, hc, _⟩ := PySem.W.any_some T.hd
  have J : PySem.W.InstAt s.heap a oe D (some od) := ⟨hget, hz.1, by unfold PySem.W.notCls; rw [hv] <;> rfl, by rw [hz.2]; exact ho⟩
  exact PySem.W.kia_tup (PySem.W.kitx_exc (od := some od) (by rw [hc] <;> rfl) T.ga T.gg T.exC T.ha sp tk T.hm) I.kIn J h1 e (fun z => nomatch z) fun tk' => ⟨.bl b, H, I.tok tk', rfl, q⟩
theorem pss_only {X : Cx} {st : List Stmt} {p : Prop} {t : TS} (h : p → PSs X st t) : PSs X st (fun D σ H => p ∧ t D σ H) := ⟨fun pins s σ H D I q => (h q.1).run pins s σ H D I q.2⟩
theorem pss_no {X : Cx} {st : List Stmt} : PSs X st (fun _ _ _ => False) := ⟨fun _ _ _ _ _ _ q => q.elim⟩
def excBody : List Stmt → List Stmt
  | .Try _ (.ExceptHandler _ _ b _ :: _) _ _ _ :: _ => b
  | _ => []
/-- a suite told at the place where it is entered -/
def tsAt (X : Cx) (st : List Stmt) (a : Addr) (cls : Value) (d : Option Addr) : TS := fun D σ H => ∃ t, (∀ (oe : Obj) (pn : List (Addr × Obj)), L2N.Zn cls d oe → (∃ vs, oe.data = .fields vs) → PSs (X.suite a ((a, oe) :: pn)) st t) ∧ t D σ H
theorem tsAt_ok {X : Cx} {st : List Stmt} {a : Addr} {cls : Value} {d : Option Addr} {oe : Obj} {pn : List (Addr × Obj)} (hz : L2N.Zn cls d oe) (hf : ∃ vs, oe.data = .fields vs) : PSs (X.suite a ((a, oe) :: pn)) st (tsAt X st a cls d) :=
  ⟨fun pins s σ H D I q => (q.choose_spec.1 oe pn hz hf).run pins s σ H D I q.choose_spec.2⟩
theorem takesN0 {X : Cx} : L2N.Takes X (fun _ _ _ _ => False) := fun _ _ ⟨_, _, _, _, _, _, _, _, _, _, _, _, _, _, _, _, w⟩ => w.elim
end KX

set_option Elab.async false
set_option maxRecDepth 100000
set_option maxHeartbeats 2000000
/-! Defs called in an except suite that look at the exception itself: the promise is made for the pinned object p. -/
namespace KX
open PySem PySem.Spec PyProof.Rows L2 L2H
structure FnP0 (p : Addr × Obj) (P : Program) (w : World) (K : PySem.W.Frag) (mg : Str → Option Value) (base : Heap) (CX : CXT) (k : Nat) (f : Addr) (fd : FuncData) (ps : List Str) (sp : Sp) : Prop where
  len : ∀ vs H Q E, sp vs H Q E → vs.length = ps.length
  run : ∀ (A : Around) (outer : List Env) (s : Shared) (H : Hp) (args : Args) (us : List Value) (vs : List V) (Q : VK) (E : XK), RoomH k A → Hot1 A p → PinOk outer H s p → Env0 P w K mg base A outer s H → BindsTo s fd args (ps.zip us) → Vals vs us → sp vs H Q E →
    codeAny (model P w) A (.call (.ref f) args) (CR CX outer P w H s Q E) s
section
variable {p : Addr × Obj} {P : Program} {w : World} {K : PySem.W.Frag} {mg : Str → Option Value} {base : Heap} {CX : CXT} {k : Nat} {f : Addr} {x qual : Str} {params : Arguments} {body : List Stmt} {scope : Scope} {dvs : List V} {kws : List (Str × V)} {fd : FuncData} {N ps : List Str} {sp : Sp}
theorem fnP0_ok (F : FunD K x qual params body scope dvs kws f fd) (S : FnScope N ps scope) (len : ∀ vs H Q E, sp vs H Q E → vs.length = ps.length)
    (hb : ∀ (cdv : Value) (A : Around) (outer : List Env) (s : Shared) (H : Hp) (vs : List V) (Q : VK) (E : XK), Hot1 A p → RoomH k (A.deeper (envOfC qual scope s.heap.objs.size f cdv)) → sp vs H Q E →
      ∃ t, PSs (cxH CX P w K mg base N qual scope f cdv A outer s H E p) body t ∧ t { nx := fun _ H' => Q .non H', rt := Q } (start N vs) H) : FnP0 p P w K mg base CX (k + 1) f fd ps sp := by
  obtain ⟨oc, od, dV, kV, doc, pm, an, cdv, ct, osl, rfl, lk, hcd, _, _⟩ := F.ex
  refine ⟨len, fun A outer s H args us vs Q E hr hot hpin e0 bd r hsp => ?_⟩
  have hl := len _ _ _ _ hsp
  have KI : K.In s.heap := e0.mod.kin.keeps fun b o e => (e0.bs b o e).1
  have nl : s.heap.NoLimit := e0.mod.nolimit.keeps fun b o e => (e0.bs b o e).1
  have kinds : ∀ y ∈ ps.zip us, scope.names.lookup y.1 = some .local ∨ (scope.names.lookup y.1 = some .cell ∧ ((cellsFrom (s.heap.objs.size + 1) scope.names []).lookup y.1).isSome = true) := by
    rintro ⟨n, v⟩ hy
    exact (S.par n (List.of_mem_zip hy).1).imp id fun q => ⟨q, PySem.W.cellsFrom_some _ _ _ (.inl q)⟩
  refine codeAny_call_function hr.depth (KI _ _ lk) rfl S.co S.gen rfl (PySem.W.codeRec_of KI hcd) (bd _ _ _ _ ?_)
  refine wpAny_newFunctionEnv_cells S.kind kinds fun env he s1 xx => ?_
  subst he
  refine ⟨nl.keeps xx.toInCall.keep, codeAny_func ?_⟩
  obtain ⟨t, ht, hq⟩ := hb cdv A outer s H vs Q E hot (hr.deeper _) hsp
  have I : Inv (cxH CX P w K mg base N qual scope f cdv A outer s H E p) [] (L2.start N vs) H s1 := inv_startH S hpin e0 hl r xx
  refine wpAny_mono (ht.run [] s1 (L2.start N vs) H _ I hq) (fun fl s' hs => ?_) fun e s' hs => hs
  cases fl with
  | ret u =>
    obtain ⟨v, σ', H', J, rv, q⟩ := hs
    exact ⟨v, H', J.os, J.bare, J.base, J.hok, rv, q⟩
  | next =>
    obtain ⟨σ', H', J, q⟩ := hs
    exact ⟨V.non, H', J.os, J.bare, J.base, J.hok, rfl, q⟩
  | brk => exact False.elim hs.choose_spec.choose_spec.2
  | cont => exact False.elim hs.choose_spec.choose_spec.2
end
section
variable {X : Cx} {CX : CXT} {k : Nat} {f : Addr} {fd : FuncData} {ps : List Str} {sp : Sp} {E : L2.St → XK} {x : Str} {q pos : Pos} {e : Expr} {es : List Expr} {t : TA} {p : Addr × Obj}
theorem pe_callP0 (F : FnP0 p X.prog X.w X.K X.mg X.base CX k f fd ps sp) (hr : RoomH k X.A) (hot : Hot1 X.A p) (hp : p ∈ X.pn) (hg : Gl X x) (hm : X.mg x = some (.ref f)) (hk : PySem.W.keepIn X.K (.ref f) = true) (hb : Binds X.K fd ps []) (hx : ∀ σ, PassesAt CX X σ (E σ))
    (ha : PA X (e :: es) t) (hdb : (x == ("__debug__" : Str)) = false := by decide) (he : starEach (e :: es) X.env = (false, eval e X.env) :: starEach es X.env := by rfl) (hpl : (backTo pos (starEach es X.env)).any (·.1) = false := by rfl) :
    PE X (.Call (.Name x q) (e :: es) [] pos) (tCallS sp E t) := by
  refine ⟨fun pins s σ H Q I h => ?_⟩
  refine wpAny_Call_Name_kw (ld_glob I hg hm ?_ hdb)
  refine PySem.W.callWith_K (h₀ := X.base) I.ok.mod.kin hk (thn (ha.run pos pins s σ H _ I h) fun us s1 ⟨vs, H1, I1, r, hsp⟩ => ⟨I1.kIn, ?_⟩) he hpl
  have hl : us.length = ps.length := by rw [← r.length]; exact F.len _ _ _ _ hsp
  have b := hb s1 us I1.kIn (by rw [List.append_nil]; exact hl)
  rw [List.append_nil] at b
  have P1 := I1.pin p (List.mem_append_left _ hp)
  have hpin : PinOk X.stack H1 s1 p := ⟨P1.1, P1.2.1, fun hm => (List.mem_cons.mp (I1.stkSub p.1 hm)).elim P1.2.2.1 P1.2.2.2.1, P1.2.2.2.2⟩
  refine wpAny_call (codeAny_mono (F.run X.A X.stack s1 H1 ⟨us, []⟩ us vs Q (E σ) hr hot hpin I1.env0 b r hsp) fun r s' hq => ?_)
  cases r with
  | error e => exact hx σ pins H1 s1 e s' I1 hq
  | ok fl =>
    cases fl with
    | ret u => exact I1.after hq
    | next => exact False.elim hq
    | brk => exact False.elim hq
    | cont => exact False.elim hq
/-- isinstance of the pinned exception, of a class -/
theorem call_isEdG {a D d : Addr} {oe : Obj} {bmB : List Value} {nid : String} (hp : (a, oe) ∈ X.pn) (T : ExK X.K D bmB nid) (sp : PySem.W.specialIn X.K (.builtin "object.__class__") "__get__" = some (some (.builtin "getset_descriptor.__get__"))) (tk : PySem.W.takesIn X.K (.builtin "object.__class__") = some true)
    (hz : Zc (.ref D) (some d) oe) (hf : ∃ vs, oe.data = .fields vs) : CallR X (.builtin "isinstance") (fun xs H Q => (∃ fs, H d = some (.xd fs)) ∧ rIsE X.K D a xs H Q) := by
  intro pins s σ H xs us Q I r h
  obtain ⟨⟨fs, hd⟩, c, cv, b, rfl, hcv, e, q⟩ := h
  obtain ⟨u1, u2, rfl, rx, rt⟩ := vals2 r
  cases (show u1 = Value.ref a from rx)
  obtain rfl := hcv _ rt
  obtain ⟨hget, _⟩ := I.pin (a, oe) (List.mem_append_left _ hp)
  obtain ⟨vs, hv⟩ := hf
  obtain ⟨mA, hns, rel⟩ := (show ObjOk X.prog X.w H s.heap d (.xd fs) from I.hok d _ hd)
  obtain ⟨od, ho, _⟩ := lookIn_ns hns
  obtain ⟨cd, hc, _⟩ := PySem.W.any_some T.hd
  have J : PySem.W.InstAt s.heap a oe D (some od) := ⟨hget, hz.1, by unfold PySem.W.notCls; rw [hv] <;> rfl, by rw [hz.2]; exact ho⟩
  exact PySem.W.kia_one (PySem.W.kitx_exc (od := some od) (by rw [hc] <;> rfl) T.ga T.gg T.exC T.ha sp tk T.hm) I.kIn J e (fun z => nomatch z) fun tk' => ⟨.bl b, H, I.kept (t' := tk') fun _ _ z => z, rfl, q⟩
end
end KX

set_option Elab.async false
set_option maxRecDepth 100000
set_option maxHeartbeats 2000000
/-! What the written part says of an own exception class that stores: with its answers to isinstance and except. -/
namespace KX
open PySem PySem.Spec PyProof.Rows L2 He StX
structure Er (K : PySem.W.Frag) (c : Str) (bm : List Value) (nid : String) (flds : List Str) (own : List (Str × Bool)) (blt : List (String × Bool)) (exs : List (Str × Bool)) : Prop where
  T : ExK K (ga K c) bm nid
  X : XfC K (ga K c)
  ty : PySem.W.typeIn K (.ref (ga K c)) = some (.type "type")
  no : ∀ f ∈ flds, PySem.W.findIn K (.ref (ga K c)) f = some none
  iC : PySem.W.findIn K (.ref (ga K c)) "__init__" = some (some (.ref (ma K (ga K c) "__init__")))
  fn : PySem.W.isFn K (.ref (ma K (ga K c) "__init__")) = true
  kO : ∀ x ∈ own, PySem.W.kitOne K (.ref (ga K c)) (.ref (ga K x.1)) = some x.2
  kB : ∀ x ∈ blt, PySem.W.kitOne K (.ref (ga K c)) (.type x.1) = some x.2
  ex : ∀ x ∈ exs, PySem.W.exmOne K (.ref (ga K c)) (.ref (ga K x.1)) = some x.2
  sp : PySem.W.specialIn K (.builtin "object.__class__") "__get__" = some (some (.builtin "getset_descriptor.__get__"))
  tk : PySem.W.takesIn K (.builtin "object.__class__") = some true
def erB (K : PySem.W.Frag) (c : Str) (bm : List Value) (nid : String) (flds : List Str) (own : List (Str × Bool)) (blt : List (String × Bool)) (exs : List (Str × Bool)) : Bool :=
  let C := ga K c
  exkB K C bm nid && (xfB K C && (decide (PySem.W.typeIn K (.ref C) = some (.type "type")) && ((flds.all fun f => eqO (PySem.W.findIn K (.ref C) f) (some none)) && (eqO (PySem.W.findIn K (.ref C) "__init__") (some (some (.ref (ma K C "__init__")))) && (PySem.W.isFn K (.ref (ma K C "__init__"))
  && ((own.all fun x => decide (PySem.W.kitOne K (.ref C) (.ref (ga K x.1)) = some x.2)) && ((blt.all fun x => decide (PySem.W.kitOne K (.ref C) (.type x.1) = some x.2)) && ((exs.all fun x => decide (PySem.W.exmOne K (.ref C) (.ref (ga K x.1)) = some x.2))
  && (eqO (PySem.W.specialIn K (.builtin "object.__class__") "__get__") (some (some (.builtin "getset_descriptor.__get__"))) && decide (PySem.W.takesIn K (.builtin "object.__class__") = some true))))))))))
theorem er_of {K : PySem.W.Frag} {c : Str} {bm : List Value} {nid : String} {flds : List Str} {own : List (Str × Bool)} {blt : List (String × Bool)} {exs : List (Str × Bool)} (h : erB K c bm nid flds own blt exs = true) : Er K c bm nid flds own blt exs := by
  unfold erB at h
  obtain ⟨h1, h⟩ := Bool.and_eq_true_iff.mp h
  obtain ⟨h2, h⟩ := Bool.and_eq_true_iff.mp h
  obtain ⟨h3, h⟩ := Bool.and_eq_true_iff.mp h
  obtain ⟨h4, h⟩ := Bool.and_eq_true_iff.mp h
  obtain ⟨h5, h⟩ := Bool.and_eq_true_iff.mp h
  obtain ⟨h6, h⟩ := Bool.and_eq_true_iff.mp h
  obtain ⟨h7, h⟩ := Bool.and_eq_true_iff.mp h
  obtain ⟨h8, h⟩ := Bool.and_eq_true_iff.mp h
  obtain ⟨h9, h⟩ := Bool.and_eq_true_iff.mp h
  obtain ⟨h10, h11⟩ := Bool.and_eq_true_iff.mp h
  exact ⟨exkB_ok h1, xfB_ok h2, of_decide_eq_true h3, fun f hf => eqO_ok (List.all_eq_true.mp h4 f hf), eqO_ok h5, h6, fun x hx => of_decide_eq_true (List.all_eq_true.mp h7 x hx), fun x hx => of_decide_eq_true (List.all_eq_true.mp h8 x hx),
    fun x hx => of_decide_eq_true (List.all_eq_true.mp h9 x hx), eqO_ok h10, of_decide_eq_true h11⟩
end KX

set_option Elab.async false
set_option maxRecDepth 100000
set_option maxHeartbeats 0
namespace K23
open PySem PySem.Spec PyProof.Rows L2 He KX
def top (i : Nat) : Stmt := PySem.Challenge.pw_rowsinplace_k23_scenes_made.main.body.getD i (.Pass ⟨0, 0, 0, 0⟩)
def vT : List Value := [.type "ValueError", .type "Exception", .type "BaseException", .type "object"]
def frees : List Str := ["isinstance", "int", "bool", "str", "len", "tuple", "list", "dict", "abs", "min", "max", "repr", "range", "ValueError"]
def gls : List Str := (["is_integer", "PlaceError", "BadOperation", "BadWorld", "BadNumber", "OPERATIONS", "ARGUMENTS", "NEW", "arguments_of", "Cast", "_is_there", "TWO_LISTS", "WORLDS", "RANKS", "worlds_of", "Scene", "_fits", "_limits", "_limits_of_y", "_limits_of_k", "_law_pool", "_law_draw", "_law_op", "_law_worlds", "_law_there"] : List Str) ++ (["_law_upto", "_law_numbers", "_law_scene", "_law_arguments", "_law_key", "_law_fits", "law"] : List Str)
abbrev ErBO (K : PySem.W.Frag) : Prop := Er K "BadOperation" vT "ValueError.__new__" ["op"] [("PlaceError", true)] [] [("BadOperation", true)]
abbrev ErBW (K : PySem.W.Frag) : Prop := Er K "BadWorld" vT "ValueError.__new__" ["world"] [("PlaceError", true)] [] [("BadOperation", false), ("BadWorld", true)]
abbrev ErBN (K : PySem.W.Frag) : Prop := Er K "BadNumber" vT "ValueError.__new__" ["name"] [("PlaceError", true)] [] [("BadOperation", false), ("BadWorld", false), ("BadNumber", true)]
def errB (K : PySem.W.Frag) : Bool := erB K "BadOperation" vT "ValueError.__new__" ["op"] [("PlaceError", true)] [] [("BadOperation", true)] && (erB K "BadWorld" vT "ValueError.__new__" ["world"] [("PlaceError", true)] [] [("BadOperation", false), ("BadWorld", true)] && (erB K "BadNumber" vT "ValueError.__new__" ["name"] [("PlaceError", true)] [] [("BadOperation", false), ("BadWorld", false), ("BadNumber", true)]))
def flds : List Str := ["lists", "list_of", "row_of", "homes", "named", "is_within"]
def castB (K : PySem.W.Frag) : Bool := (Fa.mkr "Cast").ok K && ((Fa.cls "Cast").ok K && flds.all fun f => (Fa.noat "Cast" f).ok K)
def sfl : List Str := ["op", "world", "home", "to", "x", "y", "k", "other"]
def ownSB (K : PySem.W.Frag) : Bool :=
  let C := ga K "Scene"
  decide (PySem.W.kitOne K (.ref C) (.ref C) = some true) && (decide (PySem.W.kitOne K (.type "tuple") (.ref C) = some false) && (PySem.W.notFirst K C (.ref C) && (PySem.W.notFirst K C (.type "tuple")
  && (eqO (PySem.W.findIn K (.ref C) "__class__") (some (some (.builtin "object.__class__"))) && (decide (PySem.W.mroIn K C (.type "object") = some true)
  && (eqO (PySem.W.specialIn K (.builtin "object.__class__") "__get__") (some (some (.builtin "getset_descriptor.__get__"))) && decide (PySem.W.takesIn K (.builtin "object.__class__") = some true)))))))
def scnB (K : PySem.W.Frag) : Bool := (Fa.mkr "Scene").ok K && ((Fa.cls "Scene").ok K && ((sfl.all fun f => (Fa.noat "Scene" f).ok K) && ((["__eq__", "arguments"].all fun m => (Fa.meth "Scene" m).ok K) && ownSB K)))
def ops : List Str := ["put", "add", "take", "move", "send", "top", "bottom", "up", "down", "swap"]
def isRef : Option (Option Value) → Bool
  | some (some (.ref _)) => true
  | _ => false
def args : List (Str × List Str) := [("put", ["x", "to", "k"]), ("add", ["x", "to"]), ("take", ["x"]), ("move", ["x", "to", "k"]), ("send", ["x", "to"]), ("top", ["x"]), ("bottom", ["x"]), ("up", ["x"]), ("down", ["x"]), ("swap", ["x", "y"])]
/-- the table of arguments: a tuple of texts for each operation -/
def argB (K : PySem.W.Frag) (o : Str × List Str) : Bool := match PySem.W.nsIn K (ga K "ARGUMENTS") o.1 with
  | some (some (.ref a)) => tupB K a o.2
  | _ => false
def rks : List Str := ["alone", "apart", "within", "itself"]
def rankB (K : PySem.W.Frag) (z : Str) (i : Nat) : Bool := match PySem.W.nsIn K (ga K "RANKS") z with
  | some (some (.int j _)) => decide (j = (i : Int))
  | _ => false
def conB (K : PySem.W.Frag) : Bool := tupB K (ga K "OPERATIONS") ops && (tupB K (ga K "NEW") ["put", "add"] && (tupB K (ga K "TWO_LISTS") ["move", "send", "swap"] && ((Fa.int "GREATEST" (10 ^ 30)).ok K && (tupB K (ga K "WORLDS") rks && ((List.range 4).all (fun i => rankB K (rks.getD i "") i) && args.all fun o => argB K o)))))
def chk (K : PySem.W.Frag) : Bool := errB K && (castB K && (scnB K && (conB K && ((frees.all fun x => (Fa.free x).ok K) && (gls.all fun x => (Fa.glo x).ok K)))))
def initD (i : Nat) (c : Str) : DefD := ⟨(c, some "__init__"), "__init__", c ++ ".__init__", defArgs (inClass (top i) 0), defBody (inClass (top i) 0), defScope (inClass (top i) 0), [], []⟩
def fnD (i : Nat) (x : Str) : DefD := ⟨(x, none), x, x, defArgs (top i), defBody (top i), defScope (top i), [], []⟩
def fn : List DefD := [initD 5 "BadOperation", initD 6 "BadWorld", initD 7 "BadNumber", initD 14 "Cast", ⟨("Scene", some "__init__"), "__init__", "Scene.__init__", defArgs (inClass (top 22) 0), defBody (inClass (top 22) 0), defScope (inClass (top 22) 0), [], [("home", .int 0), ("to", .int 0), ("x", .int 0), ("y", .int 0), ("k", .int 0), ("other", .int 0)]⟩, ⟨("Scene", some "__eq__"), "__eq__", "Scene.__eq__", defArgs (inClass (top 22) 3), defBody (inClass (top 22) 3), defScope (inClass (top 22) 3), [], []⟩, ⟨("Scene", some "arguments"), "arguments", "Scene.arguments", defArgs (inClass (top 22) 7), defBody (inClass (top 22) 7), defScope (inClass (top 22) 7), [], []⟩, fnD 2 "is_integer", fnD 12 "arguments_of", fnD 15 "_is_there", fnD 21 "worlds_of", fnD 23 "_fits", fnD 24 "_limits", fnD 25 "_limits_of_y", fnD 26 "_limits_of_k", fnD 28 "_law_pool", fnD 29 "_law_draw", fnD 30 "_law_op", fnD 31 "_law_worlds", fnD 32 "_law_there", fnD 33 "_law_upto", fnD 34 "_law_numbers", fnD 35 "_law_scene", fnD 36 "_law_arguments", fnD 37 "_law_key", fnD 38 "_law_fits", fnD 39 "law"]
def prs : List PrD := [⟨"Scene", "total", ⟨("Scene", some "total"), "total", "Scene.total", defArgs (inClass (top 22) 1), defBody (inClass (top 22) 1), defScope (inClass (top 22) 1), [], []⟩⟩, ⟨"Scene", "key", ⟨("Scene", some "key"), "key", "Scene.key", defArgs (inClass (top 22) 2), defBody (inClass (top 22) 2), defScope (inClass (top 22) 2), [], []⟩⟩]
def dics : List (Str × List Str) := [("ARGUMENTS", ops), ("RANKS", ["alone", "apart", "within", "itself"])]
abbrev R : PySem.W.OpenRow := PySem.W.OpenLaw.row PySem.Challenge.rw_rowsinplace_k23_scenes_made
abbrev hk : PySem.W.Hook := hookPD 5 chk fn prs dics
def ob (s : PySem.W.SharedT) : (Bool × List FnW) × KeyT := lookPD 5 chk fn prs dics (HandSHeadRun.getT s)
theorem ob_eq (s : PySem.W.SharedT) : ob s = hk.obs s.abs := lookPD_eq (HandSHeadRun.getT_eq s)
def loose : List Str := (["_wall", "is_integer", "PlaceError", "BadOperation", "BadWorld", "BadNumber", "OPERATIONS", "ARGUMENTS", "NEW", "arguments_of", "Cast", "_is_there", "TWO_LISTS", "WORLDS", "RANKS", "GREATEST", "worlds_of", "Scene", "_fits", "_limits", "_limits_of_y", "_limits_of_k", "_law_pool", "_law_draw", "_law_op"] : List Str) ++ (["_law_worlds", "_law_there", "_law_upto", "_law_numbers", "_law_scene", "_law_arguments", "_law_key", "_law_fits"] : List Str)
theorem run1 (w : World) : HandSHeadRun.RunEq R (PySem.W.view R.prog [39]) hk ob 20000 loose (setF w true) := by
  intro os
  kernel_rfl
theorem run2 (w : World) : HandSHeadRun.RunEq R (PySem.W.view R.prog [39]) hk ob 20000 loose (setF w false) := by
  intro os
  kernel_rfl
theorem run (w : World) : HandSHeadRun.RunEq R (PySem.W.view R.prog [39]) hk ob 20000 loose w := run_two run1 run2 w
end K23

set_option Elab.async false
set_option maxRecDepth 100000
set_option maxHeartbeats 2000000
/-! Drawn names: what is promised of them, and their texts. -/
namespace KX
open PySem PySem.Spec PyProof.Rows L2
abbrev tlc (z : Str) : List Nat := z.cps.toList
theorem tlc_len (z : Str) : (tlc z).length = z.length := Array.length_toList
theorem tlc_app (x y : Str) : tlc (x ++ y) = tlc x ++ tlc y := Array.toList_append
theorem nm_inv {z : Str} (h : isNm z = true) : 1 ≤ z.length ∧ z.length ≤ 8 ∧ ∀ c ∈ tlc z, isLet c = true := by
  unfold isNm at h
  obtain ⟨h, h3⟩ := Bool.and_eq_true_iff.mp h
  obtain ⟨h1, h2⟩ := Bool.and_eq_true_iff.mp h
  exact ⟨of_decide_eq_true h1, of_decide_eq_true h2, List.all_eq_true.mp h3⟩
theorem nm_of {z : Str} (h1 : 1 ≤ z.length) (h2 : z.length ≤ 8) (h3 : ∀ c ∈ tlc z, isLet c = true) : isNm z = true := by
  unfold isNm
  rw [decide_eq_true h1, decide_eq_true h2, List.all_eq_true.mpr h3]
  rfl
theorem join0 : ∀ zs : List Nat, tlc (Str.join ⟨#[]⟩ (zs.map fun c => (⟨#[c]⟩ : Str))) = zs
  | [] => rfl
  | [c] => rfl
  | c :: d :: r => by
    have ih := join0 (d :: r)
    show tlc ((⟨#[c]⟩ : Str) ++ ⟨#[]⟩ ++ Str.join ⟨#[]⟩ ((d :: r).map fun c => (⟨#[c]⟩ : Str))) = _
    rw [tlc_app, tlc_app, ih]
    rfl
theorem letters_at : ∀ {j : Nat}, j < 26 → (("abcdefghijklmnopqrstuvwxyz" : Str)).cps.toList[j]? = some (97 + j) := by
  intro j h
  rw [letters_eq]
  have z : ∀ k : Fin 26, ([97, 98, 99, 100, 101, 102, 103, 104, 105, 106, 107, 108, 109, 110, 111, 112, 113, 114, 115, 116, 117, 118, 119, 120, 121, 122] : List Nat)[k.val]? = some (97 + k.val) := by decide
  exact z ⟨j, h⟩
theorem let_at {j : Nat} (h : j < 26) : isLet (97 + j) = true := by
  unfold isLet
  rw [decide_eq_true (by omega), decide_eq_true (by omega)]
  rfl
theorem inV_str (z : Str) (zs : List Str) : inV (.str z) (zs.map V.str) = decide (z ∈ zs) := by
  unfold inV
  rw [List.any_map]
  by_cases h : z ∈ zs
  · rw [decide_eq_true h]
    exact List.any_eq_true.mpr ⟨z, h, by show (z == z) = true; exact beq_self_eq_true z⟩
  · rw [decide_eq_false h]
    refine List.any_eq_false.mpr fun y hy => ?_
    show ¬ (y == z) = true
    rw [beq_iff_eq]
    rintro rfl
    exact h hy
theorem flat_strs (zs : List Str) : (zs.map V.str).all flatV = true := by
  rw [List.all_map]
  exact List.all_eq_true.mpr fun _ _ => rfl
theorem cutS_to {z : Str} {i : Nat} (h : i ≤ z.length) : tlc (cutS z none (some (i : Int))) = (tlc z).take i := by
  unfold cutS tlc
  rw [HT.sIx_none, HT.sIx_nat, List.drop_zero, Nat.min_eq_left h, Nat.sub_zero]
theorem cutS_from {z : Str} {i : Nat} (h : i ≤ z.length) : tlc (cutS z (some (i : Int)) none) = (tlc z).drop i := by
  unfold cutS tlc
  rw [HT.sIx_none, HT.sIx_nat, Nat.min_eq_left h]
  refine List.take_of_length_le ?_
  rw [List.length_drop, Array.length_toList]
  exact Nat.le_refl _
theorem nm_splice {one : Str} {at_ c : Nat} (h : isNm one = true) (ha : at_ < one.length) (hc : isLet c = true) : isNm (cutS one none (some (at_ : Int)) ++ ⟨#[c]⟩ ++ cutS one (some ((at_ : Int) + 1)) none) = true := by
  obtain ⟨h1, h2, h3⟩ := nm_inv h
  have e : tlc (cutS one none (some (at_ : Int)) ++ ⟨#[c]⟩ ++ cutS one (some ((at_ : Int) + 1)) none) = (tlc one).take at_ ++ [c] ++ (tlc one).drop (at_ + 1) := by
    rw [tlc_app, tlc_app, cutS_to (by omega)]
    congr 1
    exact cutS_from (i := at_ + 1) (by omega)
  have hl : (cutS one none (some (at_ : Int)) ++ ⟨#[c]⟩ ++ cutS one (some ((at_ : Int) + 1)) none).length = one.length := by
    rw [← tlc_len, e, List.length_append, List.length_append, List.length_take, List.length_drop, tlc_len]
    show min at_ one.length + 1 + (one.length - (at_ + 1)) = one.length
    omega
  refine nm_of (by omega) (by omega) fun d hd => ?_
  rw [e] at hd
  rcases List.mem_append.mp hd with hd | hd
  · rcases List.mem_append.mp hd with hd | hd
    · exact h3 d (List.mem_of_mem_take hd)
    · rw [List.mem_singleton.mp hd]
      exact hc
  · exact h3 d (List.mem_of_mem_drop hd)
theorem cutS_len (z : Str) (lo hi : Option Int) : (cutS z lo hi).length ≤ z.length := by
  rw [← tlc_len, ← tlc_len]
  unfold cutS tlc
  show (List.take _ (List.drop _ z.cps.toList)).length ≤ _
  rw [List.length_take, List.length_drop]
  omega
/-- _law_name -/
def spLName : Sp := fun vs H Q _ => ∃ (b : Addr) (n : Int), vs = [.ref b] ∧ Bag H b n ∧ n < 900000 ∧ ∀ z G, isNm z = true → Kept b H G → Bag G b (n + 9) → Q (.str z) G
/-- a new list of unlike names -/
def Names (b F : Addr) (H G : Hp) (zs : List Str) (m : Int) : Prop :=
  H F = none ∧ F ≠ b ∧ Kept b H G ∧ Bag G b m ∧ G F = some (.lst (zs.map V.str)) ∧ zs.Nodup ∧ ∀ z ∈ zs, isNm z = true
/-- _law_names -/
def spLNames : Sp := fun vs H Q _ => ∃ (b : Addr) (n : Int) (many : Nat), vs = [.ref b, .int (many : Int)] ∧ Bag H b n ∧ n < 800000 ∧ 1 ≤ many ∧ many ≤ 100 ∧ ∀ F zs G, Names b F H G zs (n + 20 * many) → 1 ≤ zs.length → zs.length ≤ many → Q (.ref F) G
/-- _law_numbers -/
def spLNums : Sp := fun vs H Q _ => ∃ (b : Addr) (n : Int) (many : Nat), vs = [.ref b, .int (many : Int)] ∧ Bag H b n ∧ n < 800000 ∧ 1 ≤ many ∧ many ≤ 100 ∧ ∀ F zs G, Names b F H G zs (n + 20 * many) → 1 ≤ zs.length → zs.length ≤ many + 1 → Q (.ref F) G
theorem seq_by {A B : TS} {D : Ends} {σ : L2.St} {H : Hp} (R : L2.St → Hp → Prop) (h2 : ∀ σ H, R σ H → B D σ H) (h1 : (∀ σ H, R σ H → B D σ H) → A { D with nx := fun σ H => B D σ H } σ H) : tSeq A B D σ H := h1 h2
theorem Bag.but {H G : Hp} {b : Addr} {m : Int} (k : But b H G) {x : Addr} (n : x ≠ b) : G x = H x := k x n
/-- within _law_names: the names found so far at F -/
structure LN (b F : Addr) (H G : Hp) (zs : List Str) (m : Int) : Prop where
  bag : Bag G b m
  fnd : G F = some (.lst (zs.map V.str))
  kept : Kept b H G
  ne : F ≠ b
  nd : zs.Nodup
  nm : ∀ z ∈ zs, isNm z = true
theorem LN.to {b F : Addr} {H G G' : Hp} {zs : List Str} {m m' : Int} (h : LN b F H G zs m) (k : Kept b G G') (hB : Bag G' b m') : LN b F H G' zs m' :=
  ⟨hB, k F _ h.ne h.fnd, h.kept.trans k, h.ne, h.nd, h.nm⟩
theorem LN.le {b F : Addr} {H G : Hp} {zs : List Str} {m m' : Int} (h : LN b F H G zs m) (q : m ≤ m') : LN b F H G zs m' := ⟨h.bag.mono q, h.fnd, h.kept, h.ne, h.nd, h.nm⟩
theorem LN.add {b F : Addr} {H G : Hp} {zs : List Str} {m : Int} {z : Str} (h : LN b F H G zs m) (hF : H F = none) (hz : isNm z = true) (n : z ∉ zs) : LN b F H (upd G F (.lst (zs.map V.str ++ [.str z]))) (zs ++ [z]) m := by
  refine ⟨h.bag.put h.ne, ?_, fun x o nx e => (upd_ne (ne_of_none e hF)).trans (h.kept x o nx e), h.ne, ?_, fun y hy => ?_⟩
  · rw [upd_same, List.map_append]
    rfl
  · refine List.nodup_append.mpr ⟨h.nd, by simp, fun x hx y hy => ?_⟩
    rw [List.mem_singleton.mp hy]
    rintro rfl
    exact n hx
  · rcases List.mem_append.mp hy with hy | hy
    · exact h.nm y hy
    · rw [List.mem_singleton.mp hy]
      exact hz
theorem atI_zero {α : Type} {xs : List α} (h : 0 < xs.length) : ∃ x, atI xs 0 = some x ∧ x ∈ xs := by
  match xs, h with
  | x :: r, _ => exact ⟨x, by unfold atI ixN; rw [if_pos (by decide), if_pos (by rw [List.length_cons]; omega)]; rfl, List.mem_cons_self⟩
theorem nm_line {z : Str} (h : isNm z = true) : z.length ≤ sizeLine := by
  have := (nm_inv h).2.1
  rw [sizeLine_eq]
  omega
theorem flt_take {α : Type} {xs : List α} {i : Nat} {x : α} {p : α → Bool} (h : xs[i]? = some x) : (xs.take (i + 1)).filter p = (xs.take i).filter p ++ (if p x = true then [x] else []) := by
  rw [take_at h, List.filter_append]
  congr 1
  by_cases e : p x = true
  · rw [if_pos e]
    exact List.filter_cons_of_pos e
  · rw [if_neg e]
    exact List.filter_cons_of_neg e
theorem ne_dec (u v : Str) : (!decide (V.str u = V.str v)) = decide (u ≠ v) := by
  rw [str_dec]
  by_cases h : u = v
  · rw [decide_eq_true h, decide_eq_false (fun q => q h)]
    rfl
  · rw [decide_eq_false h, decide_eq_true h]
    rfl
theorem atI_end {α : Type} {xs : List α} (h : 0 < xs.length) : ∃ x, atI xs (-1) = some x ∧ x ∈ xs := by
  have e : ixN xs.length (-1) = some (xs.length - 1) := by
    unfold ixN
    rw [if_neg (by decide), if_pos (by omega)]
    congr 1
    omega
  have hl : xs.length - 1 < xs.length := by omega
  refine ⟨xs[xs.length - 1], ?_, List.getElem_mem hl⟩
  unfold atI
  rw [e]
  exact List.getElem?_eq_getElem hl
theorem atI_map {α β : Type} {f : α → β} {xs : List α} {i : Int} {x : α} (h : atI xs i = some x) : atI (xs.map f) i = some (f x) := by
  rw [atI_len, h]
  rfl
theorem two_unlike {α : Type} : ∀ {xs : List α}, xs.Nodup → 2 ≤ xs.length → ∀ z, ∃ y ∈ xs, y ≠ z
  | x :: y :: r, h, _, z => by
    by_cases e : x = z
    · refine ⟨y, by simp, fun q => ?_⟩
      have := (List.nodup_cons.mp h).1
      rw [e, ← q] at this
      exact this (by simp)
    · exact ⟨x, by simp, e⟩
  | [_], _, h, _ => by simp at h
  | [], _, h, _ => by simp at h
theorem sum_le {m : Nat} : ∀ {ns : List Int}, (∀ x ∈ ns, x.natAbs ≤ m) → ns.sum.natAbs ≤ ns.length * m
  | [], _ => by simp
  | x :: r, h => by
    have h1 := h x List.mem_cons_self
    have h2 := sum_le (ns := r) fun y hy => h y (List.mem_cons_of_mem _ hy)
    rw [List.sum_cons, List.length_cons, Nat.succ_mul]
    omega
/-- a list that grows, made within -/
structure RD (b F : Addr) (H G : Hp) (rs : List Str) (m : Int) : Prop where
  bag : Bag G b m
  fnd : G F = some (.lst (rs.map V.str))
  kept : Kept b H G
  ne : F ≠ b
theorem RD.to {b F : Addr} {H G G' : Hp} {rs : List Str} {m m' : Int} (h : RD b F H G rs m) (k : Kept b G G') (hB : Bag G' b m') : RD b F H G' rs m' := ⟨hB, k F _ h.ne h.fnd, h.kept.trans k, h.ne⟩
theorem RD.le {b F : Addr} {H G : Hp} {rs : List Str} {m m' : Int} (h : RD b F H G rs m) (q : m ≤ m') : RD b F H G rs m' := ⟨h.bag.mono q, h.fnd, h.kept, h.ne⟩
theorem RD.set {b F : Addr} {H G : Hp} {rs qs : List Str} {m : Int} (h : RD b F H G rs m) (hF : H F = none) : RD b F H (upd G F (.lst (qs.map V.str))) qs m :=
  ⟨h.bag.put h.ne, upd_same, fun x o nx e => (upd_ne (ne_of_none e hF)).trans (h.kept x o nx e), h.ne⟩
end KX

set_option Elab.async false
set_option maxRecDepth 100000
set_option maxHeartbeats 2000000
/-! Bounds and rings, in plain words. -/
namespace KX
open PySem PySem.Spec PyProof.Rows L2
abbrev Bd := Str × Str × Int
/-- a bound, if it is one -/
def bd3 : PyData → Option Bd
  | .tuple [.str u, .str v, .int c] => if (isNm u && (isNm v && !decide (u = v))) = true then some (u, v, c) else none
  | _ => none
def bdD (d : PyData) : Bool := (bd3 d).isSome
def okBd (d : PyData) : Prop := ∀ ds, d = .tuple ds → ds.length ≤ 1000 ∧ ∀ e ∈ ds, okN e
def okRing (d : PyData) : Prop := ∀ ds, d = .list ds ∨ d = .tuple ds → ds.length ≤ 1000 ∧ ∀ e ∈ ds, okBd e
def jb (ts : List Bd) (i : Nat) : Bool :=
  match ts[pred ts.length i]?, ts[i]? with
  | some p, some q => decide (p.2.1 = q.1)
  | _, _ => false
def rgT (ts : List Bd) : Bool := (List.range ts.length).all (jb ts) && decide ((ts.map fun t => t.2.2).sum < 0)
def bdOf (d : PyData) : Bd := (bd3 d).getD (⟨#[]⟩, ⟨#[]⟩, 0)
def rgL (ds : List PyData) : Bool := ds.all bdD && rgT (ds.map bdOf)
def rgD : PyData → Bool
  | .list ds => rgL ds
  | .tuple ds => rgL ds
  | _ => false
theorem rg_nil : rgL [] = false := by
  show (true && ((List.range 0).all _ && decide (([] : List Int).sum < 0))) = false
  rfl
/-- a bound that stands at x -/
def BdAt (K : PySem.W.Frag) (H : Hp) (x : V) (t : Bd) : Prop := ∃ a, x = .ref a ∧ SqT K H a [.str t.1, .str t.2.1, .int t.2.2]
theorem bd3_inv {d : PyData} {t : Bd} (h : bd3 d = some t) : d = .tuple [.str t.1, .str t.2.1, .int t.2.2] ∧ isNm t.1 = true ∧ isNm t.2.1 = true ∧ t.1 ≠ t.2.1 := by
  unfold bd3 at h
  split at h
  · split at h
    · rename_i u v c hc
      cases h
      obtain ⟨h1, h2⟩ := Bool.and_eq_true_iff.mp hc
      obtain ⟨h2, h3⟩ := Bool.and_eq_true_iff.mp h2
      refine ⟨rfl, h1, h2, fun e => ?_⟩
      rw [decide_eq_true e] at h3
      cases h3
    · cases h
  · cases h
theorem dp_tup3 {K : PySem.W.Frag} {H : Hp} {x : V} {u v : Str} {c : Int} (h : Dp K H x (.tuple [.str u, .str v, .int c])) : BdAt K H x (u, v, c) := by
  cases h with
  | tup hS ha =>
    cases ha with
    | cons h1 ha =>
      cases ha with
      | cons h2 ha =>
        cases ha with
        | cons h3 ha =>
          cases ha
          cases h1
          cases h2
          cases h3
          exact ⟨_, rfl, hS⟩
theorem bd_at {K : PySem.W.Frag} {H : Hp} {x : V} {d : PyData} (h : Dp K H x d) (hb : bdD d = true) : BdAt K H x (bdOf d) := by
  unfold bdD at hb
  unfold bdOf
  cases e : bd3 d with
  | none =>
    rw [e] at hb
    cases hb
  | some t =>
    obtain ⟨rfl, _⟩ := bd3_inv e
    exact dp_tup3 h
theorem BdAt.same {K : PySem.W.Frag} {H H' : Hp} {x : V} {t : Bd} (s : Same H H') (h : BdAt K H x t) : BdAt K H' x t := h.imp fun a h => ⟨h.1, sqT_same s h.2⟩
theorem bd_off {d : PyData} (h : isTupD d = false) : bdD d = false := by cases d <;> first | rfl | cases h
theorem bd_len {ds : List PyData} (h : ds.length ≠ 3) : bdD (.tuple ds) = false := by
  unfold bdD
  cases e : bd3 (.tuple ds) with
  | none => rfl
  | some t =>
    have q := PyData.tuple.inj (bd3_inv e).1
    rw [q] at h
    exact absurd rfl h
/-- two texts are not the same one -/
def neS : PyData → PyData → Bool
  | .str u, .str v => !decide (u = v)
  | _, _ => true
/-- what bdD is, part by part -/
theorem bd_parts (a b c : PyData) : bdD (.tuple [a, b, c]) = (nmD a && (nmD b && (neS a b && isIntD c))) := by
  unfold bdD bd3
  cases a <;> try rfl
  rename_i u
  cases b <;> try (show (false : Bool) = (isNm u && (false && _)); cases isNm u <;> rfl)
  rename_i v
  cases c <;> try (show false = (isNm u && (isNm v && (!decide (u = v) && false))); cases isNm u <;> cases isNm v <;> cases decide (u = v) <;> rfl)
  show (if (isNm u && (isNm v && !decide (u = v))) = true then some ((u, v, _) : Bd) else none).isSome = (isNm u && (isNm v && (!decide (u = v) && true)))
  cases isNm u <;> cases isNm v <;> cases decide (u = v) <;> rfl
theorem bds_at {K : PySem.W.Frag} {H : Hp} {xs : List V} {ds : List PyData} {i : Nat} {x : V} (hA : DpAll K H xs ds) (hb : ds.all bdD = true) (h : xs[i]? = some x) : ∃ t, (ds.map bdOf)[i]? = some t ∧ BdAt K H x t := by
  obtain ⟨d, hd, hx⟩ := dpall_at hA h
  refine ⟨bdOf d, ?_, bd_at hx (List.all_eq_true.mp hb d (List.mem_of_getElem? hd))⟩
  rw [List.getElem?_map, hd]
  rfl
theorem jb_eq {ts : List Bd} {i : Nat} {p q : Bd} (hp : ts[pred ts.length i]? = some p) (hq : ts[i]? = some q) : jb ts i = decide (p.2.1 = q.1) := by
  unfold jb
  rw [hp, hq]
/-- what _law_is_round asks of a list of things -/
def okE (e : PyData) : Prop := okBd e ∧ e.canLay0 = true ∧ e.depth ≤ 60
def spRound (K : PySem.W.Frag) : Sp := fun vs H Q _ => ∃ (l : Addr) (xs : List V) (ds : List PyData), vs = [.ref l] ∧ SqL K H l xs ∧ DpAll K H xs ds ∧ ds.length ≤ 1000 ∧ (∀ e ∈ ds, okE e) ∧ ∀ H', Same H H' → Q (.bl (rgL ds)) H'
def spBound (K : PySem.W.Frag) : Sp := fun vs H Q _ => ∃ (x : V) (d : PyData), vs = [x] ∧ Dp K H x d ∧ okBd d ∧ ∀ H', Same H H' → Q (.bl (bdD d)) H'
def spOpp (K : PySem.W.Frag) : Sp := fun vs H Q _ => ∃ (a : Addr) (x y : V) (c : Int), vs = [.ref a] ∧ SqT K H a [x, y, .int c] ∧ ∀ p, H p = none → Q (.ref p) (upd H p (.tup [y, x, .int (-c - 1)]))
def spRing (K : PySem.W.Frag) : Sp := fun vs H Q _ => ∃ (x : V) (d : PyData), vs = [x] ∧ Dp K H x d ∧ okRing d ∧ ∀ H', Same H H' → Q (.bl (rgD d)) H'
/-- a bound's data, its constant not beyond m -/
def BdX (m : Nat) (d : PyData) : Prop := ∃ u v c, d = .tuple [.str u, .str v, .int c] ∧ isNm u = true ∧ isNm v = true ∧ c.natAbs ≤ m
/-- _law_round -/
def spRnd (K : PySem.W.Frag) : Sp := fun vs H Q _ => ∃ (b L : Addr) (n : Int) (zs : List Str), vs = [.ref b, .ref L] ∧ Bag H b n ∧ n < 700000 ∧ L ≠ b ∧ H L = some (.lst (zs.map V.str)) ∧ zs.Nodup ∧ 2 ≤ zs.length ∧ zs.length ≤ 100 ∧ (∀ z ∈ zs, isNm z = true) ∧
  ∀ R rs ds G, H R = none → R ≠ b → Kept b H G → Bag G b (n + 60) → G R = some (.lst rs) → DpAll K G rs ds → 1 ≤ ds.length → ds.length ≤ 8 → (∀ d ∈ ds, BdX (10 ^ 29) d) → Q (.ref R) G
/-- a bound's tuple, made within -/
def BdT (G : Hp) (x : V) (t : Bd) : Prop := ∃ a, x = .ref a ∧ G a = some (.tup [.str t.1, .str t.2.1, .int t.2.2])
theorem BdT.off {G : Hp} {x : V} {t : Bd} {R : Addr} {ys : List V} {o : HO} (h : BdT G x t) (e : G R = some (.lst ys)) : BdT (upd G R o) x t := by
  obtain ⟨a, rfl, ha⟩ := h
  refine ⟨a, rfl, (upd_ne ?_).trans ha⟩
  rintro rfl
  rw [e] at ha
  cases ha
theorem BdT.kept {b : Addr} {n : Int} {G G' : Hp} {x : V} {t : Bd} (h : BdT G x t) (hB : Bag G b n) (k : Kept b G G') : BdT G' x t := by
  obtain ⟨a, rfl, ha⟩ := h
  refine ⟨a, rfl, k a _ ?_ ha⟩
  rintro rfl
  obtain ⟨d, m, c, e, _⟩ := hB
  rw [e] at ha
  cases ha
theorem BdT.same {G G' : Hp} {x : V} {t : Bd} (h : BdT G x t) (k : Same G G') : BdT G' x t := h.imp fun a h => ⟨h.1, k _ _ h.2⟩
def bdX (t : Bd) : PyData := .tuple [.str t.1, .str t.2.1, .int t.2.2]
theorem bts_dp {K : PySem.W.Frag} {G : Hp} : ∀ {xs : List V} {ts : List Bd}, Paired (BdT G) xs ts → DpAll K G xs (ts.map bdX)
  | _, _, .nil => .nil
  | _, _, .cons h r => by
    obtain ⟨a, rfl, ha⟩ := h
    exact .cons (.tup (SqT.of ha) (.cons (.str _) (.cons (.str _) (.cons (.int _) .nil)))) (bts_dp r)
theorem pair_imp {α β : Type} {P Q : α → β → Prop} (h : ∀ x y, P x y → Q x y) : ∀ {xs : List α} {ys : List β}, Paired P xs ys → Paired Q xs ys
  | _, _, .nil => .nil
  | _, _, .cons a r => .cons (h _ _ a) (pair_imp h r)
theorem pair_snoc {α β : Type} {P : α → β → Prop} {x : α} {y : β} (h : P x y) : ∀ {xs : List α} {ys : List β}, Paired P xs ys → Paired P (xs ++ [x]) (ys ++ [y])
  | _, _, .nil => .cons h .nil
  | _, _, .cons a r => .cons a (pair_snoc h r)
theorem pair_len {α β : Type} {P : α → β → Prop} : ∀ {xs : List α} {ys : List β}, Paired P xs ys → xs.length = ys.length
  | _, _, .nil => rfl
  | _, _, .cons _ r => congrArg (· + 1) (pair_len r)
theorem cut_from {α : Type} (xs : List V) (i : Nat) (h : i ≤ xs.length) : cutV xs (some (i : Int)) none = xs.drop i := by
  unfold cutV
  rw [HT.sIx_none, HT.sIx_nat, Nat.min_eq_left h]
  refine List.take_of_length_le ?_
  rw [List.length_drop]
  exact Nat.le_refl _
end KX

set_option Elab.async false
set_option maxRecDepth 100000
set_option maxHeartbeats 2000000
/-! Small odd things: scalars, and lists and tuples of a few of them. -/
namespace KX
open PySem PySem.Spec PyProof.Rows L2
def ScD (m : Nat) : PyData → Prop
  | .none => True
  | .bool _ => True
  | .int i => i.natAbs ≤ m
  | .str z => z.length ≤ 100 ∧ ∀ c ∈ tlc z, c < 1000
  | _ => False
def ElX (m : Nat) (d : PyData) : Prop := ScD m d ∨ ∃ ds, ((d = .list ds ∧ ∃ z r, ds = .str z :: r) ∨ d = .tuple ds) ∧ ds.length ≤ 6 ∧ ∀ e ∈ ds, ScD m e
theorem ScD.mono {m m' : Nat} {d : PyData} (h : m ≤ m') (q : ScD m d) : ScD m' d := by
  cases d <;> first | exact q | exact Nat.le_trans q h
theorem ElX.mono {m m' : Nat} {d : PyData} (h : m ≤ m') (q : ElX m d) : ElX m' d := by
  rcases q with q | ⟨ds, e, hl, q⟩
  · exact .inl (q.mono h)
  · exact .inr ⟨ds, e, hl, fun x hx => (q x hx).mono h⟩
theorem nm_sc {m : Nat} {z : Str} (h : isNm z = true) : ScD m (.str z) := by
  obtain ⟨h1, h2, h3⟩ := nm_inv h
  refine ⟨by omega, fun c hc => ?_⟩
  have q := h3 c hc
  unfold isLet at q
  have := of_decide_eq_true (Bool.and_eq_true_iff.mp q).2
  exact Nat.lt_of_le_of_lt this (by decide)
theorem BdX.el {m : Nat} {d : PyData} (h : BdX m d) : ElX m d := by
  obtain ⟨u, v, c, rfl, hu, hv, hc⟩ := h
  refine .inr ⟨_, .inr rfl, by show 3 ≤ 6; decide, fun e he => ?_⟩
  rcases List.mem_cons.mp he with rfl | he
  · exact nm_sc hu
  rcases List.mem_cons.mp he with rfl | he
  · exact nm_sc hv
  rw [List.mem_singleton.mp he]
  exact hc
theorem sc_okN {m : Nat} {d : PyData} (h : ScD m d) : okN d := by
  rintro z rfl
  have := h.1
  omega
theorem str_ok {z : Str} (h : z.length ≤ 100 ∧ ∀ c ∈ tlc z, c < 1000) : PyData.canLay0 (.str z) = true := by
  show z.cps.all (· < 0x110000) = true
  rw [← Array.all_toList]
  exact List.all_eq_true.mpr fun c hc => decide_eq_true (Nat.lt_trans (h.2 c hc) (by decide))
theorem sc_lay {m : Nat} {d : PyData} (h : ScD m d) : d.canLay0 = true ∧ d.depth ≤ 0 := by
  cases d with
  | none => exact ⟨rfl, Nat.le_refl _⟩
  | bool => exact ⟨rfl, Nat.le_refl _⟩
  | int => exact ⟨rfl, Nat.le_refl _⟩
  | str z => exact ⟨str_ok h, Nat.le_refl _⟩
  | list => exact False.elim h
  | tuple => exact False.elim h
  | dict => exact False.elim h
theorem ElX.okE {m : Nat} {d : PyData} (h : ElX m d) : okE d := by
  rcases h with h | ⟨ds, e, hl, q⟩
  · refine ⟨fun ds e => ?_, (sc_lay h).1, Nat.le_trans (sc_lay h).2 (by decide)⟩
    subst e
    exact False.elim h
  · obtain ⟨l1, l2⟩ := lay_all (k := 0) fun x hx => sc_lay (q x hx)
    rcases e with ⟨rfl, _⟩ | rfl
    · exact ⟨fun es e => (nomatch e), l1, by show PyData.depthAll ds + 1 ≤ 60; omega⟩
    · refine ⟨fun es e => ?_, l1, by show PyData.depthAll ds + 1 ≤ 60; omega⟩
      cases e
      exact ⟨by omega, fun x hx => sc_okN (q x hx)⟩
theorem sc_small {m : Nat} {d : PyData} (hm : m < 10 ^ 40) (h : ScD m d) : Small d 0 1002 := by
  cases d with
  | none => exact ⟨rfl, rfl, Nat.le_refl _, by show ("None" : Str).length ≤ 1002; decide⟩
  | bool b => exact ⟨rfl, rfl, Nat.le_refl _, by cases b <;> (show (_ : Str).length ≤ 1002; decide)⟩
  | int i =>
    have hi : i.natAbs < 10 ^ 40 := Nat.lt_of_le_of_lt h hm
    refine ⟨decide_eq_true ?_, rfl, Nat.le_refl _, ?_⟩
    · have h2 : i.natAbs < 2 ^ 140 := Nat.lt_trans hi (by decide)
      exact Nat.lt_trans (PySem.Flt.log2_lt_of (by decide) h2) (by decide)
    · have q := int_text_length_le10 (k := 40) (by decide) hi
      show (Str.ofString (toString i)).length ≤ 1002
      rw [PySem.ofString_length]
      omega
  | str z =>
    refine ⟨rfl, rfl, Nat.le_refl _, ?_⟩
    have q := PySem.StrLaws.reprText_len z fun c hc => Nat.lt_trans (h.2 c hc) (by decide)
    have := h.1
    show (reprText z).length ≤ 1002
    omega
  | list => exact False.elim h
  | tuple => exact False.elim h
  | dict => exact False.elim h
theorem piled_le {m : Nat} : ∀ {ts : List Str}, (∀ t ∈ ts, t.length ≤ m) → piled ts ≤ ts.length * (m + 2)
  | [], _ => Nat.zero_le _
  | t :: r, h => by
    have h1 := h t List.mem_cons_self
    have h2 := piled_le (ts := r) fun u hu => h u (List.mem_cons_of_mem _ hu)
    rw [List.length_cons, Nat.succ_mul]
    simp only [piled, List.map_cons, List.sum_cons] at h2 ⊢
    omega
theorem tupleText_le {m : Nat} {ts : List Str} (h : ∀ t ∈ ts, t.length ≤ m) : (tupleText ts).length ≤ ts.length * (m + 2) + 4 := by
  unfold tupleText
  have e1 : (("(" : String) : Str).length = 1 := by decide
  have e2 : ((if ts.length == 1 then ",)" else ")" : String) : Str).length ≤ 2 := by split <;> decide
  rw [Str.length_append, Str.length_append]
  cases ts with
  | nil =>
    have : (Str.join ", " ([] : List Str)).length = 0 := rfl
    omega
  | cons x r =>
    have q := join_length_add (x :: r) (by simp)
    have p := piled_le h
    omega
theorem small_tuple {k n m : Nat} {ds : List PyData} (h : ∀ d ∈ ds, Small d k n) (hm : ds.length * (n + 2) + 4 ≤ m) : Small (.tuple ds) (k + 1) m := by
  obtain ⟨h1, h2, h3⟩ := small_all h
  refine ⟨h1, h2, Nat.succ_le_succ h3, Nat.le_trans (tupleText_le (m := n) fun t ht => ?_) (by rw [shownAll_len]; exact hm)⟩
  obtain ⟨d, hd, rfl⟩ := shownAll_mem ht
  exact (h d hd).ln
theorem Small.mono {d : PyData} {k k' n n' : Nat} (h : Small d k n) (hk : k ≤ k') (hn : n ≤ n') : Small d k' n' := ⟨h.sh, h.nd, Nat.le_trans h.dp hk, Nat.le_trans h.ln hn⟩
theorem ElX.small {m : Nat} {d : PyData} (hm : m < 10 ^ 40) (h : ElX m d) : Small d 1 6100 := by
  rcases h with h | ⟨ds, e, hl, q⟩
  · exact (sc_small hm h).mono (by decide) (by decide)
  · have hs : ∀ e ∈ ds, Small e 0 1002 := fun e he => sc_small hm (q e he)
    have hb : ds.length * (1002 + 2) ≤ 6 * 1004 := Nat.mul_le_mul_right _ hl
    rcases e with ⟨rfl, _⟩ | rfl
    · exact small_list hs (by omega)
    · exact small_tuple hs (by omega)
/-- what _law_changed makes -/
def spChg (K : PySem.W.Frag) : Sp := fun vs H Q _ => ∃ (b R L : Addr) (n : Int) (rs : List V) (ds : List PyData) (zs : List Str) (m : Nat), vs = [.ref b, .ref R, .ref L] ∧ Bag H b n ∧ n < 700000 ∧ R ≠ b ∧ L ≠ b ∧ H R = some (.lst rs) ∧ DpAll K H rs ds ∧ 1 ≤ ds.length ∧ ds.length ≤ 100 ∧ (∀ d ∈ ds, BdX m d) ∧
  H L = some (.lst (zs.map V.str)) ∧ 1 ≤ zs.length ∧ zs.length ≤ 100 ∧ (∀ z ∈ zs, isNm z = true) ∧
  ∀ F fs es G, H F = none → F ≠ b → Kept b H G → Bag G b (n + 3) → G F = some (.lst fs) → DpAll K G fs es → es.length ≤ 2 * ds.length → (∀ e ∈ es, ElX (m + 10 ^ 29) e) → Q (.ref F) G
theorem sc_any {K : PySem.W.Frag} {G G' : Hp} {m : Nat} {v : V} {d : PyData} (h : ScD m d) (q : Dp K G v d) : Dp K G' v d := by
  cases q with
  | non => exact .non
  | bl b => exact .bl b
  | int i => exact .int i
  | str x => exact .str x
  | lst => exact False.elim h
  | tup => exact False.elim h
theorem sc_anys {K : PySem.W.Frag} {G G' : Hp} {m : Nat} : ∀ {vs : List V} {ds : List PyData}, (∀ e ∈ ds, ScD m e) → DpAll K G vs ds → DpAll K G' vs ds
  | _, _, _, .nil => .nil
  | _, _, h, .cons a r => .cons (sc_any (h _ List.mem_cons_self) a) (sc_anys (fun e he => h e (List.mem_cons_of_mem _ he)) r)
/-- such a thing stands while all but the bag stands -/
theorem el_kept {K : PySem.W.Frag} {G G' : Hp} {b : Addr} {n : Int} {m : Nat} {v : V} {d : PyData} (hB : Bag G b n) (k : Kept b G G') (h : ElX m d) (q : Dp K G v d) : Dp K G' v d := by
  obtain ⟨bd, bm, bc, eb, _⟩ := hB
  rcases h with h | ⟨ds, e, hl, hs⟩
  · exact sc_any h q
  · rcases e with ⟨rfl, z, r, rfl⟩ | rfl
    · cases q with
      | lst hS hA =>
        refine .lst ?_ (sc_anys hs hA)
        cases hA with
        | cons h1 _ =>
          cases h1
          have hne : ∀ {a : Addr} {u : HO}, G a = some u → (∀ xs, u = .lst (.int bd :: xs) → False) → a ≠ b := by
            rintro a u h1 h2 rfl
            rw [eb] at h1
            exact h2 _ (Option.some.inj h1).symm
          rcases hS with (h | ⟨o2, h⟩) | h
          · exact .inl (.inl (k _ _ (hne h (fun _ z => nomatch z)) h))
          · exact .inl (.inr ⟨o2, k _ _ (hne h (fun _ z => nomatch z)) h⟩)
          · exact .inr h
    · cases q with
      | tup hS hA =>
        refine .tup ?_ (sc_anys hs hA)
        have hne : ∀ {a : Addr} {u : HO}, G a = some u → (∀ xs, u ≠ .lst xs) → a ≠ b := by
          rintro a u h1 h2 rfl
          rw [eb] at h1
          exact h2 _ (Option.some.inj h1).symm
        rcases hS with (h | ⟨o2, h⟩) | h
        · exact .inl (.inl (k _ _ (hne h (fun _ z => nomatch z)) h))
        · exact .inl (.inr ⟨o2, k _ _ (hne h (fun _ z => nomatch z)) h⟩)
        · exact .inr h
theorem els_kept {K : PySem.W.Frag} {G G' : Hp} {b : Addr} {n : Int} {m : Nat} (hB : Bag G b n) (k : Kept b G G') : ∀ {vs : List V} {ds : List PyData}, (∀ e ∈ ds, ElX m e) → DpAll K G vs ds → DpAll K G' vs ds
  | _, _, _, .nil => .nil
  | _, _, h, .cons a r => .cons (el_kept hB k (h _ List.mem_cons_self) a) (els_kept hB k (fun e he => h e (List.mem_cons_of_mem _ he)) r)
theorem el_bd {m : Nat} {d : PyData} (h : ElX m d) (q : bdD d = true) : BdX m d := by
  unfold bdD at q
  cases e : bd3 d with
  | none => rw [e] at q; cases q
  | some t =>
    obtain ⟨rfl, h1, h2, _⟩ := bd3_inv e
    refine ⟨t.1, t.2.1, t.2.2, rfl, h1, h2, ?_⟩
    rcases h with h | ⟨ds, e2, _, hs⟩
    · exact False.elim h
    · rcases e2 with ⟨e2, _⟩ | e2
      · cases e2
      · cases e2
        exact hs (.int t.2.2) (by simp)
end KX

set_option Elab.async false
set_option maxRecDepth 100000
set_option maxHeartbeats 2000000
/-! Facts that stand while nothing tracked changes (mv), or nothing but the bag (mb). -/
namespace KX
open PySem PySem.Spec PySem.Calls PyProof.Rows L2
theorem new_same {H G : Hp} {p : Addr} {o : HO} (e : upd H p o = G) (np : H p = none) : Same H G := e ▸ same_put np
theorem new_at {H G : Hp} {p : Addr} {o : HO} (e : upd H p o = G) : G p = some o := e ▸ upd_same
/-- a list at a, which is not the bag -/
structure LsA (b : Addr) (H : Hp) (a : Addr) (xs : List V) : Prop where
  ne : a ≠ b
  at_ : H a = some (.lst xs)
/-- what stood at first stands, and the bag is new -/
structure SmN (b : Addr) (H0 H : Hp) : Prop where
  no : H0 b = none
  sm : Same H0 H
theorem bag_nt {H : Hp} {b : Addr} {n : Int} (hB : Bag H b n) {a : Addr} {u : HO} (h : H a = some u) (q : ∀ xs, u ≠ .lst xs) : a ≠ b := by
  obtain ⟨d, m, c, e, _⟩ := hB
  rintro rfl
  rw [e] at h
  exact q _ (Option.some.inj h).symm
section
variable {K : PySem.W.Frag} {b a : Addr} {H G : Hp} {n : Int}
theorem _root_.Eq.mv {o : HO} (h : H a = some o) (s : Same H G) : G a = some o := s _ _ h
theorem _root_.L2.SqL.mv {xs : List V} (h : SqL K H a xs) (s : Same H G) : SqL K G a xs := s.seq h
theorem _root_.L2.SqT.mv {xs : List V} (h : SqT K H a xs) (s : Same H G) : SqT K G a xs := sqT_same s h
theorem _root_.L2.Dp.mv {x : V} {d : PyData} (h : Dp K H x d) (s : Same H G) : Dp K G x d := dp_same s _ _ h
theorem _root_.L2.DpAll.mv {xs : List V} {ds : List PyData} (h : DpAll K H xs ds) (s : Same H G) : DpAll K G xs ds := dps_same s _ _ h
theorem _root_.L2.Same.mv {H0 : Hp} (h : Same H0 H) (s : Same H G) : Same H0 G := h.trans s
theorem Bag.mv (h : Bag H b n) (s : Same H G) : Bag G b n := by obtain ⟨d, m, c, e, r⟩ := h; exact ⟨d, m, c, s _ _ e, r⟩
theorem LsA.mv {xs : List V} (h : LsA b H a xs) (s : Same H G) : LsA b G a xs := ⟨h.1, s _ _ h.2⟩
theorem SmN.mv {H0 : Hp} (h : SmN b H0 H) (s : Same H G) : SmN b H0 G := ⟨h.1, h.2.trans s⟩
theorem _root_.Eq.mb {o : HO} (h : H a = some o) (hB : Bag H b n) (k : Kept b H G) (q : ∀ xs, o ≠ .lst xs := by exact nofun) : G a = some o := k _ _ (bag_nt hB h q) h
theorem _root_.L2.SqT.mb {xs : List V} (h : SqT K H a xs) (hB : Bag H b n) (k : Kept b H G) : SqT K G a xs := by
  rcases h with (h | ⟨o2, h⟩) | h
  · exact .inl (.inl (k _ _ (bag_nt hB h nofun) h))
  · exact .inl (.inr ⟨o2, k _ _ (bag_nt hB h nofun) h⟩)
  · exact .inr h
theorem LsA.mb {xs : List V} (h : LsA b H a xs) (_ : Bag H b n) (k : Kept b H G) : LsA b G a xs := ⟨h.1, k _ _ h.1 h.2⟩
theorem SmN.mb {H0 : Hp} (h : SmN b H0 H) (_ : Bag H b n) (k : Kept b H G) : SmN b H0 G := ⟨h.1, fun x o e => k x o (ne_of_none e h.1) (h.2 _ _ e)⟩
end
theorem SmN.off {b D : Addr} {H0 H : Hp} {o : HO} (h : SmN b H0 H) (n : H0 D = none) : SmN b H0 (upd H D o) := ⟨h.1, fun y u e => (upd_ne (ne_of_none e n)).trans (h.2 _ _ e)⟩
theorem LsA.off {b a D : Addr} {H : Hp} {xs : List V} {o : HO} (h : LsA b H a xs) (n : a ≠ D) : LsA b (upd H D o) a xs := ⟨h.1, (upd_ne n).trans h.2⟩
theorem intsDp {K : PySem.W.Frag} {H : Hp} : ∀ zs : List Int, DpAll K H (zs.map V.int) (zs.map PyData.int)
  | [] => .nil
  | z :: r => .cons (.int z) (intsDp r)
theorem listSh {ds : List PyData} {k : Nat} (hk : k < 60) (h : ∀ d ∈ ds, d.canLay0 = true ∧ d.depth ≤ k) : SeqAt.shaped (.list ds) = true := by
  obtain ⟨l1, l2⟩ := lay_all (k := k) h
  exact Bool.and_eq_true_iff.mpr ⟨l1, decide_eq_true (by show PyData.depthAll ds + 1 ≤ _; omega)⟩
theorem tupSh {ds : List PyData} {k : Nat} (hk : k < 60) (h : ∀ d ∈ ds, d.canLay0 = true ∧ d.depth ≤ k) : SeqAt.shaped (.tuple ds) = true := by
  obtain ⟨l1, l2⟩ := lay_all (k := k) h
  exact Bool.and_eq_true_iff.mpr ⟨l1, decide_eq_true (by show PyData.depthAll ds + 1 ≤ _; omega)⟩
theorem intsSh (zs : List Int) : SeqAt.shaped (.list (zs.map PyData.int)) = true := listSh (k := 0) (by decide) fun d hd => by
  obtain ⟨z, _, rfl⟩ := List.mem_map.mp hd
  exact ⟨rfl, Nat.zero_le _⟩
theorem fresh_k {b p : Addr} {H G : Hp} (k : Kept b H G) (ne : p ≠ b) (n : G p = none) : H p = none := by
  cases e : H p with
  | none => rfl
  | some o => rw [k p o ne e] at n; cases n
theorem kept_upd {b p : Addr} {H G : Hp} {o : HO} (k : Kept b H G) (n : H p = none) : Kept b H (upd G p o) := fun x u ne e => (upd_ne (ne_of_none e n)).trans (k x u ne e)
theorem _root_.KX.Kept.mv {b : Addr} {H G G' : Hp} (k : Kept b H G) (s : Same G G') : Kept b H G' := fun x o ne e => s _ _ (k x o ne e)
theorem mergeK_new {kvs : List (Key × V)} (h : (kvs.map (·.1)).Nodup) : mergeK [] kvs = kvs := by
  have : ∀ (kvs acc : List (Key × V)), ((acc ++ kvs).map (·.1)).Nodup → mergeK acc kvs = acc ++ kvs := by
    intro kvs
    induction kvs with
    | nil => intro acc _; simp [mergeK]
    | cons kv r ih =>
      intro acc hn
      unfold mergeK
      rw [List.foldl_cons]
      have hnot : (acc.any fun x => decide (x.1 = kv.1)) = false := by
        rw [List.any_eq_false]
        intro x hx
        rw [List.map_append, List.nodup_append] at hn
        have := hn.2.2 x.1 (List.mem_map_of_mem hx) kv.1 (by simp)
        simpa using this
      have e : putK acc kv.1 kv.2 = acc ++ [kv] := by
        unfold putK
        rw [hnot]
        rfl
      rw [e]
      have := ih (acc ++ [kv]) (by rw [List.append_assoc]; exact hn)
      unfold mergeK at this
      rw [this, List.append_assoc]
      rfl
  have := this kvs [] (by simpa using h)
  simpa using this
/-- a new object, and all as it was -/
theorem LsA.new {b p : Addr} {H : Hp} {n : Int} {xs : List V} {G : Hp} (hB : Bag H b n) (np : H p = none) (h : G p = some (.lst xs)) : LsA b G p xs := ⟨hB.ne np, h⟩
section
variable {X : Cx} {CX : CXT} {k : Nat} {f C : Addr} {sp : Sp} {E : L2.St → XK} {x : Str} {e : Expr} {es : List Expr} {t : TA} {p pos : Pos}
/-- C(..) in a try: what is raised may be told by the slots -/
def tMakeRS (C : Addr) (sp : Sp) (E : L2.St → XK) (t : TA) : TE := fun σ H Q => t σ H fun vs H1 => ∀ x dx, H1 x = Option.none → H1 dx = Option.none → dx ≠ x →
  sp (V.ref x :: vs) (upd (upd H1 dx (.own x)) x (.ins C dx [])) (fun v H2 => v = .non ∧ Q (.ref x) H2) (E σ)
theorem run_makeRS {pins : List (Addr × Obj)} {σ : L2.St} {H : Hp} {s : Shared} {Q : VK} {us : List Value} {vs : List V} {E : XK} (M : Mk X.K C f) (F : FnR X.prog X.w X.K X.mg X.base CX k f sp) (hr : Room (k + 1) X.A) (hx : PassesAt CX X σ E) (I : Inv X pins σ H s) (r : Vals vs us)
    (h : ∀ x dx, H x = Option.none → H dx = Option.none → dx ≠ x → sp (V.ref x :: vs) (upd (upd H dx (.own x)) x (.ins C dx [])) (fun v H2 => v = .non ∧ Q (.ref x) H2) E) :
    wpAny (model X.prog X.w) X.A (call (.ref C) us) (EP X pins σ Q) X.xe s := by
  have hq := h (s.heap.objs.size + 1) s.heap.objs.size (I.hok.fresh (Nat.le_succ _)) (I.hok.fresh (Nat.le_refl _)) (Nat.ne_of_lt (Nat.lt_succ_self _))
  have I2 := Inv.made (C := C) I
  have r2 : Vals (V.ref (s.heap.objs.size + 1) :: vs) (Value.ref (s.heap.objs.size + 1) :: us) := .cons rfl r
  refine wpAny_call (make_map (f := f) I.kIn M.makes M.init (beq_iff_eq.mp M.fn) (codeAny_mono (F _ X.stack _ _ (Value.ref (s.heap.objs.size + 1) :: us) _ _ E (hr.make C us []) (I2.env0.make C us []) r2 hq) fun r s' hq' => ?_))
  cases r with
  | error e => exact hx pins _ _ e s' I2 hq'
  | ok fl =>
    cases fl with
    | ret u =>
      obtain ⟨v, H', I3, rv, ev, q3⟩ := I2.after hq'
      subst ev
      exact ⟨rv, ⟨V.ref (s.heap.objs.size + 1), H', I3, rfl, q3⟩⟩
    | next => exact False.elim hq'
    | brk => exact False.elim hq'
    | cont => exact False.elim hq'
theorem pe_makeRS (M : Mk X.K C f) (F : FnR X.prog X.w X.K X.mg X.base CX k f sp) (hr : Room (k + 1) X.A) (hg : Gl X x) (hm : X.mg x = some (.ref C)) (hx : ∀ σ, PassesAt CX X σ (E σ)) (ha : PA X (e :: es) t) (hdb : (x == ("__debug__" : Str)) = false := by decide)
    (he : starEach (e :: es) X.env = (false, eval e X.env) :: starEach es X.env := by rfl) (hpl : (backTo pos (starEach es X.env)).any (·.1) = false := by rfl) : PE X (.Call (.Name x p) (e :: es) [] pos) (tMakeRS C sp E t) := by
  refine ⟨fun pins s σ H Q I h => ?_⟩
  refine wpAny_Call_Name_kw (ld_glob I hg hm ?_ hdb)
  refine PySem.W.callWith_K (h₀ := X.base) I.ok.mod.kin M.kp (thn (ha.run pos pins s σ H _ I h) fun us s1 ⟨vs, H1, I1, r, q⟩ => ⟨I1.kIn, ?_⟩) he hpl
  exact run_makeRS M F hr (hx σ) I1 r q
theorem pe_makeR0S (M : Mk X.K C f) (F : FnR X.prog X.w X.K X.mg X.base CX k f sp) (hr : Room (k + 1) X.A) (hg : Gl X x) (hm : X.mg x = some (.ref C)) (hx : ∀ σ, PassesAt CX X σ (E σ))
    (hdb : (x == ("__debug__" : Str)) = false := by decide) : PE X (.Call (.Name x p) [] [] pos) (tMakeRS C sp E tNil) := by
  refine ⟨fun pins s σ H Q I h => ?_⟩
  refine wpAny_Call_Name_kw (ld_glob I hg hm ?_ hdb)
  exact PySem.W.callWith_K0 I.kIn M.kp (run_makeRS (us := []) M F hr (hx σ) I .nil h)
end
end KX

set_option Elab.async false
set_option maxRecDepth 100000
set_option maxHeartbeats 2000000
/-! The pool that a law draws from: what stands in it, what is promised of a draw. -/
namespace KX
open PySem PySem.Spec PyProof.Rows L2
/-- the pool at p, whose great numbers stand at g -/
def Pool (H : Hp) (p g : Addr) : Prop := ∃ (s : Addr) (c m : Int) (gs ss : List Int), H p = some (.lst [.int c, .int m, .ref g, .ref s]) ∧ 0 ≤ c ∧ 0 ≤ m ∧ m < 2147483647 ∧ H g = some (.lst (gs.map V.int)) ∧ (∀ x ∈ gs, 0 ≤ x) ∧ gs.length ≤ 63 ∧
  H s = some (.lst (ss.map V.int)) ∧ (∀ x ∈ ss, 0 ≤ x ∧ x < 10 ^ 18) ∧ 1 ≤ ss.length ∧ ss.length ≤ 64 ∧ p ≠ g ∧ p ≠ s ∧ g ≠ s
/-- what was tracked is as it was, but the pool -/
def KeptP (p g : Addr) (H H' : Hp) : Prop := ∀ x o, x ≠ p → x ≠ g → H x = some o → H' x = some o
theorem KeptP.refl (p g : Addr) (H : Hp) : KeptP p g H H := fun _ _ _ _ e => e
theorem KeptP.trans {p g : Addr} {H H1 H2 : Hp} (h : KeptP p g H H1) (k : KeptP p g H1 H2) : KeptP p g H H2 := fun x o n n2 e => k x o n n2 (h x o n n2 e)
theorem KeptP.same {p g : Addr} {H H1 H2 : Hp} (h : KeptP p g H H1) (k : Same H1 H2) : KeptP p g H H2 := fun x o n n2 e => k x o (h x o n n2 e)
theorem Pool.mv {H G : Hp} {p g : Addr} (h : Pool H p g) (k : Same H G) : Pool G p g := by
  obtain ⟨s, c, m, gs, ss, h1, h2, h3, h4, h5, h6, h7, h8, h9⟩ := h
  exact ⟨s, c, m, gs, ss, k _ _ h1, h2, h3, h4, k _ _ h5, h6, h7, k _ _ h8, h9⟩
theorem Pool.ne {H : Hp} {p g q : Addr} (h : Pool H p g) (hq : H q = none) : q ≠ p ∧ q ≠ g := by
  obtain ⟨s, c, m, gs, ss, h1, h2, h3, h4, h5, _⟩ := h
  exact ⟨(ne_of_none h1 hq).symm, (ne_of_none h5 hq).symm⟩
/-- what is no list stands while is drawn -/
theorem Pool.nt {H : Hp} {p g : Addr} (hB : Pool H p g) {a : Addr} {u : HO} (h : H a = some u) (q : ∀ xs, u ≠ .lst xs) : a ≠ p ∧ a ≠ g := by
  obtain ⟨s, c, m, gs, ss, h1, h2, h3, h4, h5, _⟩ := hB
  refine ⟨?_, ?_⟩
  · rintro rfl
    rw [h1] at h
    exact q _ (Option.some.inj h).symm
  · rintro rfl
    rw [h5] at h
    exact q _ (Option.some.inj h).symm
/-- _law_pool -/
def spPool (K : PySem.W.Frag) : Sp := fun vs H Q _ => ∃ (a : Addr) (ns : List Int), vs = [.ref a] ∧ SqL K H a (ns.map V.int) ∧ ns.length ≤ 63 ∧ ∀ p g G, H p = none → H g = none → Same H G → Pool G p g → Q (.ref p) G
/-- _law_draw -/
def spDrawP : Sp := fun vs H Q _ => ∃ (p g : Addr) (limit : Int), vs = [.ref p, .int limit] ∧ Pool H p g ∧ 0 < limit ∧ limit.natAbs < 2 ^ 200 ∧ ∀ (r : Int) (G : Hp), 0 ≤ r → r < limit → KeptP p g H G → Pool G p g → Q (.int r) G
end KX

set_option Elab.async false
set_option maxRecDepth 100000
set_option maxHeartbeats 2000000
namespace K23
open PySem PySem.Spec PyProof.Rows L2 He KX
abbrev FnP (K : PySem.W.Frag) (x : Str) (st : Stmt) (f : Addr) (fd : FuncData) : Prop := FunD K x x (defArgs st) (defBody st) (defScope st) [] [] f fd
abbrev sLPool : Stmt := top 28
abbrev sLDraw : Stmt := top 29
theorem yes {b : Bool} {A B : Prop} (h : b = true) (a : A) : if b = true then A else B := by rw [if_pos h]; exact a
theorem no {b : Bool} {A B : Prop} (h : b = false) (a : B) : if b = true then A else B := by rw [if_neg (by rw [h]; decide)]; exact a
theorem seq_by {A B : TS} {D : Ends} {σ : L2.St} {H : Hp} (R : L2.St → Hp → Prop) (h2 : ∀ σ H, R σ H → B D σ H) (h1 : (∀ σ H, R σ H → B D σ H) → A { D with nx := fun σ H => B D σ H } σ H) : tSeq A B D σ H := h1 h2
theorem a0 (x : Int) (r : List Int) : atI ((x :: r).map V.int) 0 = some (.int x) := atI_nat (j := 0) rfl
section
variable {P : Program} {w : World} {K : PySem.W.Frag} {mg : Str → Option Value} {base : Heap}
theorem scLDraw : FnScope ["pool", "limit", "small", "mixed", "great", "drawn"] ["pool", "limit"] (defScope sLDraw) := ⟨rfl, rfl, rfl, by decide +kernel, rfl, by decide +kernel, by decide +kernel⟩
theorem ok_drawP {f : Addr} {fd : FuncData} (F : FnP K "_law_draw" sLDraw f fd) (n_int : mg "int" = none) (n_len : mg "len" = none) : FnOk P w K mg base CX0 1 f fd ["pool", "limit"] spDrawP := by
  refine F.ok scLDraw (fun vs H Q E h => ?_) (fun cdv A outer s H vs Q E hr h => ?_)
  · obtain ⟨p, g, limit, rfl, _⟩ := h
    rfl
  · obtain ⟨p, g, limit, rfl, ⟨s0, c, m, gs, ss, hp, hc, hm0, hm, hg, hgs, hgl, hs, hss, hs1, hs2, npg, nps, ngs⟩, hl, hw, k⟩ := h
    have nd := scLDraw.nd
    have hu64 := hr.units
    have hu := Nat.lt_of_le_of_lt (Nat.add_le_add_left (by decide : 1 ≤ 64) _) hr.units
    refine ⟨_, PSs.nox (pss_cons (ps_asg (pe_op op_add (pe_ix ix_list (pv 0) pe_int (fun _ _ => rfl)) pe_int) (pg_sub (pv 0) pe_int set_list))
(pss_cons (ps_set (i := 2) nd rfl (Or.inl rfl) (pe_ix ix_list (pv 0) pe_int (fun _ _ => rfl)))
(pss_cons (ps_set (i := 3) nd rfl (Or.inl rfl) (pe_op op_add (pe_op op_mul (pe_ix ix_list (pv 0) pe_int (fun _ _ => rfl)) pe_int) (pe_op op_mul (pe_ix ix_list (pv 2) (pe_op op_modN (pe_ix ix_list (pv 0) pe_int (fun _ _ => rfl)) (pe_callB call_len_seq (by rfl) n_len PySem.boot_len (pa_cons (pv 2) pa_nil))) (fun _ _ => rfl)) pe_int)))
(pss_cons (ps_asg (pe_op op_modN (pe_callTy call_int1 (by rfl) n_int (by decide +kernel) (pa_cons (pe_op op_add (pe_op op_add (pv 3) (pe_op op_mul (pe_ix ix_list (pv 0) pe_int (fun _ _ => rfl)) pe_int)) pe_int) pa_nil)) pe_int) (pg_sub (pv 0) pe_int set_list))
(pss_cons (ps_set (i := 4) nd rfl (Or.inl rfl) (pe_ix ix_list (pv 0) pe_int (fun _ _ => rfl)))
(pss_cons (ps_while PassesOwn.never (PW.pt (pw_and (pt_cmpR (op_neD hu64) (pv 4) (pe_lst pa_nil) (nomark _)) (pw_and1 (pt_cmpR op_eq (pe_ix ix_list (pv 4) pe_int (fun _ _ => rfl)) pe_int (nomark _)))))
(pss_one (ps_expr (pe_bm PySem.F.plainAttrs_list PySem.F.slot_list_pop PySem.F.type_list_pop mt_popAt (pv 4) (pa_cons pe_int pa_nil)))))
(pss_cons (ps_if (pt_cmpR (op_eqD hu64) (pv 4) (pe_lst pa_nil) (nomark _))
(pss_one (ps_ret (pe_op op_modN (pe_callTy call_int1 (by rfl) n_int (by decide +kernel) (pa_cons (pe_op op_fdivN (pe_ix ix_list (pv 0) pe_int (fun _ _ => rfl)) pe_int) pa_nil)) (pv 1))))
pss_nil)
(pss_cons (ps_set (i := 5) nd rfl (Or.inl rfl) (pe_op op_modN (pe_callTy call_int1 (by rfl) n_int (by decide +kernel) (pa_cons (pe_ix ix_list (pv 4) pe_int (fun _ _ => rfl)) pa_nil)) (pv 1)))
(pss_cons (ps_asg (pe_op op_fdivW (pe_ix ix_list (pv 4) pe_int (fun _ _ => rfl)) (pv 1)) (pg_sub (pv 4) pe_int set_list))
(pss_one (ps_ret (pv 5)))))))))))), ?_⟩
    -- the count
    refine ⟨_, rfl, _, _, _, _, rfl, rfl, SqL.of hp, rfl, _, _, rfl, rfl, _, rfl, p, _, 0, _, rfl, rfl, hp, rfl, ?_⟩
    have hp1 : upd H p (.lst [.int (c + 1), .int m, .ref g, .ref s0]) p = some (.lst [.int (c + 1), .int m, .ref g, .ref s0]) := upd_same
    have hg1 := (upd_ne (H := H) (o := .lst [.int (c + 1), .int m, .ref g, .ref s0]) npg.symm).trans hg
    have hs1' := (upd_ne (H := H) (o := .lst [.int (c + 1), .int m, .ref g, .ref s0]) nps.symm).trans hs
    have kk : KeptP p g H (upd H p (.lst [.int (c + 1), .int m, .ref g, .ref s0])) := fun x o n _ e => (upd_ne n).trans e
    -- small, mixed
    obtain ⟨f1, f2⟩ := fmod_in (x := c + 1) (y := (ss.length : Int)) (by omega)
    obtain ⟨jx, hjx⟩ : ∃ j : Nat, (c + 1).fmod (ss.length : Int) = j := ⟨_, (Int.toNat_of_nonneg f1).symm⟩
    have hj : jx < ss.length := by omega
    have hx : atI (ss.map V.int) ((c + 1).fmod (ss.length : Int)) = some (.int ss[jx]) := by
      rw [hjx]
      exact atI_nat (by rw [List.getElem?_map, List.getElem?_eq_getElem hj]; rfl)
    have hmem := hss _ (List.getElem_mem hj)
    refine ⟨_, rfl, _, _, _, _, rfl, rfl, SqL.of hp1, rfl, ?_⟩
    dsimp only [gName, List.set]
    refine ⟨_, rfl, _, _, _, _, rfl, rfl, SqL.of hp1, rfl, _, _, rfl, rfl, .inr ⟨by decide, by decide⟩, _, rfl, _, rfl, _, _, _, _, rfl, rfl, SqL.of hp1, rfl, _, rfl, s0, _, rfl, .inl (SqL.of hs1'), _, _, rfl, rfl, (by rw [List.length_map]; omega), s0, _, _, _, rfl, rfl, SqL.of hs1', (by rw [List.length_map]; exact hx), _, _, rfl, rfl, .inr ⟨by decide, by decide⟩, _, _, rfl, rfl, ?_⟩
    refine ⟨_, rfl, _, rfl, _, _, _, _, rfl, rfl, SqL.of hp1, rfl, _, _, rfl, rfl, .inr ⟨by decide, by decide⟩, _, _, rfl, rfl, _, _, rfl, rfl, .inl ⟨_, rfl, _, _, rfl, rfl, (by show (2147483647 : Int) ≠ 0; decide), ?_⟩⟩
    have hp2 : upd (upd H p (.lst [.int (c + 1), .int m, .ref g, .ref s0])) p (.lst [.int (c + 1), .int ((m * 69621 + ss[jx] * 48271 + (c + 1) * 40503 + 977).fmod 2147483647), .ref g, .ref s0]) p = some (.lst [.int (c + 1), .int ((m * 69621 + ss[jx] * 48271 + (c + 1) * 40503 + 977).fmod 2147483647), .ref g, .ref s0]) := upd_same
    have hg2 := (upd_ne (o := .lst [.int (c + 1), .int ((m * 69621 + ss[jx] * 48271 + (c + 1) * 40503 + 977).fmod 2147483647), .ref g, .ref s0]) npg.symm).trans hg1
    have hs2' := (upd_ne (o := .lst [.int (c + 1), .int ((m * 69621 + ss[jx] * 48271 + (c + 1) * 40503 + 977).fmod 2147483647), .ref g, .ref s0]) nps.symm).trans hs1'
    have kk2 : KeptP p g H (upd (upd H p (.lst [.int (c + 1), .int m, .ref g, .ref s0])) p (.lst [.int (c + 1), .int ((m * 69621 + ss[jx] * 48271 + (c + 1) * 40503 + 977).fmod 2147483647), .ref g, .ref s0])) := fun x o n n2 e => (upd_ne n).trans (kk x o n n2 e)
    refine ⟨_, rfl, p, _, 1, _, rfl, rfl, hp1, rfl, ?_⟩
    refine ⟨_, rfl, _, _, _, _, rfl, rfl, SqL.of hp2, rfl, ?_⟩
    dsimp only [gName, List.set]
    obtain ⟨q1, q2⟩ := fmod_in (x := m * 69621 + ss[jx] * 48271 + (c + 1) * 40503 + 977) (y := 2147483647) (by decide)
    refine seq_by (fun σ G => ∃ (m2 : Int) (gs2 : List Int) (v3 v5 : Option V), σ = [some (.ref p), some (.int limit), some (.ref s0), v3, some (.ref g), v5] ∧ G p = some (.lst [.int (c + 1), .int m2, .ref g, .ref s0]) ∧ 0 ≤ m2 ∧ m2 < 2147483647 ∧ G g = some (.lst (gs2.map V.int)) ∧ (∀ x ∈ gs2, 0 ≤ x) ∧ gs2.length ≤ 63 ∧ G s0 = some (.lst (ss.map V.int)) ∧ KeptP p g H G) ?_ (fun nxt => ?_)
    · clear hp hg hs hp1 hg1 hs1' hp2 hg2 hs2' kk kk2 q1 q2 hgs hgl
      rintro σ G ⟨m2, gs2, v3, v5, rfl, hp, hm20, hm21, hg, hgs, hgl, hs, kk⟩
      refine ⟨_, rfl, by decide, fun E2 nE2 => ?_⟩
      generalize e_G2 : upd _ E2 _ = G2
      have s_E2 := new_same e_G2 nE2
      have f_E2 := new_at e_G2
      clear e_G2
      have hp := hp.mv s_E2
      have hg := hg.mv s_E2
      have hs := hs.mv s_E2
      have kk := kk.same s_E2
      refine ⟨_, _, .lst (SqL.of hg) (intsDp gs2), .lst (SqL.of f_E2) .nil, intsSh gs2, by decide, _, rfl, ?_⟩
      clear s_E2 f_E2 nE2
      cases gs2 with
      | nil =>
        refine yes rfl ?_
        refine ⟨_, rfl, _, _, _, _, rfl, rfl, SqL.of hp, rfl, _, _, rfl, rfl, ⟨by decide, by decide⟩, .inl ⟨_, rfl, _, rfl, _, _, rfl, rfl, (by omega), ?_⟩⟩
        exact k _ _ (fmod_in hl).1 (fmod_in hl).2 kk ⟨s0, c + 1, m2, [], ss, hp, by omega, hm20, hm21, hg, hgs, hgl, hs, hss, hs1, hs2, npg, nps, ngs⟩
      | cons x r =>
        refine no rfl ?_
        refine ⟨_, rfl, _, _, _, .int x, rfl, rfl, SqL.of hg, a0 x r, .inl ⟨_, rfl, _, rfl, _, _, rfl, rfl, (by omega), ?_⟩⟩
        dsimp only [gName, List.set]
        refine ⟨_, rfl, _, _, _, .int x, rfl, rfl, SqL.of hg, a0 x r, _, rfl, _, _, rfl, rfl, wide_div hl hw (by decide) (by decide), _, rfl, g, _, 0, 0, rfl, rfl, hg, ixN_nat (j := 0) (by rw [List.length_map]; exact Nat.succ_pos _), ?_⟩
        refine ⟨_, rfl, ?_⟩
        refine k _ _ (fmod_in hl).1 (fmod_in hl).2 (fun y o n n2 e => (upd_ne n2).trans (kk y o n n2 e)) ⟨s0, c + 1, m2, (x / limit) :: r, ss, (upd_ne npg).trans hp, by omega, hm20, hm21, upd_same, fun y hy => ?_, hgl, (upd_ne ngs.symm).trans hs, hss, hs1, hs2, npg, nps, ngs⟩
        rcases List.mem_cons.mp hy with rfl | hy
        · exact Int.ediv_nonneg (hgs x List.mem_cons_self) (by omega)
        · exact hgs y (List.mem_cons_of_mem _ hy)
    · refine ⟨fun n σ G => ∃ (gs2 : List Int) (v3 v5 : Option V), n = gs2.length ∧ σ = [some (.ref p), some (.int limit), some (.ref s0), v3, some (.ref g), v5] ∧ G p = some (.lst [.int (c + 1), .int ((m * 69621 + ss[jx] * 48271 + (c + 1) * 40503 + 977).fmod 2147483647), .ref g, .ref s0]) ∧ G g = some (.lst (gs2.map V.int)) ∧ (∀ x ∈ gs2, 0 ≤ x) ∧ gs2.length ≤ 63 ∧ G s0 = some (.lst (ss.map V.int)) ∧ KeptP p g H G, ⟨_, gs, _, _, rfl, rfl, hp2, hg2, hgs, hgl, hs2', kk2⟩, ?_⟩
      clear hp hg hs hp1 hg1 hs1' hp2 hg2 hs2' kk kk2 hgs hgl
      rintro n σ G ⟨gs2, v3, v5, rfl, rfl, hp, hg, hgs, hgl, hs, kk⟩
      refine ⟨_, rfl, by decide, fun E1 nE1 => ?_⟩
      generalize e_G2 : upd _ E1 _ = G2
      have s_E1 := new_same e_G2 nE1
      have f_E1 := new_at e_G2
      clear e_G2
      have hp := hp.mv s_E1
      have hg := hg.mv s_E1
      have hs := hs.mv s_E1
      have kk := kk.same s_E1
      refine ⟨_, _, .lst (SqL.of hg) (intsDp gs2), .lst (SqL.of f_E1) .nil, intsSh gs2, by decide, _, rfl, ?_⟩
      clear s_E1 f_E1 nE1
      cases gs2 with
      | nil =>
        refine no rfl (no rfl ?_)
        exact nxt _ _ ⟨_, [], v3, v5, rfl, hp, q1, q2, hg, hgs, hgl, hs, kk⟩
      | cons x r =>
        refine yes rfl ?_
        refine ⟨_, rfl, _, _, _, .int x, rfl, rfl, SqL.of hg, a0 x r, rfl, _, rfl, ?_⟩
        by_cases cx : x = 0
        · refine yes (decide_eq_true (congrArg V.int cx)) ?_
          refine ⟨_, fun _ _ h => h, ?_⟩
          refine ⟨_, rfl, .inl ⟨rfl, _, SqL.of hg⟩, g, (x :: r).map V.int, 0, 0, .int x, rfl, rfl, hg, by decide, by decide, seqIndex_of (k := 0) (by decide) (by rw [List.length_map, List.length_cons]; omega), rfl, ?_⟩
          refine ⟨r.length, Nat.lt_succ_self _, r, v3, v5, rfl, rfl, (upd_ne npg).trans hp, upd_same, fun y hy => hgs y (List.mem_cons_of_mem _ hy), by rw [List.length_cons] at hgl; omega, (upd_ne ngs.symm).trans hs, fun y o n n2 e => (upd_ne n2).trans (kk y o n n2 e)⟩
        · refine no (decide_eq_false fun e => cx (by injection e)) ?_
          exact nxt _ _ ⟨_, x :: r, v3, v5, rfl, hp, q1, q2, hg, hgs, hgl, hs, kk⟩
theorem scLPool : FnScope ["script", "great", "small", "cell", "number"] ["script"] (defScope sLPool) := ⟨rfl, rfl, rfl, by decide +kernel, rfl, by decide +kernel, by decide +kernel⟩
theorem ok_poolP {f : Addr} {fd : FuncData} (F : FnP K "_law_pool" sLPool f fd) (n_int : mg "int" = none) (n_len : mg "len" = none) (n_abs : mg "abs" = none) (n_min : mg "min" = none) : FnOk P w K mg base CX0 1 f fd ["script"] (spPool K) := by
  refine F.ok scLPool (fun vs H Q E h => ?_) (fun cdv A outer s H vs Q E hr h => ?_)
  · obtain ⟨a, ns, rfl, _⟩ := h
    rfl
  · obtain ⟨a, ns, rfl, hS, hl, k⟩ := h
    have nd := scLPool.nd
    have hu := Nat.lt_of_le_of_lt (Nat.add_le_add_left (by decide : 1 ≤ 64) _) hr.units
    refine ⟨_, PSs.nox (pss_cons (ps_set (i := 1) nd rfl (Or.inl rfl) (pe_lst pa_nil))
(pss_cons (ps_set (i := 2) nd rfl (Or.inl rfl) (pe_lst (pa_cons pe_int pa_nil)))
(pss_cons (ps_for PassesOwn.never rfl (pi_list (pe_slice sl_list (pv 0) po_none (po_some pe_int))) (pg_name (i := 3) nd rfl (Or.inl rfl))
(pss_cons (ps_set (i := 4) nd rfl (Or.inl rfl) (pe_op op_add (pe_op op_mul (pe_callB call_abs (by rfl) n_abs (by decide +kernel) (pa_cons (pe_callTy call_int1 (by rfl) n_int (by decide +kernel) (pa_cons (pv 3) pa_nil)) pa_nil)) pe_int) (pe_callTy call_int1 (by rfl) n_int (by decide +kernel) (pa_cons (pe_cmpR op_lt (pv 3) pe_int (nomark _)) pa_nil))))
(pss_one (ps_if (pt_cmpR op_ge (pv 4) (pe_op op_pow pe_int pe_int) (nomark _))
(pss_one (ps_expr (pe_bm PySem.F.plainAttrs_list PySem.F.slot_list_append PySem.F.type_list_append mt_append (pv 1) (pa_cons (pv 4) pa_nil))))
(pss_one (ps_expr (pe_bm PySem.F.plainAttrs_list PySem.F.slot_list_append PySem.F.type_list_append mt_append (pv 2) (pa_cons (pv 4) pa_nil))))))))
(pss_one (ps_ret (pe_lst (pa_cons pe_int (pa_cons pe_int (pa_cons (pv 1) (pa_cons (pe_slice sl_list (pv 2) (po_some (pe_callB (call_min2 rfl) (by rfl) n_min (by decide +kernel) (pa_cons pe_int (pa_cons (pe_op op_sub (pe_callB call_len_seq (by rfl) n_len PySem.boot_len (pa_cons (pv 2) pa_nil)) pe_int) pa_nil)))) po_none) pa_nil)))))))))), ?_⟩
    refine ⟨by decide, fun g ng => ?_⟩
    generalize e_G1 : upd _ g _ = G1
    have s_g := new_same e_G1 ng
    have f_g := new_at e_G1
    clear e_G1
    refine ⟨(by show 1 ≤ sizeLine; decide), fun t nt => ?_⟩
    have ntH := s_g.free nt
    have ngt : g ≠ t := ne_of_none f_g nt
    generalize e_G2 : upd _ t _ = G2
    have s_t := new_same e_G2 nt
    have f_t := new_at e_G2
    clear e_G2
    have s_g := s_g.mv s_t
    have f_g := f_g.mv s_t
    dsimp only [gName, List.set]
    refine ⟨_, rfl, _, rfl, a, _, rfl, s_g.seq hS, fun C nC => ?_⟩
    have nCH := s_g.free nC
    have nCg : g ≠ C := ne_of_none f_g nC
    have nCt : t ≠ C := ne_of_none f_t nC
    have ecut : cutV (ns.map V.int) none (some 63) = ns.map V.int := by
      unfold cutV
      rw [show (some 63 : Option Int) = some ((63 : Nat) : Int) from rfl, HT.sIx_nat, show HT.sIx (ns.map V.int).length 0 none = 0 from rfl, List.drop_zero]
      exact List.take_of_length_le (by rw [List.length_map]; omega)
    rw [ecut]
    generalize e_G3 : upd _ C _ = G3
    have s_C := new_same e_G3 nC
    have f_C := new_at e_G3
    clear e_G3
    have s_g := s_g.mv s_C
    have f_g := f_g.mv s_C
    have f_t := f_t.mv s_C
    refine ⟨C, rfl, ⟨_, SqL.of f_C⟩, ?_⟩
    refine for_it (walk_list (K := K) (a := C) (xs := ns.map V.int)) (fun j σ G => ∃ (v3 v4 : Option V) (gs ss : List Int), σ = [some (.ref a), some (.ref g), some (.ref t), v3, v4] ∧ Same H G ∧ G C = some (.lst (ns.map V.int)) ∧ G g = some (.lst (gs.map V.int)) ∧ (∀ x ∈ gs, 0 ≤ x) ∧ gs.length ≤ j ∧ G t = some (.lst ((0 :: ss).map V.int)) ∧ (∀ x ∈ ss, 0 ≤ x ∧ x < 10 ^ 18) ∧ ss.length ≤ j)
      ⟨_, _, [], [], rfl, s_g, f_C, f_g, (fun _ z => nomatch z), Nat.le_refl _, f_t, (fun _ z => nomatch z), Nat.le_refl _⟩ (fun _ _ _ _ h => by obtain ⟨_, _, _, _, _, _, q, _⟩ := h; exact SqL.of q) ?_ ?_
    · clear s_g f_g f_t f_C
      rintro j x σ G' G hj ⟨v3, v4, gs, ss, rfl, sH, hC, hg, hgs, hgl, ht, hss, hsl⟩ ⟨rfl, hx⟩
      obtain ⟨z, hz, rfl⟩ := Option.map_eq_some_iff.mp ((List.getElem?_map ..).symm.trans hx)
      rw [List.length_map] at hj
      dsimp only [gName, List.set]
      refine ⟨_, rfl, .inl ⟨_, rfl, _, rfl, _, _, rfl, rfl, .inr ⟨by decide, by decide⟩, ?_⟩⟩
      refine ⟨_, rfl, _, _, rfl, rfl, .inr ⟨_, rfl, _, _, rfl, rfl, ?_⟩⟩
      obtain ⟨nm, hnm⟩ : ∃ nm : Int, (if z < 0 then -z else z) * 2 + (if decide (z < 0) = true then 1 else 0) = nm := ⟨_, rfl⟩
      have hnm0 : 0 ≤ nm := by
        rw [← hnm]
        split <;> split <;> omega
      dsimp only [gName, List.set]
      rw [hnm]
      refine ⟨_, rfl, _, _, rfl, rfl, ⟨by decide, by decide, by decide⟩, _, _, rfl, rfl, _, rfl, ?_⟩
      have e18 : (10 : Int) ^ Int.toNat 18 = 10 ^ 18 := by decide
      rw [e18]
      by_cases c : (10 : Int) ^ 18 ≤ nm
      · refine yes (decide_eq_true c) ?_
        refine ⟨_, rfl, .inl ⟨rfl, _, SqL.of hg⟩, _, rfl, g, _, _, rfl, rfl, hg, by rw [List.length_map, sizeLine_eq]; omega, ?_⟩
        refine ⟨_, _, gs ++ [nm], ss, rfl, fun y o e => (upd_ne (ne_of_none e ng)).trans (sH _ _ e), (upd_ne nCg.symm).trans hC, by rw [upd_same, List.map_append]; rfl, fun y hy => (List.mem_append.mp hy).elim (hgs y) (fun h => by rw [List.mem_singleton.mp h]; exact hnm0), by rw [List.length_append]; show gs.length + 1 ≤ _; omega, (upd_ne ngt.symm).trans ht, hss, by omega⟩
      · refine no (decide_eq_false c) ?_
        refine ⟨_, rfl, .inl ⟨rfl, _, SqL.of ht⟩, _, rfl, t, _, _, rfl, rfl, ht, by rw [List.length_map, List.length_cons, sizeLine_eq]; omega, ?_⟩
        refine ⟨_, _, gs, ss ++ [nm], rfl, fun y o e => (upd_ne (ne_of_none e ntH)).trans (sH _ _ e), (upd_ne nCt.symm).trans hC, (upd_ne ngt).trans hg, hgs, by omega, by rw [upd_same, ← List.map_singleton, ← List.map_append]; rfl, fun y hy => (List.mem_append.mp hy).elim (hss y) (fun h => by rw [List.mem_singleton.mp h]; exact ⟨hnm0, by omega⟩), by rw [List.length_append]; show ss.length + 1 ≤ _; omega⟩
    · rintro σ G ⟨v3, v4, gs, ss, rfl, sH, hC, hg, hgs, hgl, ht, hss, hsl⟩
      rw [List.length_map] at hgl hsl
      refine ⟨_, rfl, _, rfl, _, rfl, t, _, rfl, .inl (SqL.of ht), _, _, rfl, rfl, _, _, rfl, _, rfl, t, _, rfl, SqL.of ht, fun S nS => ?_⟩
      obtain ⟨ss2, e2, hs2, h1, h2⟩ : ∃ ss2 : List Int, cutV ((0 :: ss).map V.int) (some (if (((0 :: ss).map V.int).length : Int) - 1 < 1 then (((0 :: ss).map V.int).length : Int) - 1 else 1)) none = ss2.map V.int ∧ (∀ x ∈ ss2, 0 ≤ x ∧ x < 10 ^ 18) ∧ 1 ≤ ss2.length ∧ ss2.length ≤ 64 := by
        cases ss with
        | nil => exact ⟨[0], rfl, fun x h => by rw [List.mem_singleton.mp h]; exact ⟨by decide, by decide⟩, by decide, by decide⟩
        | cons y r =>
          refine ⟨y :: r, ?_, hss, by rw [List.length_cons]; omega, by omega⟩
          rw [if_neg (by rw [List.length_map, List.length_cons, List.length_cons]; omega)]
          unfold cutV
          rw [show (some 1 : Option Int) = some ((1 : Nat) : Int) from rfl, HT.sIx_nat, HT.sIx_none, Nat.min_eq_left (by rw [List.length_map, List.length_cons]; omega), List.map_cons, List.drop_one, List.tail_cons, List.length_cons, Nat.add_sub_cancel]
          exact List.take_of_length_le (Nat.le_refl _)
      rw [e2]
      have nSH := sH.free nS
      have nSg : g ≠ S := ne_of_none hg nS
      generalize e_G4 : upd _ S _ = G4
      have s_S := new_same e_G4 nS
      have f_S := new_at e_G4
      clear e_G4
      have sH := sH.mv s_S
      have hg := hg.mv s_S
      refine ⟨(by show 4 ≤ sizeLine; decide), fun p np => ?_⟩
      have npH := sH.free np
      have npg : g ≠ p := ne_of_none hg np
      have npS : S ≠ p := ne_of_none f_S np
      generalize e_G5 : upd _ p _ = G5
      have s_p := new_same e_G5 np
      have f_p := new_at e_G5
      clear e_G5
      have sH := sH.mv s_p
      have hg := hg.mv s_p
      have f_S := f_S.mv s_p
      exact k p g G5 npH ng sH ⟨S, 0, 1, gs, ss2, f_p, by decide, by decide, by decide, hg, hgs, by omega, f_S, hs2, h1, h2, npg.symm, npS.symm, nSg⟩
end
end K23

set_option Elab.async false
set_option maxRecDepth 100000
set_option maxHeartbeats 2000000
/-! x in t, x not in t: data, t a tuple of data. -/
namespace KX
open PySem PySem.Spec PyProof.Rows L2
variable {X : Cx}
def rInDT (K : PySem.W.Frag) (neg : Bool) : R2 := fun x y H Q => ∃ d ds, Dp K H x d ∧ Dp K H y (.tuple ds) ∧ SeqAt.shaped d = true ∧ SeqAt.shaped (.tuple ds) = true ∧ Q (.bl (if neg then !ds.any fun z => PyData.eqv z d else ds.any fun z => PyData.eqv z d)) H
theorem op_inDT (hu : X.A.units + 65 < cLine) : OpR X (compareOp .In) (rInDT X.K false) := by
  intro pins s σ H x y v u Q I rx ry h
  obtain ⟨d, ds, hd, he, sd, se, q⟩ := h
  obtain ⟨as, r1⟩ := Dp.reads I d x v hd rx
  obtain ⟨bs, r2⟩ := Dp.reads I (.tuple ds) y u he ry
  exact SeqAt.in_tuple_reads r2 r1 (SeqAt.canLay_of_shaped se) (SeqAt.canLay_of_shaped sd) (room_in_shaped sd hu) ⟨.bl _, H, I, rfl, q⟩
theorem op_notInDT (hu : X.A.units + 65 < cLine) : OpR X (compareOp .NotIn) (rInDT X.K true) := by
  intro pins s σ H x y v u Q I rx ry h
  obtain ⟨d, ds, hd, he, sd, se, q⟩ := h
  obtain ⟨as, r1⟩ := Dp.reads I d x v hd rx
  obtain ⟨bs, r2⟩ := Dp.reads I (.tuple ds) y u he ry
  exact SeqAt.notIn_tuple_reads r2 r1 (SeqAt.canLay_of_shaped se) (SeqAt.canLay_of_shaped sd) (room_in_shaped sd hu) ⟨.bl _, H, I, rfl, q⟩
theorem strs_dp {K : PySem.W.Frag} {H : Hp} : ∀ zs : List Str, DpAll K H (zs.map V.str) (zs.map PyData.str)
  | [] => .nil
  | z :: r => .cons (.str z) (strs_dp r)
/-- is the thing one of the texts -/
def inS (zs : List Str) (d : PyData) : Bool := (zs.map PyData.str).any fun z => PyData.eqv z d
theorem inS_str (zs : List Str) (z : Str) : inS zs (.str z) = decide (z ∈ zs) := by
  unfold inS
  rw [List.any_map]
  by_cases h : z ∈ zs
  · rw [decide_eq_true h]
    exact List.any_eq_true.mpr ⟨z, h, by show (z == z) = true; exact beq_self_eq_true z⟩
  · rw [decide_eq_false h]
    refine List.any_eq_false.mpr fun y hy => ?_
    show ¬ (y == z) = true
    rw [beq_iff_eq]
    rintro rfl
    exact h hy
end KX

set_option Elab.async false
set_option maxRecDepth 100000
set_option maxHeartbeats 2000000
namespace K23
open PySem PySem.Spec PyProof.Rows L2 He KX StX
abbrev sBOI : Stmt := inClass (top 5) 0
abbrev sBWI : Stmt := inClass (top 6) 0
abbrev sBNI : Stmt := inClass (top 7) 0
abbrev sArg : Stmt := top 12
abbrev sWor : Stmt := top 21
def spX1 (C : Addr) (f : Str) : Sp := fun vs H Q _ => ∃ (a : Addr) (x : V) (H0 : Hp), vs = [.ref a, x] ∧ H = upd H0 a (exo a C none) ∧ H0 a = none ∧
  ∀ d H', H0 d = none → d ≠ a → H' a = some (exo a C (some d)) → H' d = some (exd d [(f, x)]) → (∀ y, y ≠ a → y ≠ d → H' y = H0 y) → Q .non H'
/-- what is raised: all that was there stands, and the exception's own dict -/
def Raised (C : Addr) (H : Hp) (fs : List (Str × V)) (E : XK) : Prop := ∀ d H', Same H H' → H' d = some (.xd fs) → E (.ref C) (some d) H'
theorem Raised.mv {C : Addr} {H J : Hp} {fs : List (Str × V)} {E : XK} (h : Raised C H fs E) (s : Same H J) : Raised C J fs E := fun d H' s2 e => h d H' (s.trans s2) e
theorem raised_at {C : Addr} {H : Hp} {fs : List (Str × V)} {E : XK} (h : Raised C H fs E) {e d : Addr} {H' : Hp} (he : H e = none) (hd : H d = none) (hne : d ≠ e) (h3 : ∀ y, y ≠ e → y ≠ d → H' y = H y) : E (.ref C) (some d) (upd (del H' e) d (.xd fs)) := by
  refine h d _ (fun b o q => ?_) upd_same
  have nb : b ≠ d := ne_of_none q hd
  have ne : b ≠ e := ne_of_none q he
  rw [upd_ne nb, del_ne ne, h3 b ne nb]
  exact q
theorem dp_str {K : PySem.W.Frag} {H : Hp} {v : V} {z : Str} (h : Dp K H v (.str z)) : v = .str z := by cases h; rfl
theorem inS_true {zs : List Str} {d : PyData} (h : inS zs d = true) : ∃ z ∈ zs, d = .str z := by
  unfold inS at h
  obtain ⟨x, hx, e⟩ := List.any_eq_true.mp h
  obtain ⟨z, hz, rfl⟩ := List.mem_map.mp hx
  cases d with
  | str y => exact ⟨z, hz, by rw [show z = y from beq_iff_eq.mp (show (z == y) = true from e)]⟩
  | _ => cases e
theorem strs_shaped {zs : List Str} (h : ∀ z ∈ zs, SeqAt.shaped (.str z) = true) : SeqAt.shaped (.tuple (zs.map PyData.str)) = true := tupSh (k := 0) (by decide) fun d hd => by
  obtain ⟨z, hz, rfl⟩ := List.mem_map.mp hd
  exact ⟨(Bool.and_eq_true_iff.mp (h z hz)).1, Nat.zero_le _⟩
section
variable {P : Program} {w : World} {K : PySem.W.Frag} {mg : Str → Option Value} {base : Heap}
theorem scBOI : FnScope ["self", "op"] ["self", "op"] (defScope sBOI) := ⟨rfl, rfl, rfl, by decide +kernel, rfl, by decide +kernel, by decide +kernel⟩
theorem scBWI : FnScope ["self", "world"] ["self", "world"] (defScope sBWI) := ⟨rfl, rfl, rfl, by decide +kernel, rfl, by decide +kernel, by decide +kernel⟩
theorem scBNI : FnScope ["self", "name"] ["self", "name"] (defScope sBNI) := ⟨rfl, rfl, rfl, by decide +kernel, rfl, by decide +kernel, by decide +kernel⟩
theorem ok_boi {f : Addr} {fd : FuncData} (F : FunD K "__init__" "BadOperation.__init__" (defArgs sBOI) (defBody sBOI) (defScope sBOI) [] [] f fd) (B : ErBO K) : FnOk P w K mg base CX0 1 f fd ["self", "op"] (spX1 (ga K "BadOperation") "op") := by
  refine F.ok scBOI (fun vs H Q E h => ?_) (fun cdv A outer s H vs Q E hr h => ?_)
  · obtain ⟨a, x, H0, rfl, _⟩ := h
    rfl
  · obtain ⟨a, x, H0, rfl, rfl, ha, k⟩ := h
    refine ⟨_, PSs.nox (pss_one (ps_st (pv 0) (pv 1))), ?_⟩
    refine ⟨_, rfl, _, rfl, a, _, _, _, rfl, B.T, bsV, B.no _ List.mem_cons_self, .inl ⟨upd_same, fun d hd hda => ?_⟩⟩
    exact k d _ ((upd_ne hda).symm.trans hd) hda upd_same ((upd_ne hda).trans upd_same) (fun x n1 n2 => (upd_ne n1).trans ((upd_ne n2).trans (upd_ne n1)))
theorem ok_bwi {f : Addr} {fd : FuncData} (F : FunD K "__init__" "BadWorld.__init__" (defArgs sBWI) (defBody sBWI) (defScope sBWI) [] [] f fd) (B : ErBW K) : FnOk P w K mg base CX0 1 f fd ["self", "world"] (spX1 (ga K "BadWorld") "world") := by
  refine F.ok scBWI (fun vs H Q E h => ?_) (fun cdv A outer s H vs Q E hr h => ?_)
  · obtain ⟨a, x, H0, rfl, _⟩ := h
    rfl
  · obtain ⟨a, x, H0, rfl, rfl, ha, k⟩ := h
    refine ⟨_, PSs.nox (pss_one (ps_st (pv 0) (pv 1))), ?_⟩
    refine ⟨_, rfl, _, rfl, a, _, _, _, rfl, B.T, bsV, B.no _ List.mem_cons_self, .inl ⟨upd_same, fun d hd hda => ?_⟩⟩
    exact k d _ ((upd_ne hda).symm.trans hd) hda upd_same ((upd_ne hda).trans upd_same) (fun x n1 n2 => (upd_ne n1).trans ((upd_ne n2).trans (upd_ne n1)))
theorem ok_bni {f : Addr} {fd : FuncData} (F : FunD K "__init__" "BadNumber.__init__" (defArgs sBNI) (defBody sBNI) (defScope sBNI) [] [] f fd) (B : ErBN K) : FnOk P w K mg base CX0 1 f fd ["self", "name"] (spX1 (ga K "BadNumber") "name") := by
  refine F.ok scBNI (fun vs H Q E h => ?_) (fun cdv A outer s H vs Q E hr h => ?_)
  · obtain ⟨a, x, H0, rfl, _⟩ := h
    rfl
  · obtain ⟨a, x, H0, rfl, rfl, ha, k⟩ := h
    refine ⟨_, PSs.nox (pss_one (ps_st (pv 0) (pv 1))), ?_⟩
    refine ⟨_, rfl, _, rfl, a, _, _, _, rfl, B.T, bsV, B.no _ List.mem_cons_self, .inl ⟨upd_same, fun d hd hda => ?_⟩⟩
    exact k d _ ((upd_ne hda).symm.trans hd) hda upd_same ((upd_ne hda).trans upd_same) (fun x n1 n2 => (upd_ne n1).trans ((upd_ne n2).trans (upd_ne n1)))
/-- arguments_of -/
def spArg (K : PySem.W.Frag) : Sp := fun vs H Q E => ∃ v d, vs = [v] ∧ Dp K H v d ∧ SeqAt.shaped d = true ∧ (∀ o ∈ args, d = .str o.1 → ∀ a, (∀ G, SqT K G a (o.2.map V.str)) → Q (.ref a) H) ∧ (inS ops d = false → Raised (ga K "BadOperation") H [("op", v)] E)
theorem ops_args : ∀ z ∈ ops, ∃ o ∈ args, o.1 = z := by decide +kernel
theorem ops_shaped : SeqAt.shaped (.tuple (ops.map PyData.str)) = true := by decide +kernel
theorem scArg : FnScope ["op"] ["op"] (defScope sArg) := ⟨rfl, rfl, rfl, by decide +kernel, rfl, by decide +kernel, by decide +kernel⟩
theorem ok_arg {f : Addr} {fd fdE : FuncData} (F : FnP K "arguments_of" sArg f fd) (BO : ErBO K) (gBO : mg "BadOperation" = some (.ref (ga K "BadOperation")))
    (FE : FunD K "__init__" "BadOperation.__init__" (defArgs sBOI) (defBody sBOI) (defScope sBOI) [] [] (ma K (ga K "BadOperation") "__init__") fdE)
    (hO : ∀ H, SqT K H (ga K "OPERATIONS") (ops.map V.str)) (gOPS : mg "OPERATIONS" = some (.ref (ga K "OPERATIONS"))) (hA : ∀ o ∈ args, ∃ a, KDct K w (ga K "ARGUMENTS") o.1 (.ref a) ∧ ∀ G, SqT K G a (o.2.map V.str)) (gARG : mg "ARGUMENTS" = some (.ref (ga K "ARGUMENTS"))) :
    FnOk P w K mg base (L2N.CX P w) 3 f fd ["op"] (spArg K) := by
  have GE : FnOk P w K mg base CX0 1 (ma K (ga K "BadOperation") "__init__") fdE ["self", "op"] (spX1 (ga K "BadOperation") "op") := ok_boi FE BO
  have bE : Binds K fdE ["self", "op"] [] := FE.bindsN fun _ _ _ _ _ _ us hl => match us, hl with | [_, _], _ => rfl
  refine F.ok scArg (fun vs H Q E h => ?_) (fun cdv A outer s H vs Q E hr h => ?_)
  · obtain ⟨v, d, rfl, _⟩ := h
    rfl
  · obtain ⟨v, d, rfl, hd, hs, k1, k2⟩ := h
    have nd := scArg.nd
    have hu65 : (A.deeper (envOfC "arguments_of" (defScope sArg) s.heap.objs.size f cdv)).units + 65 < cLine := by have := hr.un; omega
    refine ⟨_, (by exact (pss_cons (ps_if (pt_cmpR (op_notInDT hu65) (pv 0) (pe_glob (v := .ref (ga K "OPERATIONS")) rfl gOPS rfl) rfl)
(pss_one (L2N.ps_raise rfl (L2N.takes_of rfl rfl rfl rfl) (by exact (pmk_x BO.T BO.ty bsV BO.iC BO.fn GE hr bE pass0 rfl gBO (pa_cons (pv 0) pa_nil)))))
pss_nil)
(pss_one (ps_ret (pe_ix ix_kdict (pe_glob (v := .ref (ga K "ARGUMENTS")) rfl gARG rfl) (pv 0) (fun _ _ => rfl)))))), ?_⟩
    refine ⟨_, rfl, d, _, hd, .tup (hO H) (strs_dp ops), hs, ops_shaped, _, rfl, ?_⟩
    rw [if_pos rfl]
    show if (!inS ops d) = true then _ else _
    cases hi : inS ops d with
    | false => exact yes rfl ⟨_, rfl, (by show 1 ≤ 1000; decide), fun e he => ⟨e, _, H, rfl, rfl, he, fun d' H' hd' hde h1 h2 h3 => ⟨rfl, d', _, h1, h2, hd', raised_at (k2 hi) he hd' hde h3⟩⟩⟩
    | true =>
      obtain ⟨z, hz, rfl⟩ := inS_true hi
      obtain rfl := dp_str hd
      obtain ⟨o, ho, rfl⟩ : ∃ o ∈ args, o.1 = z := ops_args z hz
      obtain ⟨a, hu, ha⟩ := hA o ho
      exact no rfl ⟨_, rfl, _, o.1, .ref a, rfl, rfl, hu, k1 o ho rfl a ha⟩
theorem args_ops : ∀ o ∈ args, o.1 ∈ ops := by decide +kernel
/-- worlds_of -/
def wor (op : Str) : List Str := if op = "swap" then ["apart", "within", "itself"] else if op ∈ (["move", "send", "swap"] : List Str) then ["apart", "within"] else ["alone"]
def spWor (K : PySem.W.Frag) : Sp := fun vs H Q E => ∃ v d, vs = [v] ∧ Dp K H v d ∧ SeqAt.shaped d = true ∧ (∀ z ∈ ops, d = .str z → ∀ T, H T = none → Q (.ref T) (upd H T (.tup ((wor z).map V.str)))) ∧ (inS ops d = false → Raised (ga K "BadOperation") H [("op", v)] E)
theorem scWor : FnScope ["op"] ["op"] (defScope sWor) := ⟨rfl, rfl, rfl, by decide +kernel, rfl, by decide +kernel, by decide +kernel⟩
theorem ok_wor {f fA : Addr} {fd fdA : FuncData} (F : FnP K "worlds_of" sWor f fd) (GA : FnOk P w K mg base (L2N.CX P w) 3 fA fdA ["op"] (spArg K)) (bA : Binds K fdA ["op"] []) (kA : PySem.W.keepIn K (.ref fA) = true) (gA : mg "arguments_of" = some (.ref fA))
    (hT : ∀ H, SqT K H (ga K "TWO_LISTS") ((["move", "send", "swap"] : List Str).map V.str)) (gTWO : mg "TWO_LISTS" = some (.ref (ga K "TWO_LISTS"))) : FnOk P w K mg base (L2N.CX P w) 4 f fd ["op"] (spWor K) := by
  refine F.ok scWor (fun vs H Q E h => ?_) (fun cdv A outer s H vs Q E hr h => ?_)
  · obtain ⟨v, d, rfl, _⟩ := h
    rfl
  · obtain ⟨v, d, rfl, hd, hs, k1, k2⟩ := h
    have nd := scWor.nd
    have hr2 := hr.mono (j := 3) (by decide)
    refine ⟨_, (by exact (pss_cons (ps_expr (by exact (pe_callS GA hr2 (by rfl) gA kA bA (fun σ => L2N.passAt (L2N.takes_of rfl rfl rfl rfl) σ) (pa_cons (pv 0) pa_nil))))
(pss_cons (ps_if (pt_cmpR op_eq (pv 0) pe_str (nomark _))
(pss_one (ps_ret (pe_tup (pa_cons pe_str (pa_cons pe_str (pa_cons pe_str pa_nil))))))
pss_nil)
(pss_one (ps_ret (pe_ifExp (pt_cmpR op_in_seq (pv 0) (pe_glob (v := .ref (ga K "TWO_LISTS")) rfl gTWO rfl) rfl) (pe_tup (pa_cons pe_str (pa_cons pe_str pa_nil))) (pe_tup (pa_cons pe_str pa_nil)))))))), ?_⟩
    refine ⟨_, rfl, v, d, rfl, hd, hs, fun o ho ed _ _ => ?_, k2⟩
    have hz : o.1 ∈ ops := args_ops o ho
    obtain ⟨z, ez⟩ : ∃ z, z = o.1 := ⟨_, rfl⟩
    rw [← ez] at hz ed
    subst ed
    obtain rfl := dp_str hd
    have k1 := k1 z hz rfl
    unfold wor at k1
    refine ⟨_, rfl, rfl, _, rfl, ?_⟩
    by_cases c : z = "swap"
    · refine yes (decide_eq_true (congrArg V.str c)) ?_
      rw [if_pos c] at k1
      exact ⟨(by show 3 ≤ sizeLine; decide), fun T nT => k1 T nT⟩
    · refine no (decide_eq_false fun e => c (by injection e)) ?_
      rw [if_neg c] at k1
      refine ⟨_, rfl, _, _, rfl, .inr (hT H), rfl, rfl, _, rfl, ?_⟩
      rw [if_neg Bool.false_ne_true, inV_str]
      by_cases c2 : z ∈ (["move", "send", "swap"] : List Str)
      · refine yes (decide_eq_true c2) ?_
        rw [if_pos c2] at k1
        exact ⟨(by show 2 ≤ sizeLine; decide), fun T nT => k1 T nT⟩
      · refine no (decide_eq_false c2) ?_
        rw [if_neg c2] at k1
        exact ⟨(by show 1 ≤ sizeLine; decide), fun T nT => k1 T nT⟩
end
end K23

set_option Elab.async false
set_option maxRecDepth 100000
set_option maxHeartbeats 2000000
namespace K23
open PySem PySem.Spec PyProof.Rows L2 He KX
/-! The numbers of a scene: what fits, by the program and by the law; no Lean of the program. -/
abbrev newL : List Str := ["put", "add"]
def nk : List Str := ["home", "to", "x", "y", "k", "other"]
def G30 : Int := 1000000000000000000000000000000
def limY (op wd : Str) (h t : Int) : Int × Int := if op ≠ "swap" ∨ wd = "itself" then (0, 0) else if wd = "apart" then (1, t) else (1, h)
def limK (op wd : Str) (h t : Int) : Int × Int := if op ∉ (["put", "move"] : List Str) then (0, 0) else if wd = "within" then (1, h) else (1, min (t + 1) G30)
def limP (op wd z : Str) (h t : Int) : Int × Int :=
  if z = "home" then (if op ∈ newL then (0, 0) else (if op = "swap" ∧ wd = "within" then 2 else 1, G30))
  else if z = "to" then (if op ∈ newL ∨ wd = "apart" then (if op = "swap" then 1 else 0, G30) else (0, 0))
  else if z = "x" then (if op ∈ newL then (0, 0) else (1, h))
  else if z = "y" then limY op wd h t
  else if z = "k" then limK op wd h t
  else (0, G30)
def inR (p : Int × Int) (v : Int) : Bool := decide (p.1 ≤ v) && decide (v ≤ p.2)
def fitP (op wd z : Str) (v h t x : Int) : Bool := if z = "y" ∧ wd = "within" ∧ v = x then false else inR (limP op wd z h t) v
def iv : PyData → Int
  | .int i => i
  | _ => 0
def okP (op wd : Str) (n : Str → PyData) (z : Str) : Bool := isIntD (n z) && fitP op wd z (iv (n z)) (iv (n "home")) (iv (n "to")) (iv (n "x"))
/-- the first of the names that is not well -/
def wrong (ok : Str → Bool) : Option Str := if ok "home" = true then (if ok "to" = true then (if ok "x" = true then (if ok "y" = true then (if ok "k" = true then (if ok "other" = true then none else some "other") else some "k") else some "y") else some "x") else some "to") else some "home"
theorem wrong_none {ok : Str → Bool} (h : ∀ z ∈ nk, ok z = true) : wrong ok = none := by
  unfold wrong
  rw [if_pos (h _ (by decide)), if_pos (h _ (by decide)), if_pos (h _ (by decide)), if_pos (h _ (by decide)), if_pos (h _ (by decide)), if_pos (h _ (by decide))]
theorem wrong_all {ok : Str → Bool} (h : wrong ok = none) : ∀ z ∈ nk, ok z = true := by
  unfold wrong at h
  split at h
  case isFalse => cases h
  case isTrue h1 =>
  split at h
  case isFalse => cases h
  case isTrue h2 =>
  split at h
  case isFalse => cases h
  case isTrue h3 =>
  split at h
  case isFalse => cases h
  case isTrue h4 =>
  split at h
  case isFalse => cases h
  case isTrue h5 =>
  split at h
  case isFalse => cases h
  case isTrue h6 =>
  intro z hz
  rcases List.mem_cons.mp hz with rfl | hz
  · exact h1
  rcases List.mem_cons.mp hz with rfl | hz
  · exact h2
  rcases List.mem_cons.mp hz with rfl | hz
  · exact h3
  rcases List.mem_cons.mp hz with rfl | hz
  · exact h4
  rcases List.mem_cons.mp hz with rfl | hz
  · exact h5
  rw [List.mem_singleton.mp hz]
  exact h6
theorem int_of {d : PyData} (h : isIntD d = true) : d = .int (iv d) := by
  cases d <;> first | rfl | cases h
/-- the law's own -/
def inL (d : PyData) (lo hi : Int) : Bool := isIntD d && (decide (lo ≤ iv d) && (decide (iv d ≤ hi) && decide (iv d ≤ G30)))
def bi (b : Bool) : Int := if b = true then 1 else 0
def newB (op : Str) : Bool := decide (op ∈ newL)
def twoB (op wd : Str) : Bool := decide (op = "swap") && decide (wd = "within")
def apaB (wd : Str) : Bool := decide (wd = "apart")
def ownB (op wd : Str) : Bool := decide (op = "swap") && !decide (wd = "itself")
def kApB (op wd : Str) : Bool := decide (op = "put") || (decide (op = "move") && decide (wd = "apart"))
def kWiB (op wd : Str) : Bool := decide (op = "move") && decide (wd = "within")
def mostY (op wd : Str) (h t : Int) : Int := if ownB op wd = true then (if apaB wd = true then t else h) else 0
def mostK (op wd : Str) (h t : Int) : Int := if kWiB op wd = true then h else if kApB op wd = true then t + 1 else 0
def okL (op wd : Str) (n : Str → PyData) (z : Str) : Bool :=
  if z = "home" then inL (n z) (if newB op = true then 0 else 1 + bi (twoB op wd)) (if newB op = true then 0 else G30)
  else if z = "to" then inL (n z) (bi (decide (op = "swap") && apaB wd)) (if (newB op || apaB wd) = true then G30 else 0)
  else if z = "x" then inL (n z) (bi (!newB op)) (iv (n "home"))
  else if z = "y" then inL (n z) (bi (ownB op wd)) (mostY op wd (iv (n "home")) (iv (n "to"))) && !(ownB op wd && (decide (wd = "within") && decide (iv (n "y") = iv (n "x"))))
  else if z = "k" then inL (n z) (bi (decide (op ∈ (["put", "move"] : List Str)))) (mostK op wd (iv (n "home")) (iv (n "to")))
  else inL (n z) 0 G30
theorem w_step {a b : Bool} {x y r : Option Str} (h : a = b) (h2 : a = true → x = y) : (if a = true then x else r) = (if b = true then y else r) := by
  subst h
  cases a
  · rfl
  · rw [if_pos rfl, if_pos rfl, h2 rfl]
theorem wrong_congr {a b : Str → Bool} (h1 : a "home" = b "home") (h2 : a "home" = true → a "to" = b "to") (h3 : a "home" = true → a "to" = true → a "x" = b "x") (h4 : a "home" = true → a "to" = true → a "x" = true → a "y" = b "y")
    (h5 : a "home" = true → a "to" = true → a "x" = true → a "y" = true → a "k" = b "k") (h6 : a "other" = b "other") : wrong a = wrong b := by
  unfold wrong
  exact w_step h1 fun e1 => w_step (h2 e1) fun e2 => w_step (h3 e1 e2) fun e3 => w_step (h4 e1 e2 e3) fun e4 => w_step (h5 e1 e2 e3 e4) fun e5 => w_step h6 fun _ => rfl
theorem and_ints {d : PyData} {p q : Bool} (h : isIntD d = true → p = q) : (isIntD d && p) = (isIntD d && q) := by
  cases e : isIntD d with
  | false => rfl
  | true => rw [h e]
theorem rg_eq {a b c d : Int} (h : a = c ∧ b = d ∧ d ≤ G30) (v : Int) : inR (a, b) v = (decide (c ≤ v) && (decide (v ≤ d) && decide (v ≤ G30))) := by
  obtain ⟨rfl, rfl, h⟩ := h
  unfold inR
  by_cases q : v ≤ b
  · rw [decide_eq_true (show v ≤ G30 by omega), Bool.and_true]
  · rw [decide_eq_false q, Bool.false_and]
theorem okP_sp {op wd z : Str} {n : Str → PyData} (h : okP op wd n z = true) : n z = .int (iv (n z)) ∧ (limP op wd z (iv (n "home")) (iv (n "to"))).1 ≤ iv (n z) ∧ iv (n z) ≤ (limP op wd z (iv (n "home")) (iv (n "to"))).2 := by
  unfold okP fitP at h
  obtain ⟨h1, h2⟩ := Bool.and_eq_true_iff.mp h
  refine ⟨int_of h1, ?_⟩
  split at h2
  · cases h2
  · obtain ⟨a, b⟩ := Bool.and_eq_true_iff.mp h2
    exact ⟨of_decide_eq_true a, of_decide_eq_true b⟩
theorem home_le {op wd : Str} {n : Str → PyData} (h : okP op wd n "home" = true) : iv (n "home") ≤ G30 := by
  obtain ⟨_, _, h2⟩ := okP_sp h
  refine Int.le_trans h2 ?_
  unfold limP
  rw [if_pos rfl]
  split <;> first | decide | exact Int.le_refl _
theorem to_le {op wd : Str} {n : Str → PyData} (h : okP op wd n "to" = true) : iv (n "to") ≤ G30 := by
  obtain ⟨_, _, h2⟩ := okP_sp h
  refine Int.le_trans h2 ?_
  unfold limP
  rw [if_neg (by decide +kernel), if_pos rfl]
  split <;> first | decide | exact Int.le_refl _
theorem in_eq {op wd z : Str} {n : Str → PyData} {c d : Int} (hz : z ≠ "y") (h : isIntD (n z) = true → (limP op wd z (iv (n "home")) (iv (n "to"))).1 = c ∧ (limP op wd z (iv (n "home")) (iv (n "to"))).2 = min d G30) : okP op wd n z = inL (n z) c d := by
  unfold okP inL
  refine and_ints fun e => ?_
  obtain ⟨h1, h2⟩ := h e
  unfold fitP inR
  rw [if_neg (fun q => hz q.1), h1, h2]
  congr 1
  by_cases q1 : iv (n z) ≤ d
  · by_cases q2 : iv (n z) ≤ G30
    · rw [decide_eq_true q1, decide_eq_true q2, decide_eq_true (by omega)]; rfl
    · rw [decide_eq_false q2, Bool.and_false, decide_eq_false (by omega)]
  · rw [decide_eq_false q1, Bool.false_and, decide_eq_false (by omega)]
theorem g30 : G30 = 1000000000000000000000000000000 := rfl
theorem wds : ∀ op ∈ ops, ∀ wd ∈ wor op, (op ∈ newL → op ≠ "swap" ∧ op ≠ "move" ∧ wd = "alone") ∧ (op ∉ newL → op ≠ "put") ∧ (op = "put" → op ∈ newL) ∧ (op = "move" → wd = "apart" ∨ wd = "within") ∧ (op = "swap" → wd = "apart" ∨ wd = "within" ∨ wd = "itself") := by decide +kernel
theorem sne : ("to" : Str) ≠ "home" ∧ ("x" : Str) ≠ "home" ∧ ("x" : Str) ≠ "to" ∧ ("y" : Str) ≠ "home" ∧ ("y" : Str) ≠ "to" ∧ ("y" : Str) ≠ "x" ∧ ("k" : Str) ≠ "home" ∧ ("k" : Str) ≠ "to" ∧ ("k" : Str) ≠ "x" ∧ ("k" : Str) ≠ "y" ∧ ("other" : Str) ≠ "home" ∧ ("other" : Str) ≠ "to" ∧ ("other" : Str) ≠ "x" ∧ ("other" : Str) ≠ "y" ∧ ("other" : Str) ≠ "k" := by decide +kernel
theorem une : ("alone" : Str) ≠ "apart" ∧ ("alone" : Str) ≠ "within" ∧ ("alone" : Str) ≠ "itself" ∧ ("apart" : Str) ≠ "within" ∧ ("apart" : Str) ≠ "itself" ∧ ("within" : Str) ≠ "itself" ∧ ("within" : Str) ≠ "apart" ∧ ("itself" : Str) ≠ "apart" ∧ ("itself" : Str) ≠ "within" ∧ ("move" : Str) ≠ "put" ∧ ("put" : Str) ≠ "move" := by decide +kernel
theorem ok_eq {op : Str} (hop : op ∈ ops) {wd : Str} (hwd : wd ∈ wor op) (n : Str → PyData) : wrong (okP op wd n) = wrong (okL op wd n) := by
  obtain ⟨w1, w2, w3, w4, w5⟩ := wds op hop wd hwd
  obtain ⟨s1, s2, s3, s4, s5, s6, s7, s8, s9, s10, s11, s12, s13, s14, s15⟩ := sne
  obtain ⟨u1, u2, u3, u4, u5, u6, u7, u8, u9, u10, u11⟩ := une
  have gg := g30
  refine wrong_congr ?_ (fun e1 => ?_) (fun e1 e2 => ?_) (fun e1 e2 e3 => ?_) (fun e1 e2 e3 e4 => ?_) ?_
  · -- home
    unfold okL
    rw [if_pos rfl]
    refine in_eq s4.symm fun _ => ?_
    unfold limP newB twoB bi
    rw [if_pos rfl]
    by_cases c : op ∈ newL
    · rw [if_pos c, decide_eq_true c, if_pos rfl, if_pos rfl]
      exact ⟨rfl, by omega⟩
    · rw [if_neg c, decide_eq_false c, if_neg Bool.false_ne_true, if_neg Bool.false_ne_true]
      refine ⟨?_, by show G30 = _; omega⟩
      by_cases c2 : op = "swap"
      · by_cases c3 : wd = "within"
        · rw [if_pos ⟨c2, c3⟩, decide_eq_true c2, decide_eq_true c3]; rfl
        · rw [if_neg (fun h => c3 h.2), decide_eq_false c3, Bool.and_false]; rfl
      · rw [if_neg (fun h => c2 h.1), decide_eq_false c2]; rfl
  · -- to
    unfold okL
    rw [if_neg s1, if_pos rfl]
    refine in_eq s5.symm fun _ => ?_
    unfold limP newB apaB bi
    rw [if_neg s1, if_pos rfl]
    by_cases c : op ∈ newL
    · obtain ⟨q1, q2, rfl⟩ := w1 c
      rw [if_pos (Or.inl c), decide_eq_true c, decide_eq_false q1, if_neg q1]
      exact ⟨rfl, by show G30 = min G30 G30; omega⟩
    · by_cases c2 : wd = "apart"
      · rw [if_pos (Or.inr c2), decide_eq_true c2, Bool.or_true, if_pos rfl, Bool.and_true]
        refine ⟨?_, by show G30 = min G30 G30; omega⟩
        by_cases c3 : op = "swap"
        · rw [if_pos c3, decide_eq_true c3]; rfl
        · rw [if_neg c3, decide_eq_false c3]; rfl
      · rw [if_neg (fun h => h.elim c c2), decide_eq_false c, decide_eq_false c2, Bool.and_false]
        exact ⟨rfl, by show (0 : Int) = min 0 G30; omega⟩
  · -- x
    have hh := home_le e1
    unfold okL
    rw [if_neg s2, if_neg s3, if_pos rfl]
    refine in_eq s6.symm fun _ => ?_
    obtain ⟨_, h1, h2⟩ := okP_sp e1
    unfold limP at h1 h2
    rw [if_pos rfl] at h1 h2
    unfold limP newB bi
    rw [if_neg s2, if_neg s3, if_pos rfl]
    by_cases c : op ∈ newL
    · rw [if_pos c] at h1 h2 ⊢
      rw [decide_eq_true c]
      have h1 : (0 : Int) ≤ iv (n "home") := h1
      have h2 : iv (n "home") ≤ (0 : Int) := h2
      exact ⟨rfl, by show (0 : Int) = _; omega⟩
    · rw [if_neg c, decide_eq_false c]
      exact ⟨rfl, by show iv (n "home") = _; omega⟩
  · -- y
    have hh := home_le e1
    have ht := to_le e2
    obtain ⟨_, x1, x2⟩ := okP_sp e3
    have key : isIntD (n "y") = true → (limP op wd "y" (iv (n "home")) (iv (n "to"))).1 = bi (ownB op wd) ∧ (limP op wd "y" (iv (n "home")) (iv (n "to"))).2 = min (mostY op wd (iv (n "home")) (iv (n "to"))) G30 := fun _ => by
      unfold limP limY mostY ownB bi apaB
      rw [if_neg s4, if_neg s5, if_neg s6, if_pos rfl]
      by_cases c : op = "swap"
      · by_cases c2 : wd = "itself"
        · rw [if_pos (Or.inr c2), decide_eq_true c2, Bool.not_true, Bool.and_false]
          exact ⟨rfl, by show (0 : Int) = min 0 G30; omega⟩
        · rw [if_neg (fun h => h.elim (fun q => q c) c2), decide_eq_false c2, decide_eq_true c]
          by_cases c3 : wd = "apart"
          · rw [if_pos c3, decide_eq_true c3]
            exact ⟨rfl, by show iv (n "to") = min (iv (n "to")) G30; omega⟩
          · rw [if_neg c3, decide_eq_false c3]
            exact ⟨rfl, by show iv (n "home") = min (iv (n "home")) G30; omega⟩
      · rw [if_pos (Or.inl c), decide_eq_false c, Bool.false_and]
        exact ⟨rfl, by show (0 : Int) = min 0 G30; omega⟩
    unfold okL
    rw [if_neg s4, if_neg s5, if_neg s6, if_pos rfl]
    unfold okP inL
    rw [Bool.and_assoc]
    refine and_ints fun e => ?_
    obtain ⟨k1, k2⟩ := key e
    have base : inR (limP op wd "y" (iv (n "home")) (iv (n "to"))) (iv (n "y")) = (decide (bi (ownB op wd) ≤ iv (n "y")) && (decide (iv (n "y") ≤ mostY op wd (iv (n "home")) (iv (n "to"))) && decide (iv (n "y") ≤ G30))) := by
      unfold inR
      rw [k1, k2]
      congr 1
      by_cases q1 : iv (n "y") ≤ mostY op wd (iv (n "home")) (iv (n "to"))
      · by_cases q2 : iv (n "y") ≤ G30
        · rw [decide_eq_true q1, decide_eq_true q2, decide_eq_true (by omega)]; rfl
        · rw [decide_eq_false q2, Bool.and_false, decide_eq_false (by omega)]
      · rw [decide_eq_false q1, Bool.false_and, decide_eq_false (by omega)]
    unfold fitP
    rw [← base]
    by_cases c : wd = "within"
    · by_cases c2 : iv (n "y") = iv (n "x")
      · rw [if_pos ⟨rfl, c, c2⟩, decide_eq_true c, decide_eq_true c2]
        by_cases c3 : op = "swap"
        · have : ownB op wd = true := by
            unfold ownB
            rw [decide_eq_true c3, decide_eq_false (by rw [c]; exact u6)]; rfl
          rw [this]
          show false = (_ && !true)
          rw [Bool.not_true, Bool.and_false]
        · -- y must be 0, x at least 1
          have o : ownB op wd = false := by
            unfold ownB
            rw [decide_eq_false c3]; rfl
          rw [o]
          show false = (_ && !false)
          rw [Bool.not_false, Bool.and_true]
          have nn : op ∉ newL := fun h => by
            obtain ⟨_, _, q⟩ := w1 h
            rw [q] at c
            exact u2 c
          unfold limP at x1
          rw [if_neg s2, if_neg s3, if_pos rfl, if_neg nn] at x1
          have x1 : 1 ≤ iv (n "x") := x1
          unfold inR
          rw [k1, k2]
          have m0 : mostY op wd (iv (n "home")) (iv (n "to")) = 0 := by unfold mostY; rw [o]; rfl
          rw [m0, decide_eq_false (show ¬ iv (n "y") ≤ min 0 G30 by omega), Bool.and_false]
      · rw [if_neg (fun h => c2 h.2.2), decide_eq_false c2, Bool.and_false, Bool.and_false, Bool.not_false, Bool.and_true]
    · rw [if_neg (fun h => c h.2.1), decide_eq_false c, Bool.false_and, Bool.and_false, Bool.not_false, Bool.and_true]
  · -- k
    have hh := home_le e1
    have ht := to_le e2
    unfold okL
    rw [if_neg s7, if_neg s8, if_neg s9, if_neg s10, if_pos rfl]
    refine in_eq s10 fun _ => ?_
    unfold limP limK mostK kWiB kApB bi
    rw [if_neg s7, if_neg s8, if_neg s9, if_neg s10, if_pos rfl]
    by_cases c : op ∈ (["put", "move"] : List Str)
    · rw [if_neg (fun h => h c), decide_eq_true c, if_pos rfl]
      rcases List.mem_cons.mp c with rfl | c
      · obtain ⟨_, _, rfl⟩ := w1 (w3 rfl)
        rw [if_neg u2, decide_eq_false u11, decide_eq_true rfl]
        exact ⟨rfl, rfl⟩
      · obtain rfl := List.mem_singleton.mp c
        rw [decide_eq_true (rfl : ("move" : Str) = "move"), decide_eq_false u10]
        rcases w4 rfl with rfl | rfl
        · rw [if_neg u4, decide_eq_false u4, decide_eq_true (rfl : ("apart" : Str) = "apart")]
          exact ⟨rfl, rfl⟩
        · rw [if_pos rfl, decide_eq_true (rfl : ("within" : Str) = "within")]
          exact ⟨rfl, by show iv (n "home") = min (iv (n "home")) G30; omega⟩
    · have c1 : op ≠ "put" := fun h => c (by rw [h]; decide)
      have c2 : op ≠ "move" := fun h => c (by rw [h]; decide)
      rw [if_pos c, decide_eq_false c, decide_eq_false c1, decide_eq_false c2]
      exact ⟨rfl, by show (0 : Int) = min 0 G30; omega⟩
  · unfold okL
    rw [if_neg s11, if_neg s12, if_neg s13, if_neg s14, if_neg s15]
    refine in_eq s14 fun _ => ?_
    unfold limP
    rw [if_neg s11, if_neg s12, if_neg s13, if_neg s14, if_neg s15]
    exact ⟨rfl, by show G30 = min G30 G30; omega⟩
end K23

set_option Elab.async false
set_option maxRecDepth 100000
set_option maxHeartbeats 2000000
namespace K23
open PySem PySem.Spec PyProof.Rows L2 KX
abbrev sInt : Stmt := top 2
section
variable {P : Program} {w : World} {K : PySem.W.Frag} {mg : Str → Option Value} {base : Heap}
theorem scInt : FnScope ["thing"] ["thing"] (defScope sInt) := ⟨rfl, rfl, rfl, by decide +kernel, rfl, by decide +kernel, by decide +kernel⟩
theorem ok_int {f : Addr} {fd : FuncData} (F : FnP K "is_integer" sInt f fd) (gI : mg "isinstance" = none) (gInt : mg "int" = none) (gB : mg "bool" = none) : FnOk P w K mg base CX0 1 f fd ["thing"] (spInt K) := by
  refine F.ok scInt (fun vs H Q E h => ?_) (fun cdv A outer s H vs Q E hr h => ?_)
  · obtain ⟨x, t, rfl, _⟩ := h
    rfl
  · obtain ⟨x, d, rfl, hk, k⟩ := h
    refine ⟨_, PSs.nox (pss_one (ps_ret (pe_and (pe_callB call_isi (by rfl) gI (by decide +kernel) (pa_cons (pv 0) (pa_cons (pe_bltn (v := .ty "int") (by rfl) gInt (by decide +kernel) rfl) pa_nil)))
      (pe_one (pe_not (pe_callB call_isi (by rfl) gI (by decide +kernel) (pa_cons (pv 0) (pa_cons (pe_bltn (v := .ty "bool") (by rfl) gB (by decide +kernel) rfl) pa_nil)))))))), ?_⟩
    refine ⟨_, rfl, _, _, _, _, _, rfl, .ty _, dp_ty hk, kit_int d, _, rfl, ite2' (fun c => ?_) (fun c => ?_)⟩
    · refine ⟨_, rfl, _, _, _, _, _, rfl, .ty _, dp_ty hk, kit_bool d, _, rfl, ?_⟩
      cases d <;> first | exact k | exact absurd c Bool.false_ne_true
    · have e : isIntD d = false := by cases d <;> first | rfl | exact absurd c.symm Bool.false_ne_true
      rw [← e]
      exact k
end
end K23

set_option Elab.async false
set_option maxRecDepth 100000
set_option maxHeartbeats 2000000
namespace K23
open PySem PySem.Spec PyProof.Rows L2 He KX
abbrev sLiY : Stmt := top 25
abbrev sLiK : Stmt := top 26
abbrev sLim : Stmt := top 24
abbrev sFit : Stmt := top 23
/-- a pair of integers is told -/
def PairIs (H : Hp) (p : Int × Int) (Q : VK) : Prop := ∀ T G, H T = none → Same H G → G T = some (.tup [.int p.1, .int p.2]) → Q (.ref T) G
def spLiY : Sp := fun vs H Q _ => ∃ (op wd : Str) (h t : Int), vs = [.str op, .str wd, .int h, .int t] ∧ PairIs H (limY op wd h t) Q
def spLiK : Sp := fun vs H Q _ => ∃ (op wd : Str) (h t : Int), vs = [.str op, .str wd, .int h, .int t] ∧ PairIs H (limK op wd h t) Q
def spLim : Sp := fun vs H Q _ => ∃ (z op wd : Str) (u v : V) (h t : Int), vs = [.str z, .str op, .str wd, u, v] ∧ (z ∈ (["x", "y", "k"] : List Str) → u = .int h) ∧ (z ∈ (["y", "k"] : List Str) → v = .int t) ∧ PairIs H (limP op wd z h t) Q
def spFit : Sp := fun vs H Q _ => ∃ (z op wd : Str) (b : Int) (u v a : V) (h t x : Int), vs = [.str z, .int b, .str op, .str wd, u, v, a] ∧ (z ∈ (["x", "y", "k"] : List Str) → u = .int h) ∧ (z ∈ (["y", "k"] : List Str) → v = .int t) ∧ (z = "y" → a = .int x) ∧ ∀ G, Same H G → Q (.bl (fitP op wd z b h t x)) G
section
variable {P : Program} {w : World} {K : PySem.W.Frag} {mg : Str → Option Value} {base : Heap}
theorem dstr (a b : Str) : decide (V.str a = V.str b) = decide (a = b) := by
  by_cases h : a = b
  · rw [decide_eq_true h, decide_eq_true (congrArg V.str h)]
  · rw [decide_eq_false h, decide_eq_false (fun e : V.str a = V.str b => h (by injection e))]
theorem scLiY : FnScope ["op", "world", "home", "to"] ["op", "world", "home", "to"] (defScope sLiY) := ⟨rfl, rfl, rfl, by decide +kernel, rfl, by decide +kernel, by decide +kernel⟩
theorem ok_liy {f : Addr} {fd : FuncData} (F : FnP K "_limits_of_y" sLiY f fd) : FnOk P w K mg base CX0 1 f fd ["op", "world", "home", "to"] spLiY := by
  refine F.ok scLiY (fun vs H Q E h => ?_) (fun cdv A outer s H vs Q E hr h => ?_)
  · obtain ⟨op, wd, h, t, rfl, _⟩ := h
    rfl
  · obtain ⟨op, wd, h, t, rfl, k⟩ := h
    have nd := scLiY.nd
    refine ⟨_, PSs.nox (pss_cons (ps_if (PW.pt (pw_or (pt_cmpR op_ne (pv 0) pe_str (nomark _)) (pw_or1 (pt_cmpR op_eq (pv 1) pe_str (nomark _)))))
(pss_one (ps_ret (pe_tup (pa_cons pe_int (pa_cons pe_int pa_nil)))))
pss_nil)
(pss_one (ps_ret (pe_ifExp (pt_cmpR op_eq (pv 1) pe_str (nomark _)) (pe_tup (pa_cons pe_int (pa_cons (pv 3) pa_nil))) (pe_tup (pa_cons pe_int (pa_cons (pv 2) pa_nil))))))), ?_⟩
    have zero : limY op wd h t = (0, 0) → ∀ T, H T = none → Q (.ref T) (upd H T (.tup [.int 0, .int 0])) := fun e T nT => by
      rw [e] at k
      exact k T _ nT (same_put nT) upd_same
    have rest : limY op wd h t = (if wd = "apart" then (1, t) else (1, h)) → (tIf (tTest (tOp rEq (tVar 1) (tC (V.str "apart")))) (tTup (tCons (tC (V.int 1)) (tCons (tVar 3) tNil))) (tTup (tCons (tC (V.int 1)) (tCons (tVar 2) tNil)))) [some (.str op), some (.str wd), some (.int h), some (.int t)] H Q := fun e => by
      rw [e] at k
      refine ⟨_, rfl, rfl, _, rfl, ?_⟩
      by_cases c : wd = "apart"
      · refine yes (decide_eq_true (congrArg V.str c)) ?_
        rw [if_pos c] at k
        exact ⟨_, rfl, (by show 2 ≤ sizeLine; decide), fun T nT => k T _ nT (same_put nT) upd_same⟩
      · refine no (decide_eq_false fun e => c (by injection e)) ?_
        rw [if_neg c] at k
        exact ⟨_, rfl, (by show 2 ≤ sizeLine; decide), fun T nT => k T _ nT (same_put nT) upd_same⟩
    refine ⟨_, rfl, rfl, _, rfl, ?_⟩
    by_cases c : op = "swap"
    · refine no (by rw [dstr, decide_eq_true c]; rfl) ?_
      refine ⟨_, rfl, rfl, _, rfl, ?_⟩
      by_cases c2 : wd = "itself"
      · refine yes (decide_eq_true (congrArg V.str c2)) ?_
        exact ⟨(by show 2 ≤ sizeLine; decide), zero (if_pos (.inr c2))⟩
      · refine no (decide_eq_false fun e => c2 (by injection e)) ?_
        exact rest (if_neg fun h => h.elim (fun h => h c) c2)
    · refine yes (by rw [dstr, decide_eq_false c]; rfl) ?_
      exact ⟨(by show 2 ≤ sizeLine; decide), zero (if_pos (.inl c))⟩
theorem scLiK : FnScope ["op", "world", "home", "to"] ["op", "world", "home", "to"] (defScope sLiK) := ⟨rfl, rfl, rfl, by decide +kernel, rfl, by decide +kernel, by decide +kernel⟩
theorem ok_lik {f : Addr} {fd : FuncData} {t30 : Tok} (F : FnP K "_limits_of_k" sLiK f fd) (gGR : mg "GREATEST" = some (.int G30 t30)) (n_min : mg "min" = none) : FnOk P w K mg base CX0 1 f fd ["op", "world", "home", "to"] spLiK := by
  refine F.ok scLiK (fun vs H Q E h => ?_) (fun cdv A outer s H vs Q E hr h => ?_)
  · obtain ⟨op, wd, h, t, rfl, _⟩ := h
    rfl
  · obtain ⟨op, wd, h, t, rfl, k⟩ := h
    have nd := scLiK.nd
    refine ⟨_, PSs.nox (pss_cons (ps_if (pt_cmpR op_notIn_seq (pv 0) (pe_tup (pa_cons pe_str (pa_cons pe_str pa_nil))) rfl)
(pss_one (ps_ret (pe_tup (pa_cons pe_int (pa_cons pe_int pa_nil)))))
pss_nil)
(pss_one (ps_ret (pe_ifExp (pt_cmpR op_eq (pv 1) pe_str (nomark _)) (pe_tup (pa_cons pe_int (pa_cons (pv 2) pa_nil))) (pe_tup (pa_cons pe_int (pa_cons (pe_callB (call_min2 rfl) (by rfl) n_min (by decide +kernel) (pa_cons (pe_op op_add (pv 3) pe_int) (pa_cons (pe_glob (v := .int G30) rfl gGR ⟨_, rfl⟩) pa_nil))) pa_nil))))))), ?_⟩
    unfold limK at k
    refine ⟨_, rfl, (by show 2 ≤ sizeLine; decide), fun T nT => ?_⟩
    generalize e_G1 : upd _ T _ = G1
    have s_T := new_same e_G1 nT
    have f_T := new_at e_G1
    clear e_G1
    refine ⟨T, (["put", "move"] : List Str).map V.str, rfl, .inr (SqT.of f_T), rfl, rfl, _, rfl, ?_⟩
    rw [if_pos rfl, inV_str]
    by_cases c : op ∈ (["put", "move"] : List Str)
    · rw [if_neg (fun h => h c)] at k
      refine no (by rw [decide_eq_true c]; rfl) ?_
      refine ⟨_, rfl, rfl, _, rfl, ?_⟩
      by_cases c2 : wd = "within"
      · refine yes (decide_eq_true (congrArg V.str c2)) ?_
        rw [if_pos c2] at k
        refine ⟨_, rfl, (by show 2 ≤ sizeLine; decide), fun R nR => ?_⟩
        exact k R _ (s_T.free nR) (s_T.trans (same_put nR)) upd_same
      · refine no (decide_eq_false fun e => c2 (by injection e)) ?_
        rw [if_neg c2] at k
        refine ⟨_, rfl, _, _, rfl, rfl, _, _, rfl, (by show 2 ≤ sizeLine; decide), fun R nR => ?_⟩
        have em : min (t + 1) G30 = if G30 < t + 1 then G30 else t + 1 := by split <;> omega
        rw [em] at k
        exact k R _ (s_T.free nR) (s_T.trans (same_put nR)) upd_same
    · rw [if_pos c] at k
      refine yes (by rw [decide_eq_false c]; rfl) ?_
      refine ⟨(by show 2 ≤ sizeLine; decide), fun R nR => ?_⟩
      exact k R _ (s_T.free nR) (s_T.trans (same_put nR)) upd_same
theorem scLim : FnScope ["name", "op", "world", "home", "to", "least"] ["name", "op", "world", "home", "to"] (defScope sLim) := ⟨rfl, rfl, rfl, by decide +kernel, rfl, by decide +kernel, by decide +kernel⟩
theorem ok_lim {f fY fK : Addr} {fd fdY fdK : FuncData} {t30 : Tok} (F : FnP K "_limits" sLim f fd) (gGR : mg "GREATEST" = some (.int G30 t30)) (hN : ∀ H, SqT K H (ga K "NEW") (newL.map V.str)) (gNEW : mg "NEW" = some (.ref (ga K "NEW")))
    (GY : FnOk P w K mg base CX0 1 fY fdY ["op", "world", "home", "to"] spLiY) (bY : Binds K fdY ["op", "world", "home", "to"] []) (kY : PySem.W.keepIn K (.ref fY) = true) (gY : mg "_limits_of_y" = some (.ref fY))
    (GK : FnOk P w K mg base CX0 1 fK fdK ["op", "world", "home", "to"] spLiK) (bK : Binds K fdK ["op", "world", "home", "to"] []) (kK : PySem.W.keepIn K (.ref fK) = true) (gK : mg "_limits_of_k" = some (.ref fK)) : FnOk P w K mg base CX0 2 f fd ["name", "op", "world", "home", "to"] spLim := by
  refine F.ok scLim (fun vs H Q E h => ?_) (fun cdv A outer s H vs Q E hr h => ?_)
  · obtain ⟨z, op, wd, u, v, h, t, rfl, _⟩ := h
    rfl
  · obtain ⟨z, op, wd, u, v, h, t, rfl, hu1, hv1, k⟩ := h
    have nd := scLim.nd
    have hr1 := hr.mono (j := 1) (by decide)
    refine ⟨_, PSs.nox (pss_cons (ps_if (pt_cmpR op_eq (pv 0) pe_str (nomark _))
(pss_cons (ps_set (i := 5) nd rfl (Or.inl rfl) (pe_ifExp (PW.pt (pw_and (pt_cmpR op_eq (pv 1) pe_str (nomark _)) (pw_and1 (pt_cmpR op_eq (pv 2) pe_str (nomark _))))) pe_int pe_int))
(pss_one (ps_ret (pe_ifExp (pt_cmpR op_in_seq (pv 1) (pe_glob (v := .ref (ga K "NEW")) rfl gNEW rfl) rfl) (pe_tup (pa_cons pe_int (pa_cons pe_int pa_nil))) (pe_tup (pa_cons (pv 5) (pa_cons (pe_glob (v := .int G30) rfl gGR ⟨_, rfl⟩) pa_nil)))))))
pss_nil)
(pss_cons (ps_if (pt_cmpR op_eq (pv 0) pe_str (nomark _))
(pss_cons (ps_set (i := 5) nd rfl (Or.inl rfl) (pe_ifExp (pt_cmpR op_eq (pv 1) pe_str (nomark _)) pe_int pe_int))
(pss_one (ps_ret (pe_ifExp (PW.pt (pw_or (pt_cmpR op_in_seq (pv 1) (pe_glob (v := .ref (ga K "NEW")) rfl gNEW rfl) rfl) (pw_or1 (pt_cmpR op_eq (pv 2) pe_str (nomark _))))) (pe_tup (pa_cons (pv 5) (pa_cons (pe_glob (v := .int G30) rfl gGR ⟨_, rfl⟩) pa_nil))) (pe_tup (pa_cons pe_int (pa_cons pe_int pa_nil)))))))
pss_nil)
(pss_cons (ps_if (pt_cmpR op_eq (pv 0) pe_str (nomark _))
(pss_one (ps_ret (pe_ifExp (pt_cmpR op_in_seq (pv 1) (pe_glob (v := .ref (ga K "NEW")) rfl gNEW rfl) rfl) (pe_tup (pa_cons pe_int (pa_cons pe_int pa_nil))) (pe_tup (pa_cons pe_int (pa_cons (pv 3) pa_nil))))))
pss_nil)
(pss_cons (ps_if (pt_cmpR op_eq (pv 0) pe_str (nomark _))
(pss_one (ps_ret (pe_call GY hr1 (by rfl) gY kY bY .nil pass0 (pa_cons (pv 1) (pa_cons (pv 2) (pa_cons (pv 3) (pa_cons (pv 4) pa_nil)))))))
pss_nil)
(pss_cons (ps_if (pt_cmpR op_eq (pv 0) pe_str (nomark _))
(pss_one (ps_ret (pe_call GK hr1 (by rfl) gK kK bK .nil pass0 (pa_cons (pv 1) (pa_cons (pv 2) (pa_cons (pv 3) (pa_cons (pv 4) pa_nil)))))))
pss_nil)
(pss_one (ps_ret (pe_tup (pa_cons pe_int (pa_cons (pe_glob (v := .int G30) rfl gGR ⟨_, rfl⟩) pa_nil)))))))))), ?_⟩
    unfold limP at k
    refine ⟨_, rfl, rfl, _, rfl, ?_⟩
    by_cases c1 : z = "home"
    · refine yes (decide_eq_true (congrArg V.str c1)) ?_
      rw [if_pos c1] at k
      refine seq_by (fun σ G => σ = [some (.str z), some (.str op), some (.str wd), some u, some v, some (.int (if op = "swap" ∧ wd = "within" then 2 else 1))] ∧ G = H) ?_ (fun nxt => ?_)
      · rintro σ G ⟨rfl, rfl⟩
        refine ⟨_, rfl, _, _, rfl, .inr (hN G), rfl, rfl, _, rfl, ?_⟩
        rw [if_neg Bool.false_ne_true, inV_str]
        by_cases c : op ∈ newL
        · rw [if_pos c] at k
          refine yes (decide_eq_true c) ?_
          exact ⟨(by show 2 ≤ sizeLine; decide), fun R nR => k R _ nR (same_put nR) upd_same⟩
        · rw [if_neg c] at k
          refine no (decide_eq_false c) ?_
          exact ⟨_, rfl, (by show 2 ≤ sizeLine; decide), fun R nR => k R _ nR (same_put nR) upd_same⟩
      · refine ⟨_, rfl, rfl, _, rfl, ?_⟩
        by_cases c2 : op = "swap"
        · refine yes (decide_eq_true (congrArg V.str c2)) ?_
          refine ⟨_, rfl, rfl, _, rfl, ?_⟩
          by_cases c3 : wd = "within"
          · refine yes (decide_eq_true (congrArg V.str c3)) ?_
            exact nxt _ _ ⟨by rw [if_pos ⟨c2, c3⟩]; rfl, rfl⟩
          · refine no (decide_eq_false fun e => c3 (by injection e)) ?_
            exact nxt _ _ ⟨by rw [if_neg fun h => c3 h.2]; rfl, rfl⟩
        · refine no (decide_eq_false fun e => c2 (by injection e)) ?_
          exact nxt _ _ ⟨by rw [if_neg fun h => c2 h.1]; rfl, rfl⟩
    refine no (decide_eq_false fun e => c1 (by injection e)) ?_
    rw [if_neg c1] at k
    refine ⟨_, rfl, rfl, _, rfl, ?_⟩
    by_cases c2 : z = "to"
    · refine yes (decide_eq_true (congrArg V.str c2)) ?_
      rw [if_pos c2] at k
      refine seq_by (fun σ G => σ = [some (.str z), some (.str op), some (.str wd), some u, some v, some (.int (if op = "swap" then 1 else 0))] ∧ G = H) ?_ (fun nxt => ?_)
      · rintro σ G ⟨rfl, rfl⟩
        refine ⟨_, rfl, _, _, rfl, .inr (hN G), rfl, rfl, _, rfl, ?_⟩
        rw [if_neg Bool.false_ne_true, inV_str]
        by_cases c : op ∈ newL
        · rw [if_pos (Or.inl c)] at k
          refine yes (decide_eq_true c) ?_
          exact ⟨_, rfl, (by show 2 ≤ sizeLine; decide), fun R nR => k R _ nR (same_put nR) upd_same⟩
        · refine no (decide_eq_false c) ?_
          refine ⟨_, rfl, rfl, _, rfl, ?_⟩
          by_cases c3 : wd = "apart"
          · rw [if_pos (Or.inr c3)] at k
            refine yes (decide_eq_true (congrArg V.str c3)) ?_
            exact ⟨_, rfl, (by show 2 ≤ sizeLine; decide), fun R nR => k R _ nR (same_put nR) upd_same⟩
          · rw [if_neg fun h => h.elim c c3] at k
            refine no (decide_eq_false fun e => c3 (by injection e)) ?_
            exact ⟨(by show 2 ≤ sizeLine; decide), fun R nR => k R _ nR (same_put nR) upd_same⟩
      · refine ⟨_, rfl, rfl, _, rfl, ?_⟩
        by_cases c3 : op = "swap"
        · refine yes (decide_eq_true (congrArg V.str c3)) ?_
          exact nxt _ _ ⟨by rw [if_pos c3]; rfl, rfl⟩
        · refine no (decide_eq_false fun e => c3 (by injection e)) ?_
          exact nxt _ _ ⟨by rw [if_neg c3]; rfl, rfl⟩
    refine no (decide_eq_false fun e => c2 (by injection e)) ?_
    rw [if_neg c2] at k
    refine ⟨_, rfl, rfl, _, rfl, ?_⟩
    by_cases c3 : z = "x"
    · refine yes (decide_eq_true (congrArg V.str c3)) ?_
      rw [if_pos c3] at k
      obtain rfl := hu1 (by rw [c3]; decide)
      refine ⟨_, rfl, _, _, rfl, .inr (hN H), rfl, rfl, _, rfl, ?_⟩
      rw [if_neg Bool.false_ne_true, inV_str]
      by_cases c : op ∈ newL
      · rw [if_pos c] at k
        refine yes (decide_eq_true c) ?_
        exact ⟨(by show 2 ≤ sizeLine; decide), fun R nR => k R _ nR (same_put nR) upd_same⟩
      · rw [if_neg c] at k
        refine no (decide_eq_false c) ?_
        exact ⟨_, rfl, (by show 2 ≤ sizeLine; decide), fun R nR => k R _ nR (same_put nR) upd_same⟩
    refine no (decide_eq_false fun e => c3 (by injection e)) ?_
    rw [if_neg c3] at k
    refine ⟨_, rfl, rfl, _, rfl, ?_⟩
    by_cases c4 : z = "y"
    · refine yes (decide_eq_true (congrArg V.str c4)) ?_
      rw [if_pos c4] at k
      obtain rfl := hu1 (by rw [c4]; decide)
      obtain rfl := hv1 (by rw [c4]; decide)
      exact ⟨_, rfl, _, rfl, _, rfl, _, rfl, op, wd, h, t, rfl, k⟩
    refine no (decide_eq_false fun e => c4 (by injection e)) ?_
    rw [if_neg c4] at k
    refine ⟨_, rfl, rfl, _, rfl, ?_⟩
    by_cases c5 : z = "k"
    · refine yes (decide_eq_true (congrArg V.str c5)) ?_
      rw [if_pos c5] at k
      obtain rfl := hu1 (by rw [c5]; decide)
      obtain rfl := hv1 (by rw [c5]; decide)
      exact ⟨_, rfl, _, rfl, _, rfl, _, rfl, op, wd, h, t, rfl, k⟩
    refine no (decide_eq_false fun e => c5 (by injection e)) ?_
    rw [if_neg c5] at k
    exact ⟨(by show 2 ≤ sizeLine; decide), fun R nR => k R _ nR (same_put nR) upd_same⟩
theorem scFit : FnScope ["name", "worth", "op", "world", "home", "to", "x", "least", "most"] ["name", "worth", "op", "world", "home", "to", "x"] (defScope sFit) := ⟨rfl, rfl, rfl, by decide +kernel, rfl, by decide +kernel, by decide +kernel⟩
theorem ok_fit {f fL : Addr} {fd fdL : FuncData} (F : FnP K "_fits" sFit f fd)
    (GL : FnOk P w K mg base CX0 2 fL fdL ["name", "op", "world", "home", "to"] spLim) (bL : Binds K fdL ["name", "op", "world", "home", "to"] []) (kL : PySem.W.keepIn K (.ref fL) = true) (gL : mg "_limits" = some (.ref fL)) : FnOk P w K mg base CX0 3 f fd ["name", "worth", "op", "world", "home", "to", "x"] spFit := by
  refine F.ok scFit (fun vs H Q E h => ?_) (fun cdv A outer s H vs Q E hr h => ?_)
  · obtain ⟨z, op, wd, b, u, v, a, h, t, x, rfl, _⟩ := h
    rfl
  · obtain ⟨z, op, wd, b, u, v, a, h, t, x, rfl, hu1, hv1, ha1, k⟩ := h
    have nd := scFit.nd
    have hr2 := hr.mono (j := 2) (by decide)
    refine ⟨_, PSs.nox (pss_cons (ps_asg (pe_call GL hr2 (by rfl) gL kL bL .nil pass0 (pa_cons (pv 0) (pa_cons (pv 2) (pa_cons (pv 3) (pa_cons (pv 4) (pa_cons (pv 5) pa_nil)))))) (pg_tup rfl (pgs_cons (pg_name (i := 7) nd rfl (Or.inl rfl)) (pgs_cons (pg_name (i := 8) nd rfl (Or.inl rfl)) pgs_nil))))
(pss_cons (ps_if (PW.pt (pw_and (pt_cmpR op_eq (pv 0) pe_str (nomark _)) (pw_and (pt_cmpR op_eq (pv 3) pe_str (nomark _)) (pw_and1 (pt_cmpR op_eq (pv 1) (pv 6) (nomark _))))))
(pss_one (ps_ret pe_bl))
pss_nil)
(pss_one (ps_ret (pe_chain op_le op_le (pv 7) (pv 1) (pv 8)))))), ?_⟩
    refine ⟨_, rfl, _, rfl, _, rfl, _, rfl, _, rfl, z, op, wd, u, v, h, t, rfl, hu1, hv1, fun T G nT sG hT => ?_⟩
    refine ⟨T, _, rfl, SqT.of hT, rfl, _, _, rfl, _, _, rfl, rfl, ?_⟩
    dsimp only [gName, gTup, gCons, gNil, List.set]
    have k := k G sG
    unfold fitP inR at k
    refine seq_by (fun σ G2 => ¬(z = "y" ∧ wd = "within" ∧ b = x) ∧ σ = [some (.str z), some (.int b), some (.str op), some (.str wd), some u, some v, some a, some (.int (limP op wd z h t).1), some (.int (limP op wd z h t).2)] ∧ G2 = G) ?_ (fun nxt => ?_)
    · rintro σ G2 ⟨nc, rfl, rfl⟩
      rw [if_neg nc] at k
      refine ⟨_, rfl, _, rfl, _, _, rfl, rfl, _, rfl, ite2' (fun c => ?_) (fun c => ?_)⟩
      · rw [c, Bool.true_and] at k
        exact ⟨_, rfl, _, _, rfl, rfl, k⟩
      · rw [c, Bool.false_and] at k
        exact k
    · refine ⟨_, rfl, rfl, _, rfl, ?_⟩
      by_cases c1 : z = "y"
      · refine yes (decide_eq_true (congrArg V.str c1)) ?_
        obtain rfl := ha1 c1
        refine ⟨_, rfl, rfl, _, rfl, ?_⟩
        by_cases c2 : wd = "within"
        · refine yes (decide_eq_true (congrArg V.str c2)) ?_
          refine ⟨_, rfl, _, rfl, rfl, _, rfl, ?_⟩
          by_cases c3 : b = x
          · refine yes (decide_eq_true (congrArg V.int c3)) ?_
            rw [if_pos ⟨c1, c2, c3⟩] at k
            exact k
          · refine no (decide_eq_false fun e => c3 (by injection e)) ?_
            exact nxt _ _ ⟨fun h => c3 h.2.2, rfl, rfl⟩
        · refine no (decide_eq_false fun e => c2 (by injection e)) ?_
          exact nxt _ _ ⟨fun h => c2 h.2.1, rfl, rfl⟩
      · refine no (decide_eq_false fun e => c1 (by injection e)) ?_
        exact nxt _ _ ⟨fun h => c1 h.1, rfl, rfl⟩
end
end K23

set_option Elab.async false
set_option maxRecDepth 100000
set_option maxHeartbeats 2000000
namespace K23
open PySem PySem.Spec PyProof.Rows L2 He KX
abbrev sSci : Stmt := inClass (top 22) 0
structure ScnK (K : PySem.W.Frag) : Prop where
  made : Mk K (ga K "Scene") (ma K (ga K "Scene") "__init__")
  cls : Cls K (ga K "Scene")
  noat : ∀ f ∈ sfl, NoAttr K (ga K "Scene") f
/-- the scene's own dict -/
def scV (ov wv : V) (n : Str → V) (f : Str) : V := if f = "op" then ov else if f = "world" then wv else n f
def ScF (ov wv : V) (n : Str → V) (fs : List (Str × V)) : Prop := (∀ f ∈ sfl, fs.lookup f = some (scV ov wv n f)) ∧ fs.lookup ("arguments" : Str) = none
abbrev kwL : List (Str × V) := [("home", .int 0), ("to", .int 0), ("x", .int 0), ("y", .int 0), ("k", .int 0), ("other", .int 0)]
abbrev sciP : List Str := ["self", "op", "world", "home", "to", "x", "y", "k", "other"]
/-- what a scene is made of: the values and their data -/
structure ScD0 (K : PySem.W.Frag) (H : Hp) (ov wv : V) (n : Str → V) (eo ew : PyData) (d : Str → PyData) : Prop where
  o : Dp K H ov eo
  os : SeqAt.shaped eo = true
  w : Dp K H wv ew
  ws : SeqAt.shaped ew = true
  n : ∀ z ∈ nk, Dp K H (n z) (d z)
def spSci (K : PySem.W.Frag) : Sp := fun vs H Q E => ∃ (a dx : Addr) (H0 : Hp) (ov wv : V) (n : Str → V) (eo ew : PyData) (d : Str → PyData), vs = .ref a :: ov :: wv :: nk.map n ∧ ScD0 K H0 ov wv n eo ew d ∧ H0 a = none ∧ Same H0 H ∧ H a = some (.ins (ga K "Scene") dx []) ∧
  (inS ops eo = false → Raised (ga K "BadOperation") H [("op", ov)] E) ∧ (∀ op ∈ ops, eo = .str op → inS (wor op) ew = false → Raised (ga K "BadWorld") H [("world", wv)] E) ∧
  (∀ op ∈ ops, eo = .str op → ∀ wd ∈ wor op, ew = .str wd → ∀ z, wrong (okP op wd d) = some z → Raised (ga K "BadNumber") H [("name", .str z)] E) ∧
  (∀ op ∈ ops, eo = .str op → ∀ wd ∈ wor op, ew = .str wd → wrong (okP op wd d) = none → ∀ G fs, Same H0 G → G a = some (.ins (ga K "Scene") dx fs) → ScF ov wv n fs → Q .non G)
theorem lkE {f : Str} {v : V} {fs : List (Str × V)} : (putF f v fs).lookup f = some v := by rw [lookup_putF, if_pos rfl]
theorem lkN {f g : Str} {v : V} {fs : List (Str × V)} (h : g ≠ f) : (putF f v fs).lookup g = fs.lookup g := by rw [lookup_putF, if_neg h]
theorem plen {f : Str} {v : V} {fs : List (Str × V)} {n : Nat} (h : fs.length ≤ n) : (putF f v fs).length ≤ n + 1 := Nat.le_trans (length_putF _ _ _) (by omega)
theorem scV_op {ov wv : V} {n : Str → V} : scV ov wv n "op" = ov := if_pos rfl
theorem scV_wd {ov wv : V} {n : Str → V} : scV ov wv n "world" = wv := (if_neg (by decide +kernel)).trans (if_pos rfl)
theorem nk_ne : ∀ z ∈ nk, z ≠ "op" ∧ z ≠ "world" := by decide +kernel
theorem scV_nk {ov wv : V} {n : Str → V} {z : Str} (h : z ∈ nk) : scV ov wv n z = n z := (if_neg (nk_ne z h).1).trans (if_neg (nk_ne z h).2)
theorem wor_shaped : ∀ z ∈ ops, SeqAt.shaped (.tuple ((wor z).map PyData.str)) = true := by decide +kernel
theorem wrong_at {ok : Str → Bool} {i : Nat} {z : Str} (hz : nk[i]? = some z) (hp : ∀ y ∈ nk.take i, ok y = true) (h : ok z = false) : wrong ok = some z := by
  unfold wrong
  have hn : ¬ ok z = true := by rw [h]; decide
  match i, hz with
  | 0, hz => obtain rfl := Option.some.inj hz; rw [if_neg hn]
  | 1, hz => obtain rfl := Option.some.inj hz; rw [if_pos (hp "home" (by decide)), if_neg hn]
  | 2, hz => obtain rfl := Option.some.inj hz; rw [if_pos (hp "home" (by decide)), if_pos (hp "to" (by decide)), if_neg hn]
  | 3, hz => obtain rfl := Option.some.inj hz; rw [if_pos (hp "home" (by decide)), if_pos (hp "to" (by decide)), if_pos (hp "x" (by decide)), if_neg hn]
  | 4, hz => obtain rfl := Option.some.inj hz; rw [if_pos (hp "home" (by decide)), if_pos (hp "to" (by decide)), if_pos (hp "x" (by decide)), if_pos (hp "y" (by decide)), if_neg hn]
  | 5, hz => obtain rfl := Option.some.inj hz; rw [if_pos (hp "home" (by decide)), if_pos (hp "to" (by decide)), if_pos (hp "x" (by decide)), if_pos (hp "y" (by decide)), if_pos (hp "k" (by decide)), if_neg hn]
theorem nk_pre : ∀ i < 6, ∀ z, nk[i]? = some z → (z ∈ (["x", "y", "k"] : List Str) → ("home" : Str) ∈ nk.take i) ∧ (z ∈ (["y", "k"] : List Str) → ("to" : Str) ∈ nk.take i) ∧ (z = "y" → ("x" : Str) ∈ nk.take i) ∧ z ∈ nk ∧ nk.take (i + 1) = nk.take i ++ [z] := by
  intro i hi z hz
  match i, hi, hz with
  | 0, _, hz => obtain rfl := Option.some.inj hz; decide +kernel
  | 1, _, hz => obtain rfl := Option.some.inj hz; decide +kernel
  | 2, _, hz => obtain rfl := Option.some.inj hz; decide +kernel
  | 3, _, hz => obtain rfl := Option.some.inj hz; decide +kernel
  | 4, _, hz => obtain rfl := Option.some.inj hz; decide +kernel
  | 5, _, hz => obtain rfl := Option.some.inj hz; decide +kernel
section
variable {P : Program} {w : World} {K : PySem.W.Frag} {mg : Str → Option Value} {base : Heap}
theorem dp_int {H : Hp} {v : V} {i : Int} (h : Dp K H v (.int i)) : v = .int i := by cases h; rfl
theorem scSci : FnScope ["self", "op", "world", "home", "to", "x", "y", "k", "other", "name", "worth"] ["self", "op", "world", "home", "to", "x", "y", "k", "other"] (defScope sSci) := ⟨rfl, rfl, rfl, by decide +kernel, rfl, by decide +kernel, by decide +kernel⟩
theorem ok_sci {f fI fF fW : Addr} {fd fdI fdF fdW fdE fdN : FuncData} (F : FunD K "__init__" "Scene.__init__" (defArgs sSci) (defBody sSci) (defScope sSci) [] kwL f fd) (S : ScnK K)
    (BW : ErBW K) (gBW : mg "BadWorld" = some (.ref (ga K "BadWorld"))) (FE : FunD K "__init__" "BadWorld.__init__" (defArgs sBWI) (defBody sBWI) (defScope sBWI) [] [] (ma K (ga K "BadWorld") "__init__") fdE)
    (BN : ErBN K) (gBN : mg "BadNumber" = some (.ref (ga K "BadNumber"))) (FN : FunD K "__init__" "BadNumber.__init__" (defArgs sBNI) (defBody sBNI) (defScope sBNI) [] [] (ma K (ga K "BadNumber") "__init__") fdN)
    (GI : FnOk P w K mg base CX0 1 fI fdI ["thing"] (spInt K)) (bI : Binds K fdI ["thing"] []) (kI : PySem.W.keepIn K (.ref fI) = true) (gI : mg "is_integer" = some (.ref fI))
    (GF : FnOk P w K mg base CX0 3 fF fdF ["name", "worth", "op", "world", "home", "to", "x"] spFit) (bF : Binds K fdF ["name", "worth", "op", "world", "home", "to", "x"] []) (kF : PySem.W.keepIn K (.ref fF) = true) (gF : mg "_fits" = some (.ref fF))
    (GW : FnOk P w K mg base (L2N.CX P w) 4 fW fdW ["op"] (spWor K)) (bW : Binds K fdW ["op"] []) (kW : PySem.W.keepIn K (.ref fW) = true) (gW : mg "worlds_of" = some (.ref fW)) : FnOk P w K mg base (L2N.CX P w) 5 f fd sciP (spSci K) := by
  have GE : FnOk P w K mg base CX0 1 (ma K (ga K "BadWorld") "__init__") fdE ["self", "world"] (spX1 (ga K "BadWorld") "world") := ok_bwi FE BW
  have bE : Binds K fdE ["self", "world"] [] := FE.bindsN fun _ _ _ _ _ _ us hl => match us, hl with | [_, _], _ => rfl
  have GEN : FnOk P w K mg base CX0 1 (ma K (ga K "BadNumber") "__init__") fdN ["self", "name"] (spX1 (ga K "BadNumber") "name") := ok_bni FN BN
  have bEN : Binds K fdN ["self", "name"] [] := FN.bindsN fun _ _ _ _ _ _ us hl => match us, hl with | [_, _], _ => rfl
  refine F.ok scSci (fun vs H Q E h => ?_) (fun cdv A outer s H vs Q E hr h => ?_)
  · obtain ⟨a, dx, H0, ov, wv, n, eo, ew, d, rfl, _⟩ := h
    rfl
  · obtain ⟨a, dx, H0, ov, wv, n, eo, ew, d, rfl, D, na, s0, ha, k1, k2, k3, k4⟩ := h
    have nd := scSci.nd
    have hr4 := hr.mono (j := 4) (by decide)
    have hr3 := hr.mono (j := 3) (by decide)
    have hr2 := hr.mono (j := 2) (by decide)
    have hr1 := hr.mono (j := 1) (by decide)
    have hu65 : (A.deeper (envOfC "Scene.__init__" (defScope sSci) s.heap.objs.size f cdv)).units + 65 < cLine := by have := hr.un; omega
    refine ⟨_, (by exact (pss_cons (ps_if (pt_cmpR (op_notInDT hu65) (pv 2) (pe_callS GW hr4 (by rfl) gW kW bW (fun σ => L2N.passAt (L2N.takes_of rfl rfl rfl rfl) σ) (pa_cons (pv 1) pa_nil)) rfl)
(pss_one (L2N.ps_raise rfl (L2N.takes_of rfl rfl rfl rfl) (by exact (pmk_x BW.T BW.ty bsV BW.iC BW.fn GE hr2 bE pass0 rfl gBW (pa_cons (pv 2) pa_nil)))))
pss_nil)
(pss_cons (ps_for (passes_of rfl) rfl (by exact (pi_tup (pe_tup (pa_cons (pe_tup (pa_cons pe_str (pa_cons (pv 3) pa_nil))) (pa_cons (pe_tup (pa_cons pe_str (pa_cons (pv 4) pa_nil))) (pa_cons (pe_tup (pa_cons pe_str (pa_cons (pv 5) pa_nil))) (pa_cons (pe_tup (pa_cons pe_str (pa_cons (pv 6) pa_nil))) (pa_cons (pe_tup (pa_cons pe_str (pa_cons (pv 7) pa_nil))) (pa_cons (pe_tup (pa_cons pe_str (pa_cons (pv 8) pa_nil))) pa_nil))))))))) (pg_tup rfl (pgs_cons (pg_name (i := 9) nd rfl (Or.inl rfl)) (pgs_cons (pg_name (i := 10) nd rfl (Or.inl rfl)) pgs_nil))) (pss_one (ps_if (PW.pt (pw_or (pt_not (pt_val (pe_call GI hr1 (by rfl) gI kI bI .nil pass0 (pa_cons (pv 10) pa_nil)))) (pw_or1 (pt_not (pt_val (pe_call GF hr3 (by rfl) gF kF bF .nil pass0 (pa_cons (pv 9) (pa_cons (pv 10) (pa_cons (pv 1) (pa_cons (pv 2) (pa_cons (pv 3) (pa_cons (pv 4) (pa_cons (pv 5) pa_nil)))))))))))))
(pss_one (L2N.ps_raise rfl (L2N.takes_of rfl rfl rfl rfl) (by exact (pmk_x BN.T BN.ty bsV BN.iC BN.fn GEN hr2 bEN pass0 rfl gBN (pa_cons (pv 9) pa_nil)))))
pss_nil)))
(pss_cons (ps_fld (pv 0) (pv 1) rfl)
(pss_cons (ps_fld (pv 0) (pv 2) rfl)
(pss_cons (ps_fld (pv 0) (pv 3) rfl)
(pss_cons (ps_fld (pv 0) (pv 4) rfl)
(pss_cons (ps_fld (pv 0) (pv 5) rfl)
(pss_cons (ps_fld (pv 0) (pv 6) rfl)
(pss_cons (ps_fld (pv 0) (pv 7) rfl)
(pss_one (ps_fld (pv 0) (pv 8) rfl)))))))))))), ?_⟩
    refine ⟨_, rfl, _, rfl, ov, eo, rfl, D.o.mv s0, D.os, fun op hop eop T nT => ?_, k1⟩
    generalize e_G1 : upd _ T _ = G1
    have s_T := new_same e_G1 nT
    have f_T := new_at e_G1
    clear e_G1
    have ha := ha.mv s_T
    have sG1 := s0.trans s_T
    refine ⟨ew, (wor op).map PyData.str, D.w.mv sG1, .tup (SqT.of f_T) (strs_dp _), D.ws, wor_shaped op hop, _, rfl, ?_⟩
    rw [if_pos rfl]
    show if (!inS (wor op) ew) = true then _ else _
    cases hi : inS (wor op) ew with
    | false => exact yes rfl ⟨_, rfl, (by show 1 ≤ 1000; decide), fun e he => ⟨e, _, G1, rfl, rfl, he, fun d' H' hd' hde h1 h2 h3 => ⟨rfl, d', _, h1, h2, hd', raised_at ((k2 op hop eop hi).mv s_T) he hd' hde h3⟩⟩⟩
    | true =>
    refine no rfl ?_
    obtain ⟨wd, hwd, ewd⟩ := inS_true hi
    have eov : ov = .str op := dp_str (eop ▸ D.o)
    have ewv : wv = .str wd := dp_str (ewd ▸ D.w)
    subst eov
    subst ewv
    have k3 := k3 op hop eop wd hwd ewd
    have k4 := k4 op hop eop wd hwd ewd
    -- the tuples
    refine ⟨_, rfl, (by show 2 ≤ sizeLine; decide), fun r1 n1 => ?_⟩
    generalize e_J1 : upd _ r1 _ = J1
    have s_r1 := new_same e_J1 n1
    have f_r1 := new_at e_J1
    clear e_J1
    have ha := ha.mv s_r1
    have sG1 := sG1.trans s_r1
    refine ⟨_, rfl, (by show 2 ≤ sizeLine; decide), fun r2 n2 => ?_⟩
    generalize e_J2 : upd _ r2 _ = J2
    have s_r2 := new_same e_J2 n2
    have f_r2 := new_at e_J2
    clear e_J2
    have ha := ha.mv s_r2
    have f_r1 := f_r1.mv s_r2
    have sG1 := sG1.trans s_r2
    refine ⟨_, rfl, (by show 2 ≤ sizeLine; decide), fun r3 n3 => ?_⟩
    generalize e_J3 : upd _ r3 _ = J3
    have s_r3 := new_same e_J3 n3
    have f_r3 := new_at e_J3
    clear e_J3
    have ha := ha.mv s_r3
    have f_r1 := f_r1.mv s_r3
    have f_r2 := f_r2.mv s_r3
    have sG1 := sG1.trans s_r3
    refine ⟨_, rfl, (by show 2 ≤ sizeLine; decide), fun r4 n4 => ?_⟩
    generalize e_J4 : upd _ r4 _ = J4
    have s_r4 := new_same e_J4 n4
    have f_r4 := new_at e_J4
    clear e_J4
    have ha := ha.mv s_r4
    have f_r1 := f_r1.mv s_r4
    have f_r2 := f_r2.mv s_r4
    have f_r3 := f_r3.mv s_r4
    have sG1 := sG1.trans s_r4
    refine ⟨_, rfl, (by show 2 ≤ sizeLine; decide), fun r5 n5 => ?_⟩
    generalize e_J5 : upd _ r5 _ = J5
    have s_r5 := new_same e_J5 n5
    have f_r5 := new_at e_J5
    clear e_J5
    have ha := ha.mv s_r5
    have f_r1 := f_r1.mv s_r5
    have f_r2 := f_r2.mv s_r5
    have f_r3 := f_r3.mv s_r5
    have f_r4 := f_r4.mv s_r5
    have sG1 := sG1.trans s_r5
    refine ⟨_, rfl, (by show 2 ≤ sizeLine; decide), fun r6 n6 => ?_⟩
    generalize e_J6 : upd _ r6 _ = J6
    have s_r6 := new_same e_J6 n6
    have f_r6 := new_at e_J6
    clear e_J6
    have ha := ha.mv s_r6
    have f_r1 := f_r1.mv s_r6
    have f_r2 := f_r2.mv s_r6
    have f_r3 := f_r3.mv s_r6
    have f_r4 := f_r4.mv s_r6
    have f_r5 := f_r5.mv s_r6
    have sG1 := sG1.trans s_r6
    refine ⟨(by show 6 ≤ sizeLine; decide), fun L nL => ?_⟩
    generalize e_J7 : upd _ L _ = J7
    have s_L := new_same e_J7 nL
    have f_L := new_at e_J7
    clear e_J7
    have ha := ha.mv s_L
    have f_r1 := f_r1.mv s_L
    have f_r2 := f_r2.mv s_L
    have f_r3 := f_r3.mv s_L
    have f_r4 := f_r4.mv s_L
    have f_r5 := f_r5.mv s_L
    have f_r6 := f_r6.mv s_L
    have sG1 := sG1.trans s_L
    have rows : ∀ (i : Nat) (x : V), ([V.ref r1, .ref r2, .ref r3, .ref r4, .ref r5, .ref r6] : List V)[i]? = some x → ∃ z r, nk[i]? = some z ∧ x = .ref r ∧ J7 r = some (.tup [.str z, n z]) := by
      intro i x hx
      match i, hx with
      | 0, hx => exact ⟨_, r1, rfl, (Option.some.inj hx).symm, f_r1⟩
      | 1, hx => exact ⟨_, r2, rfl, (Option.some.inj hx).symm, f_r2⟩
      | 2, hx => exact ⟨_, r3, rfl, (Option.some.inj hx).symm, f_r3⟩
      | 3, hx => exact ⟨_, r4, rfl, (Option.some.inj hx).symm, f_r4⟩
      | 4, hx => exact ⟨_, r5, rfl, (Option.some.inj hx).symm, f_r5⟩
      | 5, hx => exact ⟨_, r6, rfl, (Option.some.inj hx).symm, f_r6⟩
    refine ⟨L, rfl, ⟨_, SqT.of f_L⟩, for_it (walk_tup (K := K) (a := L) (xs := ([V.ref r1, V.ref r2, V.ref r3, V.ref r4, V.ref r5, V.ref r6] : List V))) (fun i σ G => ∃ w9 w10, σ = [some (.ref a), some (.str op), some (.str wd), some (n "home"), some (n "to"), some (n "x"), some (n "y"), some (n "k"), some (n "other"), w9, w10] ∧ Same J7 G ∧ ∀ y ∈ nk.take i, okP op wd d y = true) ⟨none, none, rfl, Same.refl _, fun y hy => nomatch hy⟩ (fun i σ G _ h => ?_) (fun i x σ G G' hi h y => ?_) (fun σ G h => ?_)⟩
    · obtain ⟨w9, w10, rfl, sg, _⟩ := h
      exact SqT.of (sg _ _ f_L)
    · obtain ⟨w9, w10, rfl, sg, hp⟩ := h
      obtain ⟨rfl, hx⟩ := y
      obtain ⟨z, r, hz, rfl, hr⟩ := rows i x hx
      obtain ⟨p1, p2, p3, p4, p5⟩ := nk_pre i hi z hz
      refine ⟨r, _, rfl, SqT.of (sg _ _ hr), rfl, _, _, rfl, _, _, rfl, rfl, ?_⟩
      dsimp only [gName, gTup, gCons, gNil, List.set]
      have dn := D.n
      have bad : okP op wd d z = false → Raised (ga K "BadNumber") G' [("name", .str z)] E := fun hb => ((k3 z (wrong_at hz hp hb)).mv ((s_T.trans (s_r1.trans (s_r2.trans (s_r3.trans (s_r4.trans (s_r5.trans (s_r6.trans s_L))))))).trans sg))
      refine ⟨_, rfl, n z, d z, rfl, (dn z p4).mv (sG1.trans sg), _, rfl, ?_⟩
      cases hI : isIntD (d z) with
      | false =>
        refine yes rfl ⟨_, rfl, (by show 1 ≤ 1000; decide), fun e he => ⟨e, _, G', rfl, rfl, he, fun d' H' hd' hde h1 h2 h3 => ⟨rfl, d', _, h1, h2, hd', raised_at (bad ?_) he hd' hde h3⟩⟩⟩
        unfold okP
        rw [hI]; rfl
      | true =>
        refine no rfl ?_
        have ez : n z = .int (iv (d z)) := dp_int ((int_of hI) ▸ dn z p4)
        have eh : ("home" : Str) ∈ nk.take i → n "home" = .int (iv (d "home")) := fun h => dp_int ((okP_sp (hp _ h)).1 ▸ dn "home" (by decide))
        have et : ("to" : Str) ∈ nk.take i → n "to" = .int (iv (d "to")) := fun h => dp_int ((okP_sp (hp _ h)).1 ▸ dn "to" (by decide))
        have ex : ("x" : Str) ∈ nk.take i → n "x" = .int (iv (d "x")) := fun h => dp_int ((okP_sp (hp _ h)).1 ▸ dn "x" (by decide))
        refine ⟨_, rfl, _, rfl, _, rfl, _, rfl, _, rfl, _, rfl, _, rfl, z, op, wd, iv (d z), n "home", n "to", n "x", iv (d "home"), iv (d "to"), iv (d "x"), (by rw [ez]; rfl), fun h => eh (p1 h), fun h => et (p2 h), fun h => ex (p3 h), fun G2 s2 => ?_⟩
        have eok : okP op wd d z = fitP op wd z (iv (d z)) (iv (d "home")) (iv (d "to")) (iv (d "x")) := by
          unfold okP
          rw [hI, Bool.true_and]
        refine ⟨_, rfl, ?_⟩
        cases hf : fitP op wd z (iv (d z)) (iv (d "home")) (iv (d "to")) (iv (d "x")) with
        | false =>
          exact yes rfl ⟨_, rfl, (by show 1 ≤ 1000; decide), fun e he => ⟨e, _, G2, rfl, rfl, he, fun d' H' hd' hde h1 h2 h3 => ⟨rfl, d', _, h1, h2, hd', raised_at ((bad (eok.trans hf)).mv s2) he hd' hde h3⟩⟩⟩
        | true =>
          refine no rfl ⟨_, _, rfl, sg.trans s2, fun y hy => ?_⟩
          rw [p5] at hy
          rcases List.mem_append.mp hy with hy | hy
          · exact hp y hy
          · rw [List.mem_singleton.mp hy]
            exact eok.trans hf
    · obtain ⟨w9, w10, rfl, sg, hp⟩ := h
      have k4 := k4 (wrong_none hp)
      have ha := sg _ _ ha
      have sG := sG1.trans sg
      dsimp only
      have l1 := plen (f := "op") (v := .str op) (fs := []) (n := 0) (by decide)
      have l2 := plen (f := "world") (v := .str wd) l1
      have l3 := plen (f := "home") (v := n "home") l2
      have l4 := plen (f := "to") (v := n "to") l3
      have l5 := plen (f := "x") (v := n "x") l4
      have l6 := plen (f := "y") (v := n "y") l5
      have l7 := plen (f := "k") (v := n "k") l6
      have l8 := plen (f := "other") (v := n "other") l7
      refine ⟨_, rfl, _, rfl, a, _, dx, _, rfl, ha, S.cls, S.noat _ (by decide), by decide, ?_⟩
      refine ⟨_, rfl, _, rfl, a, _, dx, _, rfl, upd_same, S.cls, S.noat _ (by decide), by omega, ?_⟩
      refine ⟨_, rfl, _, rfl, a, _, dx, _, rfl, upd_same, S.cls, S.noat _ (by decide), by omega, ?_⟩
      refine ⟨_, rfl, _, rfl, a, _, dx, _, rfl, upd_same, S.cls, S.noat _ (by decide), by omega, ?_⟩
      refine ⟨_, rfl, _, rfl, a, _, dx, _, rfl, upd_same, S.cls, S.noat _ (by decide), by omega, ?_⟩
      refine ⟨_, rfl, _, rfl, a, _, dx, _, rfl, upd_same, S.cls, S.noat _ (by decide), by omega, ?_⟩
      refine ⟨_, rfl, _, rfl, a, _, dx, _, rfl, upd_same, S.cls, S.noat _ (by decide), by omega, ?_⟩
      refine ⟨_, rfl, _, rfl, a, _, dx, _, rfl, upd_same, S.cls, S.noat _ (by decide), by omega, ?_⟩
      refine k4 _ _ (fun x o e => ?_) upd_same ?_
      · have nx : x ≠ a := ne_of_none e na
        rw [upd_ne nx, upd_ne nx, upd_ne nx, upd_ne nx, upd_ne nx, upd_ne nx, upd_ne nx, upd_ne nx]
        exact sG _ _ e
      · refine ⟨fun f hf => ?_, ?_⟩
        rotate_left
        · repeat (first | rfl | refine (lkN (by decide +kernel)).trans ?_)
        rcases List.mem_cons.mp hf with rfl | hf
        · rw [scV_op]
          repeat (first | exact lkE | refine (lkN (by decide +kernel)).trans ?_)
        rcases List.mem_cons.mp hf with rfl | hf
        · rw [scV_wd]
          repeat (first | exact lkE | refine (lkN (by decide +kernel)).trans ?_)
        rw [scV_nk hf]
        rcases List.mem_cons.mp hf with rfl | hf
        · repeat (first | exact lkE | refine (lkN (by decide +kernel)).trans ?_)
        rcases List.mem_cons.mp hf with rfl | hf
        · repeat (first | exact lkE | refine (lkN (by decide +kernel)).trans ?_)
        rcases List.mem_cons.mp hf with rfl | hf
        · repeat (first | exact lkE | refine (lkN (by decide +kernel)).trans ?_)
        rcases List.mem_cons.mp hf with rfl | hf
        · repeat (first | exact lkE | refine (lkN (by decide +kernel)).trans ?_)
        rcases List.mem_cons.mp hf with rfl | hf
        · repeat (first | exact lkE | refine (lkN (by decide +kernel)).trans ?_)
        rw [List.mem_singleton.mp hf]
        exact lkE
end
end K23

set_option Elab.async false
set_option maxRecDepth 100000
set_option maxHeartbeats 2000000
namespace K23
open PySem PySem.Spec PyProof.Rows L2 He KX
abbrev sLOp : Stmt := top 30
abbrev sLWo : Stmt := top 31
abbrev sLUp : Stmt := top 33
/-- a list of texts is told -/
def LstOf (H : Hp) (l : List Str) (Q : VK) : Prop := ∀ L G, H L = none → Same H G → G L = some (.lst (l.map V.str)) → Q (.ref L) G
def spLWo : Sp := fun vs H Q _ => ∃ op : Str, vs = [.str op] ∧ LstOf H (wor op) Q
def spLOp : Sp := fun vs H Q _ => ∃ (p g : Addr), vs = [.ref p] ∧ Pool H p g ∧ ∀ op ∈ ops, ∀ G, KeptP p g H G → Pool G p g → Q (.str op) G
def spLUp : Sp := fun vs H Q _ => ∃ (p g : Addr) (lo hi : Int), vs = [.ref p, .int lo, .int hi] ∧ Pool H p g ∧ 0 ≤ lo ∧ lo ≤ hi ∧ hi ≤ G30 ∧ ∀ r G, lo ≤ r → r ≤ hi → KeptP p g H G → Pool G p g → Q (.int r) G
structure LsP (p g : Addr) (H : Hp) (a : Addr) (l : List Str) : Prop where
  np : a ≠ p
  ng : a ≠ g
  at_ : H a = some (.lst (l.map V.str))
theorem LsP.mv {p g a : Addr} {H G : Hp} {l : List Str} (h : LsP p g H a l) (s : Same H G) : LsP p g G a l := ⟨h.1, h.2, s _ _ h.3⟩
theorem LsP.mp {p g a : Addr} {H G : Hp} {l : List Str} (h : LsP p g H a l) (_ : Pool H p g) (k : KeptP p g H G) : LsP p g G a l := ⟨h.1, h.2, k _ _ h.1 h.2 h.3⟩
section
variable {P : Program} {w : World} {K : PySem.W.Frag} {mg : Str → Option Value} {base : Heap}
theorem scLWo : FnScope ["op"] ["op"] (defScope sLWo) := ⟨rfl, rfl, rfl, by decide +kernel, rfl, by decide +kernel, by decide +kernel⟩
theorem ok_lwo {f : Addr} {fd : FuncData} (F : FnP K "_law_worlds" sLWo f fd) : FnOk P w K mg base CX0 1 f fd ["op"] spLWo := by
  refine F.ok scLWo (fun vs H Q E h => ?_) (fun cdv A outer s H vs Q E hr h => ?_)
  · obtain ⟨op, rfl, _⟩ := h
    rfl
  · obtain ⟨op, rfl, k⟩ := h
    have nd := scLWo.nd
    refine ⟨_, PSs.nox (pss_cons (ps_if (pt_cmpR op_eq (pv 0) pe_str (nomark _))
(pss_one (ps_ret (pe_lst (pa_cons pe_str (pa_cons pe_str (pa_cons pe_str pa_nil))))))
pss_nil)
(pss_one (ps_ret (pe_ifExp (pt_cmpR op_in_seq (pv 0) (pe_tup (pa_cons pe_str (pa_cons pe_str pa_nil))) rfl) (pe_lst (pa_cons pe_str (pa_cons pe_str pa_nil))) (pe_lst (pa_cons pe_str pa_nil)))))), ?_⟩
    unfold wor at k
    refine ⟨_, rfl, rfl, _, rfl, ?_⟩
    by_cases c : op = "swap"
    · refine yes (decide_eq_true (congrArg V.str c)) ?_
      rw [if_pos c] at k
      refine ⟨(by show 3 ≤ sizeLine; decide), fun T nT => ?_⟩
      generalize e_G1 : upd _ T _ = G1
      have s_T := new_same e_G1 nT
      have f_T := new_at e_G1
      clear e_G1
      exact k _ _ nT s_T f_T
    · refine no (decide_eq_false fun e => c (by injection e)) ?_
      rw [if_neg c] at k
      refine ⟨_, rfl, (by show 2 ≤ sizeLine; decide), fun T nT => ?_⟩
      generalize e_G1 : upd _ T _ = G1
      have s_T := new_same e_G1 nT
      have f_T := new_at e_G1
      clear e_G1
      refine ⟨T, (["move", "send"] : List Str).map V.str, rfl, .inr (SqT.of f_T), rfl, rfl, _, rfl, ?_⟩
      rw [if_neg Bool.false_ne_true, inV_str]
      have e : (op ∈ (["move", "send"] : List Str)) ↔ op ∈ (["move", "send", "swap"] : List Str) := by
        constructor
        · intro h
          rcases List.mem_cons.mp h with rfl | h
          · decide
          · rw [List.mem_singleton.mp h]; decide
        · intro h
          rcases List.mem_cons.mp h with rfl | h
          · decide
          rcases List.mem_cons.mp h with rfl | h
          · decide
          · exact absurd (List.mem_singleton.mp h) c
      by_cases c2 : op ∈ (["move", "send"] : List Str)
      · refine yes (decide_eq_true c2) ?_
        rw [if_pos (e.mp c2)] at k
        refine ⟨(by show 2 ≤ sizeLine; decide), fun L nL => ?_⟩
        have nLH := s_T.free nL
        generalize e_G2 : upd _ L _ = G2
        have s_L := new_same e_G2 nL
        have f_L := new_at e_G2
        clear e_G2
        have s_T := s_T.mv s_L
        exact k _ _ nLH s_T f_L
      · refine no (decide_eq_false c2) ?_
        rw [if_neg (fun h => c2 (e.mpr h))] at k
        refine ⟨(by show 1 ≤ sizeLine; decide), fun L nL => ?_⟩
        have nLH := s_T.free nL
        generalize e_G2 : upd _ L _ = G2
        have s_L := new_same e_G2 nL
        have f_L := new_at e_G2
        clear e_G2
        have s_T := s_T.mv s_L
        exact k _ _ nLH s_T f_L
theorem scLOp : FnScope ["pool", "ops"] ["pool"] (defScope sLOp) := ⟨rfl, rfl, rfl, by decide +kernel, rfl, by decide +kernel, by decide +kernel⟩
theorem ok_lop {f fD : Addr} {fd fdD : FuncData} (F : FnP K "_law_op" sLOp f fd) (GD : FnOk P w K mg base CX0 1 fD fdD ["pool", "limit"] spDrawP) (bD : Binds K fdD ["pool", "limit"] []) (kD : PySem.W.keepIn K (.ref fD) = true) (gD : mg "_law_draw" = some (.ref fD)) : FnOk P w K mg base CX0 2 f fd ["pool"] spLOp := by
  refine F.ok scLOp (fun vs H Q E h => ?_) (fun cdv A outer s H vs Q E hr h => ?_)
  · obtain ⟨p, g, rfl, _⟩ := h
    rfl
  · obtain ⟨p, g, rfl, hB, k⟩ := h
    have nd := scLOp.nd
    have hr1 := hr.mono (j := 1) (by decide)
    refine ⟨_, PSs.nox (pss_cons (ps_set (i := 1) nd rfl (Or.inl rfl) (pe_lst (pa_cons pe_str (pa_cons pe_str (pa_cons pe_str (pa_cons pe_str (pa_cons pe_str (pa_cons pe_str (pa_cons pe_str (pa_cons pe_str (pa_cons pe_str pa_nil)))))))))))
(pss_one (ps_ret (pe_ix ix_list (pe_op op_cat (pv 1) (pe_lst (pa_cons pe_str (pa_cons pe_str (pa_cons pe_str pa_nil))))) (pe_call GD hr1 (by rfl) gD kD bD .nil pass0 (pa_cons (pv 0) (pa_cons pe_int pa_nil))) (fun _ _ => rfl))))), ?_⟩
    refine ⟨(by show 9 ≤ sizeLine; decide), fun A nA => ?_⟩
    generalize e_G1 : upd _ A _ = G1
    have s_A := new_same e_G1 nA
    have f_A := new_at e_G1
    clear e_G1
    have hB := hB.mv s_A
    refine ⟨_, rfl, (by show 3 ≤ sizeLine; decide), fun B nB => ?_⟩
    generalize e_G2 : upd _ B _ = G2
    have s_B := new_same e_G2 nB
    have f_B := new_at e_G2
    clear e_G2
    have hB := hB.mv s_B
    have f_A := f_A.mv s_B
    refine ⟨A, B, _, _, rfl, rfl, f_A, f_B, (by show 9 + 3 ≤ sizeLine; decide), fun C nC => ?_⟩
    obtain ⟨nCp, nCg⟩ := hB.ne nC
    generalize e_G3 : upd _ C _ = G3
    have s_C := new_same e_G3 nC
    have f_C := new_at e_G3
    clear e_G3
    have hB := hB.mv s_C
    have k3 := ((KeptP.refl p g H).same s_A).same s_B |>.same s_C
    dsimp only [gName, List.set]
    refine ⟨_, rfl, p, g, _, rfl, hB, by decide, by decide, fun q G4 q0 q1 k4 hB4 => ?_⟩
    obtain ⟨j, rfl⟩ : ∃ j : Nat, q = j := ⟨q.toNat, by omega⟩
    have hj : j < 12 := by omega
    have all : ∀ z ∈ ((["put", "add", "take", "move", "send", "top", "bottom", "up", "down"] : List Str) ++ (["swap", "move", "swap"] : List Str)), z ∈ ops := by decide +kernel
    obtain ⟨z, hz⟩ : ∃ z, ((["put", "add", "take", "move", "send", "top", "bottom", "up", "down"] : List Str) ++ (["swap", "move", "swap"] : List Str))[j]? = some z := ⟨_, List.getElem?_eq_getElem hj⟩
    have hx : (((["put", "add", "take", "move", "send", "top", "bottom", "up", "down"] : List Str) ++ (["swap", "move", "swap"] : List Str)).map V.str)[j]? = some (.str z) := by rw [List.getElem?_map, hz]; rfl
    exact ⟨C, _, _, _, rfl, rfl, SqL.of (k4 _ _ nCp nCg f_C), atI_nat hx, k z (all z (List.mem_of_getElem? hz)) G4 (k3.trans k4) hB4⟩
theorem scLUp : FnScope ["pool", "low", "high", "chosen"] ["pool", "low", "high"] (defScope sLUp) := ⟨rfl, rfl, rfl, by decide +kernel, rfl, by decide +kernel, by decide +kernel⟩
theorem ok_lup {f fD : Addr} {fd fdD : FuncData} (F : FnP K "_law_upto" sLUp f fd) (GD : FnOk P w K mg base CX0 1 fD fdD ["pool", "limit"] spDrawP) (bD : Binds K fdD ["pool", "limit"] []) (kD : PySem.W.keepIn K (.ref fD) = true) (gD : mg "_law_draw" = some (.ref fD)) (n_min : mg "min" = none) (n_max : mg "max" = none) : FnOk P w K mg base CX0 2 f fd ["pool", "low", "high"] spLUp := by
  refine F.ok scLUp (fun vs H Q E h => ?_) (fun cdv A outer s H vs Q E hr h => ?_)
  · obtain ⟨p, g, lo, hi, rfl, _⟩ := h
    rfl
  · obtain ⟨p, g, lo, hi, rfl, hB, l0, lh, h30, k⟩ := h
    have nd := scLUp.nd
    have hr1 := hr.mono (j := 1) (by decide)
    have g30 := g30
    refine ⟨_, PSs.nox (pss_cons (ps_set (i := 3) nd rfl (Or.inl rfl) (pe_call GD hr1 (by rfl) gD kD bD .nil pass0 (pa_cons (pv 0) (pa_cons pe_int pa_nil))))
(pss_cons (ps_if (pt_cmpR op_eq (pv 3) pe_int (nomark _))
(pss_one (ps_ret (pe_callB (call_min2 rfl) (by rfl) n_min (by decide +kernel) (pa_cons (pv 2) (pa_cons (pe_op op_add (pv 1) (pe_call GD hr1 (by rfl) gD kD bD .nil pass0 (pa_cons (pv 0) (pa_cons pe_int pa_nil)))) pa_nil)))))
pss_nil)
(pss_cons (ps_if (pt_cmpR op_eq (pv 3) pe_int (nomark _))
(pss_one (ps_ret (pe_callB (call_max2 rfl) (by rfl) n_max (by decide +kernel) (pa_cons (pv 1) (pa_cons (pe_op op_sub (pv 2) (pe_call GD hr1 (by rfl) gD kD bD .nil pass0 (pa_cons (pv 0) (pa_cons pe_int pa_nil)))) pa_nil)))))
pss_nil)
(pss_cons (ps_if (pt_cmpR op_lt (pv 3) pe_int (nomark _))
(pss_one (ps_ret (pe_ix ix_list (pe_lst (pa_cons (pv 1) (pa_cons (pv 2) pa_nil))) (pv 3) (fun _ _ => rfl))))
pss_nil)
(pss_one (ps_ret (pe_op op_add (pv 1) (pe_call GD hr1 (by rfl) gD kD bD .nil pass0 (pa_cons (pv 0) (pa_cons (pe_op op_add (pe_op op_sub (pv 2) (pv 1)) pe_int) pa_nil)))))))))), ?_⟩
    refine ⟨_, rfl, p, g, _, rfl, hB, by decide, by decide, fun c G1 c0 c6 k1 hB1 => ?_⟩
    refine ⟨_, rfl, rfl, _, rfl, ?_⟩
    by_cases e2 : c = 2
    · refine yes (decide_eq_true (congrArg V.int e2)) ?_
      refine ⟨_, rfl, _, rfl, _, rfl, p, g, _, rfl, hB1, by decide, by decide, fun q G2 q0 q1 k2 hB2 => ?_⟩
      refine ⟨_, _, rfl, rfl, _, _, rfl, k _ G2 ?_ ?_ (k1.trans k2) hB2⟩
      · split <;> omega
      · split <;> omega
    refine no (decide_eq_false fun e => e2 (by injection e)) ?_
    refine ⟨_, rfl, rfl, _, rfl, ?_⟩
    by_cases e3 : c = 3
    · refine yes (decide_eq_true (congrArg V.int e3)) ?_
      refine ⟨_, rfl, _, rfl, _, rfl, p, g, _, rfl, hB1, by decide, by decide, fun q G2 q0 q1 k2 hB2 => ?_⟩
      refine ⟨_, _, rfl, rfl, _, _, rfl, k _ G2 ?_ ?_ (k1.trans k2) hB2⟩
      · split <;> omega
      · split <;> omega
    refine no (decide_eq_false fun e => e3 (by injection e)) ?_
    refine ⟨_, rfl, _, _, rfl, rfl, _, rfl, ?_⟩
    by_cases e4 : c < 2
    · refine yes (decide_eq_true e4) ?_
      refine ⟨_, rfl, _, rfl, (by show 2 ≤ sizeLine; decide), fun L nL => ?_⟩
      generalize e_G2 : upd _ L _ = G2
      have s_L := new_same e_G2 nL
      have f_L := new_at e_G2
      clear e_G2
      have hB1 := hB1.mv s_L
      have k2 := k1.same s_L
      obtain ⟨j, rfl⟩ : ∃ j : Nat, c = j := ⟨c.toNat, by omega⟩
      match j, e4 with
      | 0, _ => exact ⟨_, rfl, L, _, _, _, rfl, rfl, SqL.of f_L, atI_nat (j := 0) rfl, k lo _ (Int.le_refl _) lh k2 hB1⟩
      | 1, _ => exact ⟨_, rfl, L, _, _, _, rfl, rfl, SqL.of f_L, atI_nat (j := 1) rfl, k hi _ lh (Int.le_refl _) k2 hB1⟩
    · refine no (decide_eq_false e4) ?_
      refine ⟨_, rfl, _, rfl, _, rfl, _, rfl, _, _, rfl, rfl, _, _, rfl, rfl, p, g, _, rfl, hB1, ?_, ?_, fun q G2 q0 q1 k2 hB2 => ?_⟩
      · show 0 < hi - lo + 1
        omega
      · show (hi - lo + 1).natAbs < 2 ^ 200
        omega
      · have q1 : q < hi - lo + 1 := q1
        exact ⟨_, _, rfl, rfl, k _ G2 (by omega) (by omega) (k1.trans k2) hB2⟩
end
end K23

set_option Elab.async false
set_option maxRecDepth 100000
set_option maxHeartbeats 2000000
namespace K23
open PySem PySem.Spec PyProof.Rows L2 He KX
abbrev sLNu : Stmt := top 34
/-- the dict of the numbers -/
def nu6 (a b c d e f : V) : List (Key × V) := [(.inr "home", a), (.inr "to", b), (.inr "x", c), (.inr "y", d), (.inr "k", e), (.inr "other", f)]
def ni6 (h t x y k o : Int) : List (Key × V) := nu6 (.int h) (.int t) (.int x) (.int y) (.int k) (.int o)
theorem put_home {a b c d e f v : V} : putK (nu6 a b c d e f) (.inr "home") v = nu6 v b c d e f := by kernel_rfl
theorem put_to {a b c d e f v : V} : putK (nu6 a b c d e f) (.inr "to") v = nu6 a v c d e f := by kernel_rfl
theorem put_x {a b c d e f v : V} : putK (nu6 a b c d e f) (.inr "x") v = nu6 a b v d e f := by kernel_rfl
theorem put_y {a b c d e f v : V} : putK (nu6 a b c d e f) (.inr "y") v = nu6 a b c v e f := by kernel_rfl
theorem put_k {a b c d e f v : V} : putK (nu6 a b c d e f) (.inr "k") v = nu6 a b c d v f := by kernel_rfl
theorem put_other {a b c d e f v : V} : putK (nu6 a b c d e f) (.inr "other") v = nu6 a b c d e v := by kernel_rfl
theorem get_home {a b c d e f : V} : valV (nu6 a b c d e f) (.inr "home") = some a := by kernel_rfl
theorem get_to {a b c d e f : V} : valV (nu6 a b c d e f) (.inr "to") = some b := by kernel_rfl
theorem get_x {a b c d e f : V} : valV (nu6 a b c d e f) (.inr "x") = some c := by kernel_rfl
theorem get_y {a b c d e f : V} : valV (nu6 a b c d e f) (.inr "y") = some d := by kernel_rfl
theorem get_k {a b c d e f : V} : valV (nu6 a b c d e f) (.inr "k") = some e := by kernel_rfl
theorem get_other {a b c d e f : V} : valV (nu6 a b c d e f) (.inr "other") = some f := by kernel_rfl
theorem merge6 {a b c d e f : V} : mergeK [] (nu6 a b c d e f) = nu6 a b c d e f := by kernel_rfl
/-- a dict beside the pool -/
structure DcP (p g : Addr) (H : Hp) (a : Addr) (l : List (Key × V)) : Prop where
  np : a ≠ p
  ng : a ≠ g
  at_ : H a = some (.dK l)
theorem DcP.mv {p g a : Addr} {H G : Hp} {l : List (Key × V)} (h : DcP p g H a l) (s : Same H G) : DcP p g G a l := ⟨h.1, h.2, s _ _ h.3⟩
theorem DcP.mp {p g a : Addr} {H G : Hp} {l : List (Key × V)} (h : DcP p g H a l) (_ : Pool H p g) (k : KeptP p g H G) : DcP p g G a l := ⟨h.1, h.2, k _ _ h.1 h.2 h.3⟩
theorem pool_off {H : Hp} {p g a : Addr} {o u : HO} (hB : Pool H p g) (e : H a = some u) (n : ∀ xs, u ≠ .lst xs) : Pool (upd H a o) p g := by
  obtain ⟨s, c, m, gs, ss, h1, h2, h3, h4, h5, h6, h7, h8, h9⟩ := hB
  have q : ∀ {b : Addr} {xs : List V}, H b = some (.lst xs) → b ≠ a := fun hb hab => by
    subst hab
    rw [e] at hb
    exact n _ (Option.some.inj hb)
  exact ⟨s, c, m, gs, ss, (upd_ne (q h1)).trans h1, h2, h3, h4, (upd_ne (q h5)).trans h5, h6, h7, (upd_ne (q h8)).trans h8, h9⟩
/-- the pool, what stood at first, and the dict that is being filled -/
structure NuS (p g : Addr) (H G : Hp) (D : Addr) (l : List (Key × V)) : Prop where
  no : H D = none
  po : Pool G p g
  kp : KeptP p g H G
  dc : DcP p g G D l
theorem NuS.draw {p g D : Addr} {H G G' : Hp} {l : List (Key × V)} (h : NuS p g H G D l) (k : KeptP p g G G') (hB : Pool G' p g) : NuS p g H G' D l := ⟨h.no, hB, h.kp.trans k, h.dc.mp h.po k⟩
theorem NuS.put {p g D : Addr} {H G : Hp} {l l' : List (Key × V)} (h : NuS p g H G D l) : NuS p g H (upd G D (.dK l')) D l' :=
  ⟨h.no, pool_off h.po h.dc.at_ nofun, fun x o n1 n2 e => (upd_ne (ne_of_none e h.no)).trans (h.kp x o n1 n2 e), ⟨h.dc.np, h.dc.ng, upd_same⟩⟩
theorem NuS.mv {p g D : Addr} {H G G' : Hp} {l : List (Key × V)} (h : NuS p g H G D l) (s : Same G G') : NuS p g H G' D l := ⟨h.no, h.po.mv s, h.kp.same s, h.dc.mv s⟩
section
variable {G : Hp} {D : Addr} {a b c d e f v : V}
theorem dg_home (q : G D = some (.dK (nu6 a b c d e f))) : DGet G D (.str "home") (some a) := .inl ⟨_, .inr "home", .inl q, rfl, get_home.symm⟩
theorem dg_to (q : G D = some (.dK (nu6 a b c d e f))) : DGet G D (.str "to") (some b) := .inl ⟨_, .inr "to", .inl q, rfl, get_to.symm⟩
theorem dg_x (q : G D = some (.dK (nu6 a b c d e f))) : DGet G D (.str "x") (some c) := .inl ⟨_, .inr "x", .inl q, rfl, get_x.symm⟩
theorem dg_y (q : G D = some (.dK (nu6 a b c d e f))) : DGet G D (.str "y") (some d) := .inl ⟨_, .inr "y", .inl q, rfl, get_y.symm⟩
theorem dg_k (q : G D = some (.dK (nu6 a b c d e f))) : DGet G D (.str "k") (some e) := .inl ⟨_, .inr "k", .inl q, rfl, get_k.symm⟩
theorem dg_other (q : G D = some (.dK (nu6 a b c d e f))) : DGet G D (.str "other") (some f) := .inl ⟨_, .inr "other", .inl q, rfl, get_other.symm⟩
theorem dp_home (q : G D = some (.dK (nu6 a b c d e f))) : DPut G D (.str "home") v (upd G D (.dK (nu6 v b c d e f))) := .inl ⟨_, .inr "home", q, rfl, (by show 6 < sizeLine; decide), by rw [put_home]⟩
theorem dp_to (q : G D = some (.dK (nu6 a b c d e f))) : DPut G D (.str "to") v (upd G D (.dK (nu6 a v c d e f))) := .inl ⟨_, .inr "to", q, rfl, (by show 6 < sizeLine; decide), by rw [put_to]⟩
theorem dp_x (q : G D = some (.dK (nu6 a b c d e f))) : DPut G D (.str "x") v (upd G D (.dK (nu6 a b v d e f))) := .inl ⟨_, .inr "x", q, rfl, (by show 6 < sizeLine; decide), by rw [put_x]⟩
theorem dp_y (q : G D = some (.dK (nu6 a b c d e f))) : DPut G D (.str "y") v (upd G D (.dK (nu6 a b c v e f))) := .inl ⟨_, .inr "y", q, rfl, (by show 6 < sizeLine; decide), by rw [put_y]⟩
theorem dp_k (q : G D = some (.dK (nu6 a b c d e f))) : DPut G D (.str "k") v (upd G D (.dK (nu6 a b c d v f))) := .inl ⟨_, .inr "k", q, rfl, (by show 6 < sizeLine; decide), by rw [put_k]⟩
theorem dp_other (q : G D = some (.dK (nu6 a b c d e f))) : DPut G D (.str "other") v (upd G D (.dK (nu6 a b c d e v))) := .inl ⟨_, .inr "other", q, rfl, (by show 6 < sizeLine; decide), by rw [put_other]⟩
end
/-- the numbers as a function of the name -/
def n6 {α : Type} (h t x y k o : α) (z : Str) : α := if z = "home" then h else if z = "to" then t else if z = "x" then x else if z = "y" then y else if z = "k" then k else o
section
variable {α : Type} {h t x y k o : α}
theorem n6_home : n6 h t x y k o "home" = h := if_pos rfl
theorem n6_to : n6 h t x y k o "to" = t := (if_neg (by decide +kernel)).trans (if_pos rfl)
theorem n6_x : n6 h t x y k o "x" = x := (if_neg (by decide +kernel)).trans ((if_neg (by decide +kernel)).trans (if_pos rfl))
theorem n6_y : n6 h t x y k o "y" = y := (if_neg (by decide +kernel)).trans ((if_neg (by decide +kernel)).trans ((if_neg (by decide +kernel)).trans (if_pos rfl)))
theorem n6_k : n6 h t x y k o "k" = k := (if_neg (by decide +kernel)).trans ((if_neg (by decide +kernel)).trans ((if_neg (by decide +kernel)).trans ((if_neg (by decide +kernel)).trans (if_pos rfl))))
theorem n6_other : n6 h t x y k o "other" = o := (if_neg (by decide +kernel)).trans ((if_neg (by decide +kernel)).trans ((if_neg (by decide +kernel)).trans ((if_neg (by decide +kernel)).trans (if_neg (by decide +kernel)))))
end
/-- what is drawn keeps these -/
structure NuOk (op wd : Str) (m h t x y k o : Int) : Prop where
  h1 : newB op = true → h = 0 ∧ x = 0
  h2 : newB op = false → 1 + bi (twoB op wd) ≤ h ∧ h ≤ m ∧ 1 ≤ x ∧ x ≤ h
  t1 : (newB op || apaB wd) = true → bi (decide (op = "swap")) ≤ t ∧ t ≤ m
  t2 : (newB op || apaB wd) = false → t = 0
  y1 : (decide (op = "swap") && apaB wd) = true → 1 ≤ y ∧ y ≤ t
  y2 : twoB op wd = true → 1 ≤ y ∧ y ≤ h ∧ y ≠ x
  y3 : (decide (op = "swap") && apaB wd) = false → twoB op wd = false → y = 0
  k1 : kApB op wd = true → 1 ≤ k ∧ k ≤ t + 1 ∧ k ≤ G30
  k2 : kWiB op wd = true → 1 ≤ k ∧ k ≤ h
  k3 : kApB op wd = false → kWiB op wd = false → k = 0
  o1 : 0 ≤ o ∧ o ≤ m
theorem inL_ok {v lo hi : Int} (h1 : lo ≤ v) (h2 : v ≤ hi) (h3 : v ≤ G30) : inL (.int v) lo hi = true := by
  unfold inL iv
  rw [decide_eq_true h1, decide_eq_true h2, decide_eq_true h3]; rfl
theorem bi_le (b : Bool) : 0 ≤ bi b ∧ bi b ≤ 1 := by cases b <;> decide
theorem bi_and (a b : Bool) : bi (a && b) ≤ bi a := by cases a <;> cases b <;> decide
theorem bflags : ∀ op ∈ ops, ∀ wd ∈ wor op, (ownB op wd = ((decide (op = "swap") && apaB wd) || twoB op wd)) ∧ ((decide (op = "swap") && apaB wd) = true → apaB wd = true ∧ twoB op wd = false ∧ (decide (wd = "within")) = false) ∧ (twoB op wd = true → apaB wd = false) ∧ (decide (op ∈ (["put", "move"] : List Str)) = (kApB op wd || kWiB op wd)) ∧ (kApB op wd = true → kWiB op wd = false) ∧ (kWiB op wd = true → newB op = false) ∧ (kApB op wd = true → (newB op || apaB wd) = true) ∧ ((decide (op = "swap") && apaB wd) = true → newB op = false) ∧ (twoB op wd = true → newB op = false) := by decide +kernel
theorem nu_good {op : Str} (hop : op ∈ ops) {wd : Str} (hwd : wd ∈ wor op) {m h t x y k o : Int} (hm : m ≤ G30) (N : NuOk op wd m h t x y k o) : wrong (okP op wd fun z => .int (n6 h t x y k o z)) = none := by
  rw [ok_eq hop hwd]
  obtain ⟨s1, s2, s3, s4, s5, s6, s7, s8, s9, s10, s11, s12, s13, s14, s15⟩ := sne
  obtain ⟨b1, b2, b3, b4, b5, b6, b7, b8, b9⟩ := bflags op hop wd hwd
  have gg := g30
  have hh : newB op = true ∨ newB op = false := by cases newB op <;> simp
  have h0 : 0 ≤ h ∧ h ≤ G30 := by
    rcases hh with q | q
    · obtain ⟨e, _⟩ := N.h1 q; omega
    · obtain ⟨e, e2, _⟩ := N.h2 q
      have := bi_le (twoB op wd)
      omega
  have t0 : 0 ≤ t ∧ t ≤ G30 := by
    cases q : newB op || apaB wd with
    | true =>
      obtain ⟨e, e2⟩ := N.t1 q
      have := bi_le (decide (op = "swap"))
      omega
    | false => have := N.t2 q; omega
  refine wrong_none fun z hz => ?_
  rcases List.mem_cons.mp hz with rfl | hz
  · unfold okL
    rw [if_pos rfl]; dsimp only; rw [n6_home]
    rcases hh with q | q
    · obtain ⟨e, _⟩ := N.h1 q
      rw [q, if_pos rfl, if_pos rfl]
      exact inL_ok (by omega) (by omega) (by omega)
    · obtain ⟨e, e2, _⟩ := N.h2 q
      rw [q, if_neg Bool.false_ne_true, if_neg Bool.false_ne_true]
      exact inL_ok e (by omega) (by omega)
  rcases List.mem_cons.mp hz with rfl | hz
  · unfold okL
    rw [if_neg s1, if_pos rfl]; dsimp only; rw [n6_to]
    have ba := bi_and (decide (op = "swap")) (apaB wd)
    cases q : newB op || apaB wd with
    | true =>
      obtain ⟨e, e2⟩ := N.t1 q
      exact inL_ok (by omega) (by show t ≤ G30; omega) (by omega)
    | false =>
      have e := N.t2 q
      obtain ⟨q1, q2⟩ := Bool.or_eq_false_iff.mp q
      rw [q2, Bool.and_false]
      exact inL_ok (by show (0 : Int) ≤ t; omega) (by show t ≤ 0; omega) (by omega)
  rcases List.mem_cons.mp hz with rfl | hz
  · unfold okL
    rw [if_neg s2, if_neg s3, if_pos rfl]; dsimp only; rw [n6_x, n6_home]
    rcases hh with q | q
    · obtain ⟨e, e2⟩ := N.h1 q
      rw [q]
      exact inL_ok (by show (0 : Int) ≤ x; omega) (by show x ≤ h; omega) (by omega)
    · obtain ⟨e, e2, e3, e4⟩ := N.h2 q
      rw [q]
      exact inL_ok (by show (1 : Int) ≤ x; omega) (by show x ≤ h; omega) (by omega)
  rcases List.mem_cons.mp hz with rfl | hz
  · unfold okL
    rw [if_neg s4, if_neg s5, if_neg s6, if_pos rfl]; simp only [n6_x, n6_home, n6_to, n6_y]
    unfold mostY
    rw [b1]
    cases q : decide (op = "swap") && apaB wd with
    | true =>
      obtain ⟨c1, c2, c3⟩ := b2 q
      obtain ⟨e, e2⟩ := N.y1 q
      rw [c1, c2, c3]
      exact Bool.and_eq_true_iff.mpr ⟨inL_ok (show bi (true || false) ≤ y from e) (show y ≤ t from e2) (by omega), rfl⟩
    | false =>
      cases q2 : twoB op wd with
      | true =>
        obtain ⟨e, e2, e3⟩ := N.y2 q2
        rw [b3 q2]
        refine Bool.and_eq_true_iff.mpr ⟨inL_ok (show bi (false || true) ≤ y from e) (show y ≤ h from e2) (by omega), ?_⟩
        show (!(true && (decide (wd = "within") && decide (y = x)))) = true
        rw [decide_eq_false e3, Bool.and_false]
        rfl
      | false =>
        have e := N.y3 q q2
        exact Bool.and_eq_true_iff.mpr ⟨inL_ok (show bi (false || false) ≤ y by rw [e]; decide) (show y ≤ 0 by omega) (by omega), rfl⟩
  rcases List.mem_cons.mp hz with rfl | hz
  · unfold okL
    rw [if_neg s7, if_neg s8, if_neg s9, if_neg s10, if_pos rfl]; dsimp only; rw [n6_home, n6_to, n6_k, b4]
    unfold mostK
    cases q : kApB op wd with
    | true =>
      obtain ⟨e, e2, e3⟩ := N.k1 q
      rw [b5 q]
      exact inL_ok e e2 e3
    | false =>
      cases q2 : kWiB op wd with
      | true =>
        obtain ⟨e, e2⟩ := N.k2 q2
        exact inL_ok e e2 (by omega)
      | false =>
        have e := N.k3 q q2
        exact inL_ok (show (0 : Int) ≤ k by omega) (show k ≤ 0 by omega) (by omega)
  rw [List.mem_singleton.mp hz]
  unfold okL
  rw [if_neg s11, if_neg s12, if_neg s13, if_neg s14, if_neg s15]; dsimp only; rw [n6_other]
  obtain ⟨e, e2⟩ := N.o1
  exact inL_ok e (by omega) (by omega)
def spLNu : Sp := fun vs H Q _ => ∃ (p g : Addr) (op wd : Str) (m : Int), vs = [.ref p, .str op, .str wd, .int m] ∧ Pool H p g ∧ op ∈ ops ∧ wd ∈ wor op ∧ 2 ≤ m ∧ m ≤ G30 ∧
  ∀ D G h t x y k o, NuS p g H G D (ni6 h t x y k o) → NuOk op wd m h t x y k o → Q (.ref D) G
section
variable {P : Program} {w : World} {K : PySem.W.Frag} {mg : Str → Option Value} {base : Heap}
theorem tw_it {σ : L2.St} {H : Hp} {Q : VK} {i j : Nat} {op wd : Str} (hi : σ[i]? = some (some (.str op))) (hj : σ[j]? = some (some (.str wd))) (k : Q (.bl (twoB op wd)) H) : tAndV (tOp rEq (tVar i) (tC (V.str "swap"))) (tOp rEq (tVar j) (tC (V.str "within"))) σ H Q := by
  unfold twoB at k
  refine ⟨_, hi, rfl, _, rfl, ?_⟩
  by_cases c : op = "swap"
  · refine yes (decide_eq_true (congrArg V.str c)) ?_
    rw [decide_eq_true c] at k
    refine ⟨_, hj, rfl, ?_⟩
    rw [dstr]
    exact k
  · refine no (decide_eq_false fun e => c (by injection e)) ?_
    rw [decide_eq_false c] at k
    exact k
theorem and_it {σ : L2.St} {H : Hp} {Q : Bool → Hp → Prop} {i j : Nat} {op wd A B : Str} (hi : σ[i]? = some (some (.str op))) (hj : σ[j]? = some (some (.str wd))) (k : Q (decide (op = A) && decide (wd = B)) H) : tAnd (tTest (tOp rEq (tVar i) (tC (V.str A)))) (tTest (tOp rEq (tVar j) (tC (V.str B)))) σ H Q := by
  refine ⟨_, hi, rfl, _, rfl, ?_⟩
  by_cases c : op = A
  · refine yes (decide_eq_true (congrArg V.str c)) ?_
    rw [decide_eq_true c] at k
    refine ⟨_, hj, rfl, _, rfl, ?_⟩
    rw [dstr]
    exact k
  · refine no (decide_eq_false fun e => c (by injection e)) ?_
    rw [decide_eq_false c] at k
    exact k
theorem kap_it {σ : L2.St} {H : Hp} {Q : Bool → Hp → Prop} {i j : Nat} {op wd : Str} (hi : σ[i]? = some (some (.str op))) (hj : σ[j]? = some (some (.str wd))) (k : Q (kApB op wd) H) : tOr (tTest (tOp rEq (tVar i) (tC (V.str "put")))) (tAnd (tTest (tOp rEq (tVar i) (tC (V.str "move")))) (tTest (tOp rEq (tVar j) (tC (V.str "apart"))))) σ H Q := by
  unfold kApB at k
  refine ⟨_, hi, rfl, _, rfl, ?_⟩
  by_cases c : op = "put"
  · refine yes (decide_eq_true (congrArg V.str c)) ?_
    rw [decide_eq_true c] at k
    exact k
  · refine no (decide_eq_false fun e => c (by injection e)) ?_
    rw [decide_eq_false c] at k
    exact and_it hi hj k
theorem nap_it {K : PySem.W.Frag} {σ : L2.St} {H : Hp} {Q : Bool → Hp → Prop} {i j : Nat} {op wd : Str} (hi : σ[i]? = some (some (.str op))) (hj : σ[j]? = some (some (.str wd))) (k : ∀ G, Same H G → Q (newB op || apaB wd) G) : tOr (tTest (tOp (rIn K false) (tVar i) (tTup (tCons (tC (V.str "put")) (tCons (tC (V.str "add")) tNil))))) (tTest (tOp rEq (tVar j) (tC (V.str "apart")))) σ H Q := by
  refine ⟨_, hi, (by show 2 ≤ sizeLine; decide), fun T nT => ?_⟩
  generalize e_G1 : upd _ T _ = G1
  have s_T := new_same e_G1 nT
  have f_T := new_at e_G1
  clear e_G1
  have k := k G1 s_T
  unfold newB apaB at k
  refine ⟨T, newL.map V.str, rfl, .inr (SqT.of f_T), rfl, rfl, _, rfl, ?_⟩
  rw [if_neg Bool.false_ne_true, inV_str]
  by_cases c : op ∈ newL
  · refine yes (decide_eq_true c) ?_
    rw [decide_eq_true c] at k
    exact k
  · refine no (decide_eq_false c) ?_
    rw [decide_eq_false c] at k
    refine ⟨_, hj, rfl, _, rfl, ?_⟩
    rw [dstr]
    exact k
theorem scLNu : FnScope ["pool", "op", "world", "most", "n", "two"] ["pool", "op", "world", "most"] (defScope sLNu) := ⟨rfl, rfl, rfl, by decide +kernel, rfl, by decide +kernel, by decide +kernel⟩
theorem ok_lnu {f fU : Addr} {fd fdU : FuncData} (F : FnP K "_law_numbers" sLNu f fd) (GU : FnOk P w K mg base CX0 2 fU fdU ["pool", "low", "high"] spLUp) (bU : Binds K fdU ["pool", "low", "high"] []) (kU : PySem.W.keepIn K (.ref fU) = true) (gU : mg "_law_upto" = some (.ref fU))
    (n_int : mg "int" = none) (n_min : mg "min" = none) : FnOk P w K mg base CX0 3 f fd ["pool", "op", "world", "most"] spLNu := by
  refine F.ok scLNu (fun vs H Q E h => ?_) (fun cdv A outer s H vs Q E hr h => ?_)
  · obtain ⟨p, g, op, wd, m, rfl, _⟩ := h
    rfl
  · obtain ⟨p, g, op, wd, m, rfl, hB, hop, hwd, m2, m30, kk⟩ := h
    have nd := scLNu.nd
    have hr2 := hr.mono (j := 2) (by decide)
    have hu := Nat.lt_of_le_of_lt (Nat.add_le_add_left (by decide : 1 ≤ 64) _) hr.units
    refine ⟨_, PSs.nox (pss_cons (ps_set (i := 4) nd rfl (Or.inl rfl) (pe_disp (pps_cons pe_str pe_int (pps_cons pe_str pe_int (pps_cons pe_str pe_int (pps_cons pe_str pe_int (pps_cons pe_str pe_int (pps_cons pe_str pe_int pps_nil)))))) rfl rfl (by decide) (by decide)))
(pss_cons (ps_set (i := 5) nd rfl (Or.inl rfl) (pe_callTy call_int1 (by rfl) n_int (by decide +kernel) (pa_cons (pe_and (pe_cmpR op_eq (pv 1) pe_str (nomark _)) (pe_one (pe_cmpR op_eq (pv 2) pe_str (nomark _)))) pa_nil)))
(pss_cons (ps_if (pt_cmpR op_notIn_seq (pv 1) (pe_tup (pa_cons pe_str (pa_cons pe_str pa_nil))) rfl)
(pss_cons (ps_dput hu (pv 4) pe_str (pe_call GU hr2 (by rfl) gU kU bU .nil pass0 (pa_cons (pv 0) (pa_cons (pe_op op_add pe_int (pv 5)) (pa_cons (pv 3) pa_nil)))) rfl)
(pss_one (ps_dput hu (pv 4) pe_str (pe_call GU hr2 (by rfl) gU kU bU .nil pass0 (pa_cons (pv 0) (pa_cons pe_int (pa_cons (pe_dget hu (pv 4) pe_str (fun _ _ => rfl)) pa_nil)))) rfl)))
pss_nil)
(pss_cons (ps_if (PW.pt (pw_or (pt_cmpR op_in_seq (pv 1) (pe_tup (pa_cons pe_str (pa_cons pe_str pa_nil))) rfl) (pw_or1 (pt_cmpR op_eq (pv 2) pe_str (nomark _)))))
(pss_one (ps_dput hu (pv 4) pe_str (pe_call GU hr2 (by rfl) gU kU bU .nil pass0 (pa_cons (pv 0) (pa_cons (pe_callTy call_int1 (by rfl) n_int (by decide +kernel) (pa_cons (pe_cmpR op_eq (pv 1) pe_str (nomark _)) pa_nil)) (pa_cons (pv 3) pa_nil)))) rfl))
pss_nil)
(pss_cons (ps_if (PW.pt (pw_and (pt_cmpR op_eq (pv 1) pe_str (nomark _)) (pw_and1 (pt_cmpR op_eq (pv 2) pe_str (nomark _)))))
(pss_one (ps_dput hu (pv 4) pe_str (pe_call GU hr2 (by rfl) gU kU bU .nil pass0 (pa_cons (pv 0) (pa_cons pe_int (pa_cons (pe_dget hu (pv 4) pe_str (fun _ _ => rfl)) pa_nil)))) rfl))
pss_nil)
(pss_cons (ps_if (pt_cmpR op_eq (pv 5) pe_int (nomark _))
(pss_cons (ps_dput hu (pv 4) pe_str (pe_call GU hr2 (by rfl) gU kU bU .nil pass0 (pa_cons (pv 0) (pa_cons pe_int (pa_cons (pe_op op_sub (pe_dget hu (pv 4) pe_str (fun _ _ => rfl)) pe_int) pa_nil)))) rfl)
(pss_one (ps_dput hu (pv 4) pe_str (pe_op op_add (pe_dget hu (pv 4) pe_str (fun _ _ => rfl)) (pe_callTy call_int1 (by rfl) n_int (by decide +kernel) (pa_cons (pe_cmpR op_ge (pe_dget hu (pv 4) pe_str (fun _ _ => rfl)) (pe_dget hu (pv 4) pe_str (fun _ _ => rfl)) (nomark _)) pa_nil))) rfl)))
pss_nil)
(pss_cons (ps_if (PW.pt (pw_or (pt_cmpR op_eq (pv 1) pe_str (nomark _)) (pw_or1 (PW.pt (pw_and (pt_cmpR op_eq (pv 1) pe_str (nomark _)) (pw_and1 (pt_cmpR op_eq (pv 2) pe_str (nomark _))))))))
(pss_one (ps_dput hu (pv 4) pe_str (pe_call GU hr2 (by rfl) gU kU bU .nil pass0 (pa_cons (pv 0) (pa_cons pe_int (pa_cons (pe_callB (call_min2 rfl) (by rfl) n_min (by decide +kernel) (pa_cons (pe_op op_add (pe_dget hu (pv 4) pe_str (fun _ _ => rfl)) pe_int) (pa_cons (pe_op op_pow pe_int pe_int) pa_nil))) pa_nil)))) rfl))
pss_nil)
(pss_cons (ps_if (PW.pt (pw_and (pt_cmpR op_eq (pv 1) pe_str (nomark _)) (pw_and1 (pt_cmpR op_eq (pv 2) pe_str (nomark _)))))
(pss_one (ps_dput hu (pv 4) pe_str (pe_call GU hr2 (by rfl) gU kU bU .nil pass0 (pa_cons (pv 0) (pa_cons pe_int (pa_cons (pe_dget hu (pv 4) pe_str (fun _ _ => rfl)) pa_nil)))) rfl))
pss_nil)
(pss_cons (ps_dput hu (pv 4) pe_str (pe_call GU hr2 (by rfl) gU kU bU .nil pass0 (pa_cons (pv 0) (pa_cons pe_int (pa_cons (pv 3) pa_nil)))) rfl)
(pss_one (ps_ret (pv 4)))))))))))), ?_⟩
    refine fun D nD => ⟨upd_same, ni6 0 0 0 0 0 0, rfl, by decide, ?_⟩
    dsimp only [gName, List.set]
    have N : NuS p g H (upd (upd H D (.dK [])) D (.dK (mergeK [] (ni6 0 0 0 0 0 0)))) D (ni6 0 0 0 0 0 0) := by
      obtain ⟨n1, n2⟩ := hB.ne nD
      refine NuS.put (l := []) ⟨nD, hB.mv (same_put nD), (KeptP.refl p g H).same (same_put nD), ⟨n1, n2, upd_same⟩⟩
    revert N
    generalize upd (upd H D (.dK [])) D (.dK (mergeK [] (ni6 0 0 0 0 0 0))) = G0
    intro N
    have gg := g30
    have btw := bi_le (twoB op wd)
    have bsw := bi_le (decide (op = "swap"))
    -- two
    refine seq_by (fun σ G => σ = [some (.ref p), some (.str op), some (.str wd), some (.int m), some (.ref D), some (.int (bi (twoB op wd)))] ∧ NuS p g H G D (ni6 0 0 0 0 0 0)) ?_ (fun nxt => tw_it rfl rfl (.inr ⟨_, rfl, nxt _ _ ⟨rfl, N⟩⟩))
    clear N
    rintro σ G ⟨rfl, N⟩
    -- home and x
    refine seq_by (fun σ G => ∃ h x, σ = [some (.ref p), some (.str op), some (.str wd), some (.int m), some (.ref D), some (.int (bi (twoB op wd)))] ∧ NuS p g H G D (ni6 h 0 x 0 0 0) ∧ (newB op = true → h = 0 ∧ x = 0) ∧ (newB op = false → 1 + bi (twoB op wd) ≤ h ∧ h ≤ m ∧ 1 ≤ x ∧ x ≤ h)) ?_ (fun nxt => ?_)
    rotate_left
    · refine ⟨_, rfl, (by show 2 ≤ sizeLine; decide), fun T nT => ?_⟩
      generalize e_G1 : upd _ T _ = G1
      have s_T := new_same e_G1 nT
      have f_T := new_at e_G1
      clear e_G1
      have N := N.mv s_T
      refine ⟨T, newL.map V.str, rfl, .inr (SqT.of f_T), rfl, rfl, _, rfl, ?_⟩
      rw [if_pos rfl, inV_str]
      by_cases c : op ∈ newL
      · refine no (by rw [decide_eq_true c]; rfl) ?_
        exact nxt _ _ ⟨0, 0, rfl, N, fun _ => ⟨rfl, rfl⟩, (fun q => by unfold newB at q; rw [decide_eq_true c] at q; cases q)⟩
      · refine yes (by rw [decide_eq_false c]; rfl) ?_
        refine ⟨_, rfl, _, rfl, _, _, rfl, rfl, _, rfl, p, g, _, _, rfl, N.po, by omega, by omega, m30, fun h G2 h1 h2 k2 hB2 => ?_⟩
        have N := N.draw k2 hB2
        refine ⟨_, rfl, D, _, rfl, dp_home N.dc.at_, ?_⟩
        have N : NuS p g H _ D (ni6 h 0 0 0 0 0) := N.put
        refine ⟨_, rfl, _, rfl, D, _, rfl, dg_home N.dc.at_, p, g, _, _, rfl, N.po, by omega, by omega, by omega, fun x G3 x1 x2 k3 hB3 => ?_⟩
        have N := N.draw k3 hB3
        refine ⟨_, rfl, D, _, rfl, dp_x N.dc.at_, ?_⟩
        have N : NuS p g H _ D (ni6 h 0 x 0 0 0) := N.put
        exact nxt _ _ ⟨h, x, rfl, N, (fun q => by unfold newB at q; rw [decide_eq_false c] at q; cases q), fun _ => ⟨h1, h2, x1, x2⟩⟩
    clear N
    rintro σ G ⟨h, x, rfl, N, hx1, hx2⟩
    -- to
    refine seq_by (fun σ G => ∃ t, σ = [some (.ref p), some (.str op), some (.str wd), some (.int m), some (.ref D), some (.int (bi (twoB op wd)))] ∧ NuS p g H G D (ni6 h t x 0 0 0) ∧ ((newB op || apaB wd) = true → bi (decide (op = "swap")) ≤ t ∧ t ≤ m) ∧ ((newB op || apaB wd) = false → t = 0)) ?_ (fun nxt => ?_)
    rotate_left
    · refine nap_it rfl rfl fun G1 s1 => ?_
      have N := N.mv s1
      refine ite2' (fun q => ?_) (fun q => ?_)
      · refine ⟨_, rfl, _, rfl, rfl, .inr ⟨_, rfl, _, rfl, p, g, bi (decide (op = "swap")), m, ?_, N.po, by omega, by omega, m30, fun t G2 t1 t2 k2 hB2 => ?_⟩⟩
        · rw [dstr]; rfl
        have N := N.draw k2 hB2
        refine ⟨_, rfl, D, _, rfl, dp_to N.dc.at_, ?_⟩
        have N : NuS p g H _ D (ni6 h t x 0 0 0) := N.put
        exact nxt _ _ ⟨t, rfl, N, fun _ => ⟨t1, t2⟩, fun q2 => by rw [q] at q2; cases q2⟩
      · exact nxt _ _ ⟨0, rfl, N, (fun q2 => by rw [q] at q2; cases q2), fun _ => rfl⟩
    clear N
    rintro σ G ⟨t, rfl, N, ht1, ht2⟩
    have hb : 0 ≤ h ∧ h ≤ m := by
      cases q : newB op with
      | true => obtain ⟨e, _⟩ := hx1 q; omega
      | false => obtain ⟨e1, e2, _⟩ := hx2 q; omega
    have tb : 0 ≤ t ∧ t ≤ m := by
      cases q : newB op || apaB wd with
      | true => obtain ⟨e1, e2⟩ := ht1 q; omega
      | false => have := ht2 q; omega
    obtain ⟨b1, b2, b3, b4, b5, b6, b7, b8, b9⟩ := bflags op hop wd hwd
    -- y, apart
    refine seq_by (fun σ G => ∃ y, σ = [some (.ref p), some (.str op), some (.str wd), some (.int m), some (.ref D), some (.int (bi (twoB op wd)))] ∧ NuS p g H G D (ni6 h t x y 0 0) ∧ ((decide (op = "swap") && apaB wd) = true → 1 ≤ y ∧ y ≤ t) ∧ ((decide (op = "swap") && apaB wd) = false → y = 0)) ?_ (fun nxt => ?_)
    rotate_left
    · refine and_it rfl rfl ?_
      refine ite2' (fun q => ?_) (fun q => ?_)
      · have q1 : (decide (op = "swap") && apaB wd) = true := q
        obtain ⟨e1, e2⟩ := ht1 (by rw [(b2 q1).1, Bool.or_true])
        have e3 : decide (op = "swap") = true := (Bool.and_eq_true_iff.mp q1).1
        rw [e3] at e1
        have e1 : 1 ≤ t := e1
        refine ⟨_, rfl, _, rfl, D, _, rfl, dg_to N.dc.at_, p, g, _, _, rfl, N.po, by omega, e1, by omega, fun y G2 y1 y2 k2 hB2 => ?_⟩
        have N := N.draw k2 hB2
        refine ⟨_, rfl, D, _, rfl, dp_y N.dc.at_, ?_⟩
        have N : NuS p g H _ D (ni6 h t x y 0 0) := N.put
        exact nxt _ _ ⟨y, rfl, N, fun _ => ⟨y1, y2⟩, fun q2 => by rw [q1] at q2; cases q2⟩
      · have q1 : (decide (op = "swap") && apaB wd) = false := q
        exact nxt _ _ ⟨0, rfl, N, (fun q2 => by rw [q1] at q2; cases q2), fun _ => rfl⟩
    clear N
    rintro σ G ⟨y, rfl, N, hy1, hy2⟩
    -- y, within
    refine seq_by (fun σ G => ∃ y, σ = [some (.ref p), some (.str op), some (.str wd), some (.int m), some (.ref D), some (.int (bi (twoB op wd)))] ∧ NuS p g H G D (ni6 h t x y 0 0) ∧ ((decide (op = "swap") && apaB wd) = true → 1 ≤ y ∧ y ≤ t) ∧ (twoB op wd = true → 1 ≤ y ∧ y ≤ h ∧ y ≠ x) ∧ ((decide (op = "swap") && apaB wd) = false → twoB op wd = false → y = 0)) ?_ (fun nxt => ?_)
    rotate_left
    · refine ⟨_, rfl, rfl, _, rfl, ?_⟩
      cases q : twoB op wd with
      | false =>
        refine no (by decide) ?_
        exact nxt _ _ ⟨y, by rw [q], N, hy1, fun q2 => (by rw [q] at q2; cases q2), fun q2 _ => hy2 q2⟩
      | true =>
        refine yes (by decide) ?_
        obtain ⟨e1, e2, e3, e4⟩ := hx2 (b9 q)
        rw [q] at e1
        have e1 : 2 ≤ h := e1
        refine ⟨_, rfl, _, rfl, D, _, rfl, dg_home N.dc.at_, _, _, rfl, rfl, p, g, _, _, rfl, N.po, by omega, by omega, by omega, fun v G2 v1 v2 k2 hB2 => ?_⟩
        have N := N.draw k2 hB2
        refine ⟨_, rfl, D, _, rfl, dp_y N.dc.at_, ?_⟩
        have N : NuS p g H _ D (ni6 h t x v 0 0) := N.put
        refine ⟨_, rfl, D, _, rfl, dg_y N.dc.at_, _, rfl, D, _, rfl, dg_y N.dc.at_, _, rfl, D, _, rfl, dg_x N.dc.at_, _, _, rfl, rfl, .inr ⟨_, rfl, _, _, rfl, rfl, _, rfl, D, _, rfl, dp_y N.dc.at_, ?_⟩⟩
        have N : NuS p g H _ D (ni6 h t x (v + if decide (x ≤ v) = true then 1 else 0) 0 0) := N.put
        refine nxt _ _ ⟨_, by rw [q], N, fun q2 => ?_, fun _ => ?_, fun _ q2 => (by rw [q] at q2; cases q2)⟩
        · rw [(b2 q2).2.1] at q; cases q
        · by_cases c : x ≤ v
          · rw [decide_eq_true c, if_pos rfl]; omega
          · rw [decide_eq_false c, if_neg Bool.false_ne_true]; omega
    clear N hy1 hy2 y
    rintro σ G ⟨y, rfl, N, hy1, hy2, hy3⟩
    -- k, to
    refine seq_by (fun σ G => ∃ k, σ = [some (.ref p), some (.str op), some (.str wd), some (.int m), some (.ref D), some (.int (bi (twoB op wd)))] ∧ NuS p g H G D (ni6 h t x y k 0) ∧ (kApB op wd = true → 1 ≤ k ∧ k ≤ t + 1 ∧ k ≤ G30) ∧ (kApB op wd = false → k = 0)) ?_ (fun nxt => ?_)
    rotate_left
    · refine kap_it rfl rfl ?_
      refine ite2' (fun q => ?_) (fun q => ?_)
      · have q1 : kApB op wd = true := q
        refine ⟨_, rfl, _, rfl, D, _, rfl, dg_to N.dc.at_, _, _, rfl, rfl, _, _, rfl, rfl, ⟨by decide, by decide, by decide⟩, _, _, rfl, p, g, 1, (if (10 : Int) ^ Int.toNat 30 < t + 1 then (10 : Int) ^ Int.toNat 30 else t + 1), rfl, N.po, by omega, ?_, ?_, fun v G2 v1 v2 k2 hB2 => ?_⟩
        · have e30 : (10 : Int) ^ Int.toNat 30 = G30 := by decide
          rw [e30]
          split <;> omega
        · have e30 : (10 : Int) ^ Int.toNat 30 = G30 := by decide
          rw [e30]
          split <;> omega
        have e30 : (10 : Int) ^ Int.toNat 30 = G30 := by decide
        rw [e30] at v2
        have N := N.draw k2 hB2
        refine ⟨_, rfl, D, _, rfl, dp_k N.dc.at_, ?_⟩
        have N : NuS p g H _ D (ni6 h t x y v 0) := N.put
        refine nxt _ _ ⟨v, rfl, N, fun _ => ⟨v1, ?_, ?_⟩, fun q2 => (by rw [q1] at q2; cases q2)⟩
        · split at v2 <;> omega
        · split at v2 <;> omega
      · exact nxt _ _ ⟨0, rfl, N, (fun q2 => by rw [q] at q2; cases q2), fun _ => rfl⟩
    clear N
    rintro σ G ⟨k, rfl, N, hk1, hk2⟩
    -- k, home
    refine seq_by (fun σ G => ∃ k, σ = [some (.ref p), some (.str op), some (.str wd), some (.int m), some (.ref D), some (.int (bi (twoB op wd)))] ∧ NuS p g H G D (ni6 h t x y k 0) ∧ (kApB op wd = true → 1 ≤ k ∧ k ≤ t + 1 ∧ k ≤ G30) ∧ (kWiB op wd = true → 1 ≤ k ∧ k ≤ h) ∧ (kApB op wd = false → kWiB op wd = false → k = 0)) ?_ (fun nxt => ?_)
    rotate_left
    · refine and_it rfl rfl ?_
      refine ite2' (fun q => ?_) (fun q => ?_)
      · have q1 : kWiB op wd = true := q
        obtain ⟨e1, e2, e3, e4⟩ := hx2 (b6 q1)
        refine ⟨_, rfl, _, rfl, D, _, rfl, dg_home N.dc.at_, p, g, _, _, rfl, N.po, by omega, by omega, by omega, fun v G2 v1 v2 k2 hB2 => ?_⟩
        have N := N.draw k2 hB2
        refine ⟨_, rfl, D, _, rfl, dp_k N.dc.at_, ?_⟩
        have N : NuS p g H _ D (ni6 h t x y v 0) := N.put
        exact nxt _ _ ⟨v, rfl, N, fun q2 => (by rw [b5 q2] at q1; cases q1), fun _ => ⟨v1, v2⟩, fun _ q2 => (by rw [q1] at q2; cases q2)⟩
      · have q1 : kWiB op wd = false := q
        exact nxt _ _ ⟨k, rfl, N, hk1, fun q2 => (by rw [q1] at q2; cases q2), fun q2 _ => hk2 q2⟩
    clear N hk1 hk2 k
    rintro σ G ⟨k, rfl, N, hk1, hk2, hk3⟩
    -- other
    refine ⟨_, rfl, _, rfl, p, g, _, _, rfl, N.po, by omega, by omega, m30, fun o G2 o1 o2 k2 hB2 => ?_⟩
    have N := N.draw k2 hB2
    refine ⟨_, rfl, D, _, rfl, dp_other N.dc.at_, ?_⟩
    have N : NuS p g H _ D (ni6 h t x y k o) := N.put
    exact ⟨_, rfl, kk D _ h t x y k o N ⟨hx1, hx2, ht1, ht2, hy1, hy2, hy3, hk1, hk2, hk3, ⟨o1, o2⟩⟩⟩
end
end K23

set_option Elab.async false
set_option maxRecDepth 100000
set_option maxHeartbeats 2000000
namespace K23
open PySem PySem.Spec PyProof.Rows L2 He KX
abbrev sThr : Stmt := top 15
abbrev sCst : Stmt := inClass (top 14) 0
structure CastK (K : PySem.W.Frag) : Prop where
  made : Mk K (ga K "Cast") (ma K (ga K "Cast") "__init__")
  cls : Cls K (ga K "Cast")
  noat : ∀ f ∈ flds, NoAttr K (ga K "Cast") f
def thB (op : Str) (ap : Bool) (l : Str) : Bool := if l = "home" then !decide (op ∈ newL) else decide (l = "other") || ap
def spThr : Sp := fun vs H Q _ => ∃ (l op : Str) (ap : Bool), vs = [.str l, .str op, .bl ap] ∧ Q (.bl (thB op ap l)) H
def apB (op world : Str) : Bool := decide (op ∈ newL) || decide (world = "apart")
def lofS (op world : Str) : List (Key × V) := [(.inr "home", .str "home"), (.inr "to", .str (if apB op world = true then "to" else "home"))]
def rowS (world : Str) : List (Key × V) := [(.inr "x", .str "x"), (.inr "y", .str (if world = "itself" then "x" else "y"))]
/-- a cast that is being filled: what stands, its own dict, the fields that are tracked -/
structure Cs (K : PySem.W.Frag) (H G : Hp) (a dx : Addr) (fs : List (Str × V)) (n : Nat) (ps : List (Str × Addr × HO)) : Prop where
  sf : ∀ x o, x ≠ a → H x = some o → G x = some o
  ha : G a = some (.ins (ga K "Cast") dx fs)
  ln : fs.length ≤ n
  at_ : ∀ q ∈ ps, fs.lookup q.1 = some (V.ref q.2.1) ∧ G q.2.1 = some q.2.2 ∧ q.2.1 ≠ a
section
variable {K : PySem.W.Frag} {H G G' : Hp} {a dx : Addr} {fs : List (Str × V)} {n : Nat} {ps : List (Str × Addr × HO)}
theorem Cs.mv (h : Cs K H G a dx fs n ps) (s : Same G G') : Cs K H G' a dx fs n ps := ⟨fun x o ne e => s _ _ (h.sf x o ne e), s _ _ h.ha, h.ln, fun q hq => ⟨(h.at_ q hq).1, s _ _ (h.at_ q hq).2.1, (h.at_ q hq).2.2⟩⟩
theorem Cs.put (h : Cs K H G a dx fs n ps) {f : Str} {v : V} (hf : ∀ q ∈ ps, q.1 ≠ f) : Cs K H (upd G a (.ins (ga K "Cast") dx (putF f v fs))) a dx (putF f v fs) (n + 1) ps :=
  ⟨fun x o ne e => (upd_ne ne).trans (h.sf x o ne e), upd_same, plen h.ln, fun q hq => ⟨(lkN (hf q hq)).trans (h.at_ q hq).1, (upd_ne (h.at_ q hq).2.2).trans (h.at_ q hq).2.1, (h.at_ q hq).2.2⟩⟩
theorem Cs.add (h : Cs K H G a dx fs n ps) {f : Str} {b : Addr} {o : HO} (h1 : fs.lookup f = some (V.ref b)) (h2 : G b = some o) (h3 : b ≠ a) : Cs K H G a dx fs n ((f, b, o) :: ps) :=
  ⟨h.sf, h.ha, h.ln, fun q hq => by
    rcases List.mem_cons.mp hq with rfl | hq
    · exact ⟨h1, h2, h3⟩
    · exact h.at_ q hq⟩
/-- another object changes -/
theorem Cs.off (h : Cs K H G a dx fs n ps) {b : Addr} {o : HO} (hb : H b = none) (hba : b ≠ a) (hp : ∀ q ∈ ps, q.2.1 ≠ b) : Cs K H (upd G b o) a dx fs n ps :=
  ⟨fun x o' ne e => (upd_ne (ne_of_none e hb)).trans (h.sf x o' ne e), (upd_ne hba.symm).trans h.ha, h.ln, fun q hq => ⟨(h.at_ q hq).1, (upd_ne (hp q hq)).trans (h.at_ q hq).2.1, (h.at_ q hq).2.2⟩⟩
theorem Cs.fresh (h : Cs K H G a dx fs n ps) {D : Addr} (nD : G D = none) : D ≠ a ∧ H D = none ∧ ∀ q ∈ ps, q.2.1 ≠ D := by
  have nDa : D ≠ a := (ne_of_none h.ha nD).symm
  refine ⟨nDa, ?_, fun q hq => ne_of_none (h.at_ q hq).2.1 nD⟩
  cases e : H D with
  | none => rfl
  | some o => rw [h.sf D o nDa e] at nD; cases nD
end
def spCastI (K : PySem.W.Frag) : Sp := fun vs H Q _ => ∃ (a dx : Addr) (op world : Str), vs = [.ref a, .str op, .str world] ∧ H a = some (.ins (ga K "Cast") dx []) ∧ ∀ (G : Hp) (L R : Addr) (fs : List (Str × V)), Cs K H G a dx fs 6 [("row_of", R, .dK (rowS world)), ("list_of", L, .dK (lofS op world))] → Q .non G
theorem ite2' {b : Bool} {A B : Prop} (h1 : b = true → A) (h2 : b = false → B) : if b = true then A else B := by
  cases b
  · exact h2 rfl
  · exact h1 rfl
section
variable {P : Program} {w : World} {K : PySem.W.Frag} {mg : Str → Option Value} {base : Heap}
theorem scThr : FnScope ["lst", "op", "apart"] ["lst", "op", "apart"] (defScope sThr) := ⟨rfl, rfl, rfl, by decide +kernel, rfl, by decide +kernel, by decide +kernel⟩
theorem ok_thr {f : Addr} {fd : FuncData} (F : FnP K "_is_there" sThr f fd) (hN : ∀ H, SqT K H (ga K "NEW") (newL.map V.str)) (gNEW : mg "NEW" = some (.ref (ga K "NEW"))) : FnOk P w K mg base CX0 1 f fd ["lst", "op", "apart"] spThr := by
  refine F.ok scThr (fun vs H Q E h => ?_) (fun cdv A outer s H vs Q E hr h => ?_)
  · obtain ⟨l, op, ap, rfl, _⟩ := h
    rfl
  · obtain ⟨l, op, ap, rfl, k⟩ := h
    have nd := scThr.nd
    refine ⟨_, PSs.nox (pss_cons (ps_if (pt_cmpR op_eq (pv 0) pe_str (nomark _))
(pss_one (ps_ret (pe_cmpR op_notIn_seq (pv 1) (pe_glob (v := .ref (ga K "NEW")) rfl gNEW rfl) rfl)))
pss_nil)
(pss_one (ps_ret (pe_or (pe_cmpR op_eq (pv 0) pe_str (nomark _)) (pe_one (pv 2)))))), ?_⟩
    unfold thB at k
    refine ⟨_, rfl, rfl, _, rfl, ?_⟩
    by_cases c : l = "home"
    · refine yes (decide_eq_true (congrArg V.str c)) ?_
      rw [if_pos c] at k
      refine ⟨_, rfl, _, _, rfl, .inr (hN H), rfl, rfl, ?_⟩
      rw [if_pos rfl, inV_str]
      exact k
    · refine no (decide_eq_false fun e => c (by injection e)) ?_
      rw [if_neg c] at k
      refine ⟨_, rfl, rfl, _, rfl, ?_⟩
      by_cases c2 : l = "other"
      · refine yes (decide_eq_true (congrArg V.str c2)) ?_
        rw [decide_eq_true c2] at k
        exact k
      · refine no (decide_eq_false fun e => c2 (by injection e)) ?_
        rw [decide_eq_false c2] at k
        exact ⟨_, rfl, k⟩
theorem and_itN {σ : L2.St} {H : Hp} {Q : Bool → Hp → Prop} {i j : Nat} {op wd A B : Str} (hi : σ[i]? = some (some (.str op))) (hj : σ[j]? = some (some (.str wd))) (k : Q (decide (op = A) && !decide (wd = B)) H) : tAnd (tTest (tOp rEq (tVar i) (tC (V.str A)))) (tTest (tOp rNe (tVar j) (tC (V.str B)))) σ H Q := by
  refine ⟨_, hi, rfl, _, rfl, ?_⟩
  by_cases c : op = A
  · refine yes (decide_eq_true (congrArg V.str c)) ?_
    rw [decide_eq_true c] at k
    refine ⟨_, hj, rfl, _, rfl, ?_⟩
    rw [dstr]
    exact k
  · refine no (decide_eq_false fun e => c (by injection e)) ?_
    rw [decide_eq_false c] at k
    exact k
theorem scCst : FnScope ["self", "op", "world", "apart", "lst"] ["self", "op", "world"] (defScope sCst) := ⟨rfl, rfl, rfl, by decide +kernel, rfl, by decide +kernel, by decide +kernel⟩
theorem ok_cst {f fT : Addr} {fd fdT : FuncData} (F : FunD K "__init__" "Cast.__init__" (defArgs sCst) (defBody sCst) (defScope sCst) [] [] f fd) (C : CastK K) (hN : ∀ H, SqT K H (ga K "NEW") (newL.map V.str)) (gNEW : mg "NEW" = some (.ref (ga K "NEW")))
    (GT : FnOk P w K mg base CX0 1 fT fdT ["lst", "op", "apart"] spThr) (bT : Binds K fdT ["lst", "op", "apart"] []) (kT : PySem.W.keepIn K (.ref fT) = true) (gT : mg "_is_there" = some (.ref fT)) (n_tuple : mg "tuple" = none) : FnOk P w K mg base CX0 2 f fd ["self", "op", "world"] (spCastI K) := by
  refine F.ok scCst (fun vs H Q E h => ?_) (fun cdv A outer s H vs Q E hr h => ?_)
  · obtain ⟨a, dx, op, world, rfl, _⟩ := h
    rfl
  · obtain ⟨a, dx, op, world, rfl, ha, k⟩ := h
    have nd := scCst.nd
    have hu := Nat.lt_of_le_of_lt (Nat.add_le_add_left (by decide : 1 ≤ 64) _) hr.units
    refine ⟨_, PSs.nox (pss_cons (ps_set (i := 3) nd rfl (Or.inr rfl) (pe_or (pe_cmpR op_in_seq (pv 1) (pe_glob (v := .ref (ga K "NEW")) rfl gNEW rfl) rfl) (pe_one (pe_cmpR op_eq (pv 2) pe_str (nomark _)))))
(pss_cons (ps_fld (pv 0) (pe_callTy call_tuple_of (by rfl) n_tuple (by decide +kernel) (pa_cons (pe_lc (own := [("lst", 4)]) (g := (gName 4))  rfl nd (pi_tup (pe_tup (pa_cons pe_str (pa_cons pe_str (pa_cons pe_str pa_nil))))) (blkOk_by (own := [("lst", 4)]) (N := ["self", "op", "world", "apart", "lst"]) (sc := defScope sCst) (by decide +kernel)) (fun _ _ _ _ _ => (pg_name (i := 4) nd rfl (Or.inl rfl))) (fun _ _ _ _ _ => (pts_one (pt_val (pe_call GT hr (by rfl) gT kT bT .nil pass0 (pa_cons (pv 4) (pa_cons (pv 1) (pa_cons (pv 3) pa_nil))))))) (fun _ _ _ _ _ => (pv 4))) pa_nil)) rfl)
(pss_cons (ps_fld (pv 0) (pe_disp (pps_cons pe_str pe_str (pps_cons pe_str (pe_ifExp (pt_val (pv 3)) pe_str pe_str) pps_nil)) rfl rfl (by decide) (by decide)) rfl)
(pss_cons (ps_fld (pv 0) (pe_disp (pps_cons pe_str pe_str (pps_cons pe_str (pe_ifExp (pt_cmpR op_eq (pv 2) pe_str (nomark _)) pe_str pe_str) pps_nil)) rfl rfl (by decide) (by decide)) rfl)
(pss_cons (ps_fld (pv 0) pe_dnewK rfl)
(pss_cons (ps_if (pt_cmpR op_notIn_seq (pv 1) (pe_glob (v := .ref (ga K "NEW")) rfl gNEW rfl) rfl)
(pss_one (ps_dput hu (pe_fld (pv 0) rfl) pe_str pe_str rfl))
pss_nil)
(pss_cons (ps_if (PW.pt (pw_and (pt_cmpR op_eq (pv 1) pe_str (nomark _)) (pw_and1 (pt_cmpR op_ne (pv 2) pe_str (nomark _)))))
(pss_one (ps_dput hu (pe_fld (pv 0) rfl) pe_str (pe_dget hu (pe_fld (pv 0) rfl) pe_str (fun _ _ => rfl)) rfl))
pss_nil)
(pss_cons (ps_fld (pv 0) (pe_ifExp (pt_cmp (pc_din hu pe_str (pe_fld (pv 0) rfl))) (pe_lst (pa_cons pe_str (pa_cons pe_str pa_nil))) (pe_lst (pa_cons pe_str pa_nil))) rfl)
(pss_one (ps_fld (pv 0) (pe_cmpR op_in_seq (pv 2) (pe_tup (pa_cons pe_str (pa_cons pe_str pa_nil))) rfl) rfl)))))))))), ?_⟩
    have st : ∀ {f : Str}, f ∈ flds → NoAttr K (ga K "Cast") f := fun h => C.noat _ h
    -- apart
    refine seq_by (fun σ G => σ = [some (.ref a), some (.str op), some (.str world), some (.bl (apB op world)), none] ∧ H = G) ?_ (fun nxt => ?_)
    rotate_left
    · refine ⟨_, rfl, _, _, rfl, .inr (hN H), rfl, rfl, _, rfl, ?_⟩
      rw [if_neg Bool.false_ne_true, inV_str]
      by_cases c : op ∈ newL
      · refine yes (decide_eq_true c) ?_
        exact nxt _ _ ⟨by unfold apB; rw [decide_eq_true c]; rfl, rfl⟩
      · refine no (decide_eq_false c) ?_
        refine ⟨_, rfl, rfl, nxt _ _ ⟨?_, rfl⟩⟩
        unfold apB
        rw [decide_eq_false c, dstr]; rfl
    rintro σ _ ⟨rfl, rfl⟩
    -- lists
    refine seq_by (fun σ G => ∃ (fs : List (Str × V)) (v4 : Option V), σ = [some (.ref a), some (.str op), some (.str world), some (.bl (apB op world)), v4] ∧ Cs K H G a dx fs 1 []) ?_ (fun nxt => ?_)
    rotate_left
    · refine ⟨(by show 3 ≤ sizeLine; decide), fun T0 nT0 => ?_⟩
      generalize e_G1 : upd _ T0 _ = G1
      have s_T0 := new_same e_G1 nT0
      have f_T0 := new_at e_G1
      clear e_G1
      have ha := s_T0 _ _ ha
      refine ⟨T0, rfl, ⟨_, SqT.of f_T0⟩, fun A nA => ?_⟩
      refine lc_it (walk_tup (K := K) (a := T0) (xs := (["home", "to", "other"] : List Str).map V.str)) (fun j G => (∃ ys : List V, G A = some (.lst ys) ∧ ys.length ≤ j) ∧ Same G1 G) ?_ (fun i G _ h => SqT.of (h.2 _ _ f_T0)) ?_ ?_
      · skip
        generalize e_G2 : upd _ A _ = G2
        have s_A := new_same e_G2 nA
        have f_A := new_at e_G2
        clear e_G2
        exact ⟨⟨[], f_A, Nat.le_refl _⟩, s_A⟩
      · rintro j x G' G hj ⟨⟨ys, hA, hy⟩, s2⟩ ⟨rfl, hx⟩
        obtain ⟨l, hl, rfl⟩ := Option.map_eq_some_iff.mp ((List.getElem?_map ..).symm.trans hx)
        have hj3 : j < 3 := hj
        refine ⟨rfl, ?_⟩
        refine ⟨_, rfl, _, rfl, _, rfl, l, op, _, rfl, _, rfl, ?_⟩
        cases hb : thB op (apB op world) l with
        | true =>
          refine yes rfl ?_
          exact ⟨_, rfl, _, hA, (by rw [sizeLine_eq]; omega), ⟨_, upd_same, by rw [List.length_append]; show _ + 1 ≤ j + 1; omega⟩, fun y o e => (upd_ne (ne_of_none e nA)).trans (s2 _ _ e)⟩
        | false =>
          refine no rfl ?_
          exact ⟨⟨ys, hA, by omega⟩, s2⟩
      · rintro G2 ⟨⟨ys, hA, hy⟩, s2⟩
        have ha := s2 _ _ ha
        refine ⟨A, _, rfl, .inl ⟨SqL.of hA, fun T nT => ?_⟩⟩
        generalize e_G3 : upd _ T _ = G3
        have s_T := new_same e_G3 nT
        have f_T := new_at e_G3
        clear e_G3
        have ha := ha.mv s_T
        have s2 := s2.mv s_T
        have s13 := s_T0.trans s2
        have Z : Cs K H G3 a dx [] 0 [] := ⟨fun x o _ e => s13 _ _ e, ha, by decide, fun _ h => nomatch h⟩
        refine ⟨_, rfl, a, _, dx, _, rfl, ha, C.cls, st (by decide), (by decide), ?_⟩
        exact nxt _ _ ⟨_, _, rfl, Z.put fun _ h => nomatch h⟩
    clear ha
    rintro σ G ⟨fs, v4, rfl, Z⟩
    -- list_of
    refine seq_by (fun σ G => ∃ (L : Addr) (fs : List (Str × V)), σ = [some (.ref a), some (.str op), some (.str world), some (.bl (apB op world)), v4] ∧ Cs K H G a dx fs 2 [("list_of", L, .dK (lofS op world))]) ?_ (fun nxt => ?_)
    rotate_left
    · refine fun D nD => ?_
      obtain ⟨nDa, nDH, _⟩ := Z.fresh nD
      generalize e_G2 : upd _ D _ = G2
      have s_D := new_same e_G2 nD
      have f_D := new_at e_G2
      clear e_G2
      have Z := Z.mv s_D
      have fin : ∀ z : Str, z = (if apB op world = true then ("to" : Str) else "home") → Cs K H (upd (upd G2 D (.dK [(.inr "home", .str "home"), (.inr "to", .str z)])) a (.ins (ga K "Cast") dx (putF "list_of" (.ref D) fs))) a dx (putF "list_of" (.ref D) fs) 2 [("list_of", D, .dK (lofS op world))] := fun z e => by
        have := ((Z.off (o := .dK [(.inr "home", .str "home"), (.inr "to", .str z)]) nDH nDa (fun _ h => nomatch h)).put (f := "list_of") (v := .ref D) fun _ h => nomatch h)
        exact this.add lkE ((upd_ne nDa).trans (by rw [upd_same]; unfold lofS; rw [e])) nDa
      have zl := Z.ln
      refine ⟨_, rfl, _, rfl, ite2' (fun c => ?_) (fun c => ?_)⟩
      · refine ⟨f_D, [(.inr "home", .str "home"), (.inr "to", .str "to")], rfl, by decide, ?_⟩
        rw [mergeK_new (by decide)]
        refine ⟨_, rfl, a, _, dx, fs, rfl, (upd_ne nDa.symm).trans Z.ha, C.cls, st (by decide), by omega, ?_⟩
        exact nxt _ _ ⟨D, _, rfl, fin _ (by rw [if_pos c])⟩
      · refine ⟨f_D, [(.inr "home", .str "home"), (.inr "to", .str "home")], rfl, by decide, ?_⟩
        rw [mergeK_new (by decide)]
        refine ⟨_, rfl, a, _, dx, fs, rfl, (upd_ne nDa.symm).trans Z.ha, C.cls, st (by decide), by omega, ?_⟩
        exact nxt _ _ ⟨D, _, rfl, fin _ (by rw [if_neg (by rw [c]; decide)])⟩
    clear Z fs
    rintro σ G ⟨L, fs, rfl, Z⟩
    -- row_of
    refine seq_by (fun σ G => ∃ (R : Addr) (fs : List (Str × V)), σ = [some (.ref a), some (.str op), some (.str world), some (.bl (apB op world)), v4] ∧ Cs K H G a dx fs 3 [("row_of", R, .dK (rowS world)), ("list_of", L, .dK (lofS op world))]) ?_ (fun nxt => ?_)
    rotate_left
    · refine fun D nD => ?_
      obtain ⟨nDa, nDH, nDp⟩ := Z.fresh nD
      generalize e_G2 : upd _ D _ = G2
      have s_D := new_same e_G2 nD
      have f_D := new_at e_G2
      clear e_G2
      have Z := Z.mv s_D
      have fin : ∀ z : Str, z = (if world = "itself" then ("x" : Str) else "y") → Cs K H (upd (upd G2 D (.dK [(.inr "x", .str "x"), (.inr "y", .str z)])) a (.ins (ga K "Cast") dx (putF "row_of" (.ref D) fs))) a dx (putF "row_of" (.ref D) fs) 3 [("row_of", D, .dK (rowS world)), ("list_of", L, .dK (lofS op world))] := fun z e => by
        have := ((Z.off (o := .dK [(.inr "x", .str "x"), (.inr "y", .str z)]) nDH nDa nDp).put (f := "row_of") (v := .ref D) fun q h => by rw [List.mem_singleton.mp h]; show ("list_of" : Str) ≠ "row_of"; decide +kernel)
        exact this.add lkE ((upd_ne nDa).trans (by rw [upd_same]; unfold rowS; rw [e])) nDa
      have zl := Z.ln
      refine ⟨_, rfl, rfl, _, rfl, ?_⟩
      by_cases c : world = "itself"
      · refine yes (decide_eq_true (congrArg V.str c)) ?_
        refine ⟨f_D, [(.inr "x", .str "x"), (.inr "y", .str "x")], rfl, by decide, ?_⟩
        rw [mergeK_new (by decide)]
        refine ⟨_, rfl, a, _, dx, fs, rfl, (upd_ne nDa.symm).trans Z.ha, C.cls, st (by decide), by omega, ?_⟩
        exact nxt _ _ ⟨D, _, rfl, fin _ (by rw [if_pos c])⟩
      · refine no (decide_eq_false fun e => c (by injection e)) ?_
        refine ⟨f_D, [(.inr "x", .str "x"), (.inr "y", .str "y")], rfl, by decide, ?_⟩
        rw [mergeK_new (by decide)]
        refine ⟨_, rfl, a, _, dx, fs, rfl, (upd_ne nDa.symm).trans Z.ha, C.cls, st (by decide), by omega, ?_⟩
        exact nxt _ _ ⟨D, _, rfl, fin _ (by rw [if_neg c])⟩
    clear Z fs
    rintro σ G ⟨R, fs, rfl, Z⟩
    -- homes
    have twoP : ∀ q ∈ ([("row_of", R, HO.dK (rowS world)), ("list_of", L, HO.dK (lofS op world))] : List (Str × Addr × HO)), q.1 ≠ "homes" ∧ q.1 ≠ "named" ∧ q.1 ≠ "is_within" := fun q hq => by
      rcases List.mem_cons.mp hq with rfl | hq
      · show ("row_of" : Str) ≠ "homes" ∧ ("row_of" : Str) ≠ "named" ∧ ("row_of" : Str) ≠ "is_within"
        decide +kernel
      · rw [List.mem_singleton.mp hq]
        show ("list_of" : Str) ≠ "homes" ∧ ("list_of" : Str) ≠ "named" ∧ ("list_of" : Str) ≠ "is_within"
        decide +kernel
    refine seq_by (fun σ G => ∃ (D : Addr) (fs : List (Str × V)), σ = [some (.ref a), some (.str op), some (.str world), some (.bl (apB op world)), v4] ∧ Cs K H G a dx fs 4 [("row_of", R, .dK (rowS world)), ("list_of", L, .dK (lofS op world))] ∧ fs.lookup ("homes" : Str) = some (V.ref D) ∧ G D = some (.dK []) ∧ H D = none ∧ D ≠ a ∧ R ≠ D ∧ L ≠ D) ?_ (fun nxt => ?_)
    rotate_left
    · refine fun D nD => ?_
      obtain ⟨nDa, nDH, nDp⟩ := Z.fresh nD
      generalize e_G2 : upd _ D _ = G2
      have s_D := new_same e_G2 nD
      have f_D := new_at e_G2
      clear e_G2
      have Z := Z.mv s_D
      have zl := Z.ln
      refine ⟨_, rfl, a, _, dx, fs, rfl, Z.ha, C.cls, st (by decide), by omega, ?_⟩
      exact nxt _ _ ⟨D, _, rfl, Z.put fun q hq => (twoP q hq).1, lkE, (upd_ne nDa).trans f_D, nDH, nDa, nDp _ List.mem_cons_self, nDp _ (List.mem_cons_of_mem _ List.mem_cons_self)⟩
    clear Z fs
    rintro σ G ⟨D, fs, rfl, Z, hfD, hD, nDH, nDa, nRD, nLD⟩
    have nDp : ∀ q ∈ ([("row_of", R, HO.dK (rowS world)), ("list_of", L, HO.dK (lofS op world))] : List (Str × Addr × HO)), q.2.1 ≠ D := fun q hq => by
      rcases List.mem_cons.mp hq with rfl | hq
      · exact nRD
      · rw [List.mem_singleton.mp hq]; exact nLD
    -- x
    refine seq_by (fun σ G => ∃ hm : List (Key × V), σ = [some (.ref a), some (.str op), some (.str world), some (.bl (apB op world)), v4] ∧ Cs K H G a dx fs 4 [("row_of", R, .dK (rowS world)), ("list_of", L, .dK (lofS op world))] ∧ G D = some (.dK hm) ∧ hm.length ≤ 1) ?_ (fun nxt => ?_)
    rotate_left
    · refine ⟨_, rfl, _, _, rfl, .inr (hN G), rfl, rfl, _, rfl, ?_⟩
      rw [if_pos rfl, inV_str]
      by_cases c : op ∈ newL
      · refine no (congrArg not (decide_eq_true c)) ?_
        exact nxt _ _ ⟨_, rfl, Z, hD, Nat.zero_le _⟩
      · refine yes (congrArg not (decide_eq_false c)) ?_
        refine ⟨_, rfl, a, _, dx, fs, _, rfl, Z.ha, C.cls, st (by decide), hfD, D, _, rfl, .inl ⟨_, .inr "x", hD, rfl, by decide, rfl⟩, ?_⟩
        exact nxt _ _ ⟨_, rfl, Z.off nDH nDa nDp, upd_same, Nat.le_refl _⟩
    clear Z hD
    rintro σ G ⟨hm, rfl, Z, hD, hml⟩
    -- y
    refine seq_by (fun σ G => ∃ hm : List (Key × V), σ = [some (.ref a), some (.str op), some (.str world), some (.bl (apB op world)), v4] ∧ Cs K H G a dx fs 4 [("row_of", R, .dK (rowS world)), ("list_of", L, .dK (lofS op world))] ∧ G D = some (.dK hm)) ?_ (fun nxt => ?_)
    rotate_left
    · refine and_itN rfl rfl ?_
      refine ite2' (fun _ => ?_) (fun _ => nxt _ _ ⟨_, rfl, Z, hD⟩)
      have hLf := Z.at_ _ (List.mem_cons_of_mem _ List.mem_cons_self)
      refine ⟨_, rfl, a, _, dx, fs, _, rfl, Z.ha, C.cls, st (by decide), hLf.1, L, _, rfl, .inl ⟨_, .inr "to", .inl hLf.2.1, rfl, rfl⟩, ?_⟩
      refine ⟨_, rfl, a, _, dx, fs, _, rfl, Z.ha, C.cls, st (by decide), hfD, D, _, rfl, .inl ⟨_, .inr "y", hD, rfl, by rw [sizeLine_eq]; omega, rfl⟩, ?_⟩
      exact nxt _ _ ⟨_, rfl, Z.off nDH nDa nDp, upd_same⟩
    clear Z hD hml hm
    rintro σ G ⟨hm, rfl, Z, hD⟩
    -- named
    refine seq_by (fun σ G => ∃ fs : List (Str × V), σ = [some (.ref a), some (.str op), some (.str world), some (.bl (apB op world)), v4] ∧ Cs K H G a dx fs 5 [("row_of", R, .dK (rowS world)), ("list_of", L, .dK (lofS op world))]) ?_ (fun nxt => ?_)
    rotate_left
    · have zl := Z.ln
      refine ⟨_, rfl, a, _, dx, fs, _, rfl, Z.ha, C.cls, st (by decide), hfD, D, _, rfl, .inl ⟨_, .inr "y", .inl hD, rfl, rfl⟩, _, rfl, ite2' (fun _ => ?_) (fun _ => ?_)⟩
      · refine ⟨(by show 2 ≤ sizeLine; decide), fun W nW => ?_⟩
        generalize e_G2 : upd _ W _ = G2
        have s_W := new_same e_G2 nW
        have f_W := new_at e_G2
        clear e_G2
        have Z := Z.mv s_W
        refine ⟨_, rfl, a, _, dx, fs, rfl, Z.ha, C.cls, st (by decide), by omega, ?_⟩
        exact nxt _ _ ⟨_, rfl, Z.put fun q hq => (twoP q hq).2.1⟩
      · refine ⟨(by show 1 ≤ sizeLine; decide), fun W nW => ?_⟩
        generalize e_G2 : upd _ W _ = G2
        have s_W := new_same e_G2 nW
        have f_W := new_at e_G2
        clear e_G2
        have Z := Z.mv s_W
        refine ⟨_, rfl, a, _, dx, fs, rfl, Z.ha, C.cls, st (by decide), by omega, ?_⟩
        exact nxt _ _ ⟨_, rfl, Z.put fun q hq => (twoP q hq).2.1⟩
    clear Z hD hfD
    rintro σ G ⟨fs, rfl, Z⟩
    -- is_within
    have zl := Z.ln
    refine ⟨_, rfl, (by show 2 ≤ sizeLine; decide), fun W nW => ?_⟩
    generalize e_G2 : upd _ W _ = G2
    have s_W := new_same e_G2 nW
    have f_W := new_at e_G2
    clear e_G2
    have Z := Z.mv s_W
    refine ⟨W, (["within", "itself"] : List Str).map V.str, rfl, .inr (SqT.of f_W), rfl, rfl, ?_⟩
    refine ⟨_, rfl, a, _, dx, fs, rfl, Z.ha, C.cls, st (by decide), by omega, ?_⟩
    exact k _ L R _ (Z.put fun q hq => (twoP q hq).2.2)
end
end K23

set_option Elab.async false
set_option maxRecDepth 100000
set_option maxHeartbeats 2000000
/-! d == e of two dicts with the same keys whose values are whole numbers, whatever the answer. -/
namespace KX
open PySem PySem.Spec PyProof.Rows L2
theorem val_int {ls : List (Key × V)} {vb : List (Key × Value)} (rb : KV ls vb) {k : Key} {j : Int} (e : valV ls k = some (.int j)) : ∃ t, valueAt vb k = some (.int j t) := by
  have rr : RelO (some (V.int j)) (valueAt vb k) := by rw [← e]; exact rb.val k
  obtain ⟨y, hy, ry⟩ := rr.some_of
  obtain ⟨t, rfl⟩ := ry
  exact ⟨t, hy⟩
theorem hits_ints {A : Around} {s : Shared} {ls : List (Key × V)} {vb : List (Key × Value)} (rb : KV ls vb) {ks : List (Key × V)} {va : List (Key × Value)} (ra : KV ks va) :
    (∀ p ∈ ks, ∃ i j, p.2 = .int i ∧ valV ls p.1 = some (.int j)) → PySem.W.KeqHits A s vb va (ks.all fun p => decide (valV ls p.1 = some p.2)) := by
  unfold KV at ra
  induction ra with
  | nil => exact fun _ => .nil
  | @cons p q ps qs hd tl ih =>
    intro all
    obtain ⟨hk, hv⟩ := hd
    obtain ⟨i, j, e1, e2⟩ := all p List.mem_cons_self
    obtain ⟨key, v⟩ := q
    have hk : p.1 = key := hk
    obtain ⟨tj, hy⟩ := val_int rb e2
    rw [hk] at hy
    rw [e1] at hv
    obtain ⟨ti, rfl⟩ := hv
    rw [List.all_cons]
    have ed : decide (valV ls p.1 = some p.2) = (i == j) := by
      rw [e1, e2]
      by_cases c : i = j
      · rw [c, decide_eq_true rfl, beq_self_eq_true]
      · rw [decide_eq_false (fun q => c (by injection q with q; injection q with q; exact q.symm)), beq_eq_false_iff_ne.mpr c]
    rw [ed]
    exact .hit hy (SeqAt.EqAt.int_int i ti j tj) (ih fun r hr => all r (List.mem_cons_of_mem _ hr))
variable {X : Cx}
def rEqDI : R2 := fun x y H Q => ∃ a b ks ls, x = .ref a ∧ y = .ref b ∧ H a = some (.dK ks) ∧ H b = some (.dK ls) ∧ ks.length = ls.length ∧ (∀ p ∈ ks, ∃ i j, p.2 = .int i ∧ valV ls p.1 = some (.int j)) ∧ Q (.bl (ks.all fun p => decide (valV ls p.1 = some p.2))) H
theorem op_eq_dictI (hu : X.A.units < cLine) : OpR X (compareOp .Eq) rEqDI := by
  intro pins s σ H x y v u Q I rx ry h
  obtain ⟨a, b, ks, ls, rfl, rfl, ea, eb, len, all, q⟩ := h
  cases (show v = Value.ref a from rx)
  cases (show u = Value.ref b from ry)
  obtain ⟨_, na, va, ra, da⟩ := (show ObjOk X.prog X.w H s.heap a (.dK ks) from I.hok a _ ea)
  obtain ⟨_, nb, vb, rb, db⟩ := (show ObjOk X.prog X.w H s.heap b (.dK ls) from I.hok b _ eb)
  have same : va.length = vb.length := by rw [← ra.length, ← rb.length]; exact len
  refine PySem.W.keq_eq (knd := mixKind X.prog X.w) na nb da db hu (fun _ => hits_ints rb ra all) ?_
  rw [same, beq_self_eq_true, Bool.true_and]
  exact ⟨.bl _, H, I, rfl, q⟩
end KX

set_option Elab.async false
set_option maxRecDepth 100000
set_option maxHeartbeats 2000000
namespace K23
open PySem PySem.Spec PyProof.Rows L2 He KX
abbrev sTot : Stmt := inClass (top 22) 1
abbrev sKey : Stmt := inClass (top 22) 2
abbrev sEq : Stmt := inClass (top 22) 3
abbrev sArs : Stmt := inClass (top 22) 7
/-- what the row says of Scene beside its fields -/
structure ScnO (K : PySem.W.Frag) : Prop where
  c1 : PySem.W.kitOne K (.ref (ga K "Scene")) (.ref (ga K "Scene")) = some true
  c2 : PySem.W.kitOne K (.type "tuple") (.ref (ga K "Scene")) = some false
  n1 : PySem.W.notFirst K (ga K "Scene") (.ref (ga K "Scene")) = true
  n2 : PySem.W.notFirst K (ga K "Scene") (.type "tuple") = true
  a1 : PySem.W.findIn K (.ref (ga K "Scene")) "__class__" = some (some (.builtin "object.__class__"))
  a2 : PySem.W.mroIn K (ga K "Scene") (.type "object") = some true
  a3 : PySem.W.specialIn K (.builtin "object.__class__") "__get__" = some (some (.builtin "getset_descriptor.__get__"))
  a4 : PySem.W.takesIn K (.builtin "object.__class__") = some true
  mth : ∀ m ∈ (["__eq__", "arguments"] : List Str), Meth K (ga K "Scene") m (ma K (ga K "Scene") m)
/-- a scene on the heap -/
def ScnAt (K : PySem.W.Frag) (G : Hp) (a : Addr) (op wd : Str) (nf : Str → Int) : Prop := ∃ dx fs, G a = some (.ins (ga K "Scene") dx fs) ∧ ScF (.str op) (.str wd) (fun z => .int (nf z)) fs
theorem ScnAt.mv {K : PySem.W.Frag} {G G' : Hp} {a : Addr} {op wd : Str} {nf : Str → Int} (h : ScnAt K G a op wd nf) (s : Same G G') : ScnAt K G' a op wd nf := by
  obtain ⟨dx, fs, h1, h2⟩ := h
  exact ⟨dx, fs, s _ _ h1, h2⟩
theorem ScF.nk {ov wv : V} {n : Str → V} {fs : List (Str × V)} (h : ScF ov wv n fs) {z : Str} (hz : z ∈ nk) : fs.lookup z = some (n z) := (h.1 z (by revert z; decide +kernel)).trans (congrArg some (scV_nk hz))
theorem ScF.op {ov wv : V} {n : Str → V} {fs : List (Str × V)} (h : ScF ov wv n fs) : fs.lookup ("op" : Str) = some ov := (h.1 _ (by decide)).trans (congrArg some scV_op)
theorem ScF.wd {ov wv : V} {n : Str → V} {fs : List (Str × V)} (h : ScF ov wv n fs) : fs.lookup ("world" : Str) = some wv := (h.1 _ (by decide)).trans (congrArg some scV_wd)
def totI (nf : Str → Int) : Int := nf "home" + nf "to" + nf "other"
def rkI (wd : Str) : Int := ((rks.idxOf wd : Nat) : Int)
def keyV (wd : Str) (nf : Str → Int) : List Int := [totI nf, rkI wd, nf "home", nf "to", nf "x", nf "y", nf "k"]
def spTot (K : PySem.W.Frag) : Sp := fun vs H Q _ => ∃ (a : Addr) (op wd : Str) (nf : Str → Int), vs = [.ref a] ∧ ScnAt K H a op wd nf ∧ Q (.int (totI nf)) H
def spKey (K : PySem.W.Frag) : Sp := fun vs H Q _ => ∃ (a : Addr) (op wd : Str) (nf : Str → Int), vs = [.ref a] ∧ ScnAt K H a op wd nf ∧ wd ∈ rks ∧ ∀ T G, H T = none → Same H G → G T = some (.tup ((keyV wd nf).map V.int)) → Q (.ref T) G
def keyD (wd : Str) (nf : Str → Int) : PyData := .tuple ((keyV wd nf).map PyData.int)
theorem ints_dp {K : PySem.W.Frag} {G : Hp} : ∀ l : List Int, DpAll K G (l.map V.int) (l.map PyData.int)
  | [] => .nil
  | i :: r => .cons (.int i) (ints_dp r)
theorem ints_shaped (l : List Int) : SeqAt.shaped (.tuple (l.map PyData.int)) = true := tupSh (k := 0) (by decide) fun d hd => by
  obtain ⟨i, _, rfl⟩ := List.mem_map.mp hd
  exact ⟨rfl, Nat.zero_le _⟩
/-- what == gives -/
def spEq (K : PySem.W.Frag) : Sp := fun vs H Q _ => ∃ (a : Addr) (op wd : Str) (nf : Str → Int) (y : V), vs = [.ref a, y] ∧ ScnAt K H a op wd nf ∧ wd ∈ rks ∧
  ((∃ b op2 wd2 nf2, y = .ref b ∧ ScnAt K H b op2 wd2 nf2 ∧ wd2 ∈ rks ∧ ∀ G, Same H G → Q (.bl (decide (op = op2) && (keyD wd nf).eqv (keyD wd2 nf2))) G) ∨
   (∃ b xs, y = .ref b ∧ H b = some (.tup xs) ∧ Q (.bl false) H))
def argW (op wd : Str) (k : Int) (z : Str) : V := if z = "x" then .str "x" else if z = "y" then .str (if wd = "itself" then "x" else "y") else if z = "to" then .str (if apB op wd = true then "to" else "home") else .int k
def argKv (op wd : Str) (k : Int) (l : List Str) : List (Key × V) := l.map fun z => (.inr z, argW op wd k z)
def spArs (K : PySem.W.Frag) : Sp := fun vs H Q _ => ∃ (a : Addr) (wd : Str) (nf : Str → Int) (o : Str × List Str), vs = [.ref a] ∧ o ∈ args ∧ ScnAt K H a o.1 wd nf ∧ ∀ D G, H D = none → Same H G → G D = some (.dK (argKv o.1 wd (nf "k") o.2)) → Q (.ref D) G
theorem put_new {l : List (Key × V)} {z : Str} {v : V} (h : ∀ p ∈ l, p.1 ≠ .inr z) : putK l (.inr z) v = l ++ [(.inr z, v)] := by
  unfold putK
  rw [if_neg]
  rw [List.any_eq_true]
  rintro ⟨p, hp, e⟩
  exact h p hp (of_decide_eq_true e)
theorem passLN {X : Cx} : Passes (L2N.CX X.prog X.w) X (fun _ _ _ => False) := fun _ _ _ _ _ _ _ h => by
  obtain ⟨_, _, _, _, _, _, _, _, _, _, _, _, z⟩ := h
  exact z.elim
theorem arg_one : ∀ o ∈ args, SeqAt.shaped (.str o.1) = true ∧ ∀ o2 ∈ args, o.1 = o2.1 → o = o2 := by decide +kernel
theorem arg_facts : ∀ o ∈ args, o.2.Nodup ∧ o.2.length ≤ 3 ∧ ∀ z ∈ o.2, z ∈ (["x", "y", "to", "k"] : List Str) := by decide +kernel
section
variable {P : Program} {w : World} {K : PySem.W.Frag} {mg : Str → Option Value} {base : Heap}
theorem scTot : FnScope ["self"] ["self"] (defScope sTot) := ⟨rfl, rfl, rfl, by decide +kernel, rfl, by decide +kernel, by decide +kernel⟩
theorem ok_tot {f : Addr} {fd : FuncData} (F : FunD K "total" "Scene.total" (defArgs sTot) (defBody sTot) (defScope sTot) [] [] f fd) (S : ScnK K) : FnOk P w K mg base CX0 1 f fd ["self"] (spTot K) := by
  refine F.ok scTot (fun vs H Q E h => ?_) (fun cdv A outer s H vs Q E hr h => ?_)
  · obtain ⟨a, op, wd, nf, rfl, _⟩ := h
    rfl
  · obtain ⟨a, op, wd, nf, rfl, ⟨dx, fs, ha, hf⟩, k⟩ := h
    have nd := scTot.nd
    refine ⟨_, PSs.nox (pss_one (ps_ret (pe_op op_add (pe_op op_add (pe_fld (pv 0) rfl) (pe_fld (pv 0) rfl)) (pe_fld (pv 0) rfl)))), ?_⟩
    exact ⟨_, rfl, a, _, dx, fs, _, rfl, ha, S.cls, S.noat _ (by decide), hf.nk (z := "home") (by decide), _, rfl, a, _, dx, fs, _, rfl, ha, S.cls, S.noat _ (by decide), hf.nk (z := "to") (by decide), _, _, rfl, rfl, _, rfl, a, _, dx, fs, _, rfl, ha, S.cls, S.noat _ (by decide), hf.nk (z := "other") (by decide), _, _, rfl, rfl, k⟩
theorem scKey : FnScope ["self"] ["self"] (defScope sKey) := ⟨rfl, rfl, rfl, by decide +kernel, rfl, by decide +kernel, by decide +kernel⟩
theorem ok_key {f fT p : Addr} {fd fdT : FuncData} (F : FunD K "key" "Scene.key" (defArgs sKey) (defBody sKey) (defScope sKey) [] [] f fd) (S : ScnK K) (PT : PropOf K (ga K "Scene") "total" p fT) (GT : FnOk P w K mg base CX0 1 fT fdT ["self"] (spTot K)) (bT : Binds K fdT ["self"] [])
    (gRK : mg "RANKS" = some (.ref (ga K "RANKS"))) (hRK : ∀ wd ∈ rks, KDct K w (ga K "RANKS") wd (.int (rkI wd))) : FnOk P w K mg base CX0 3 f fd ["self"] (spKey K) := by
  refine F.ok scKey (fun vs H Q E h => ?_) (fun cdv A outer s H vs Q E hr h => ?_)
  · obtain ⟨a, op, wd, nf, rfl, _⟩ := h
    rfl
  · obtain ⟨a, op, wd, nf, rfl, hs, hw, k⟩ := h
    have nd := scKey.nd
    have hr2 := hr
    refine ⟨_, PSs.nox (pss_one (ps_ret (pe_tup (pa_cons (pe_prop (pv 0) S.cls PT GT hr2 bT .nil pass0 rfl) (pa_cons (pe_ix ix_kdict (pe_glob (v := .ref (ga K "RANKS")) rfl gRK rfl) (pe_fld (pv 0) rfl) (fun _ _ => rfl)) (pa_cons (pe_fld (pv 0) rfl) (pa_cons (pe_fld (pv 0) rfl) (pa_cons (pe_fld (pv 0) rfl) (pa_cons (pe_fld (pv 0) rfl) (pa_cons (pe_fld (pv 0) rfl) pa_nil)))))))))), ?_⟩
    obtain ⟨dx, fs, ha, hf⟩ := id hs
    have fl : ∀ z ∈ nk, fs.lookup z = some (.int (nf z)) := fun z hz => hf.nk hz
    refine ⟨_, rfl, a, dx, fs, rfl, ha, a, op, wd, nf, rfl, hs, ?_⟩
    refine ⟨_, rfl, a, _, dx, fs, _, rfl, ha, S.cls, S.noat _ (by decide), hf.wd, _, wd, _, rfl, rfl, hRK wd hw, ?_⟩
    refine ⟨_, rfl, a, _, dx, fs, _, rfl, ha, S.cls, S.noat _ (by decide), fl "home" (by decide), _, rfl, a, _, dx, fs, _, rfl, ha, S.cls, S.noat _ (by decide), fl "to" (by decide), _, rfl, a, _, dx, fs, _, rfl, ha, S.cls, S.noat _ (by decide), fl "x" (by decide), _, rfl, a, _, dx, fs, _, rfl, ha, S.cls, S.noat _ (by decide), fl "y" (by decide), _, rfl, a, _, dx, fs, _, rfl, ha, S.cls, S.noat _ (by decide), fl "k" (by decide), (by show 7 ≤ sizeLine; decide), fun T nT => ?_⟩
    exact k T _ nT (same_put nT) upd_same
theorem scEq : FnScope ["self", "other"] ["self", "other"] (defScope sEq) := ⟨rfl, rfl, rfl, by decide +kernel, rfl, by decide +kernel, by decide +kernel⟩
theorem ok_eq2 {f fK p : Addr} {fd fdK : FuncData} (F : FunD K "__eq__" "Scene.__eq__" (defArgs sEq) (defBody sEq) (defScope sEq) [] [] f fd) (S : ScnK K) (O : ScnO K) (PK : PropOf K (ga K "Scene") "key" p fK) (GK : FnOk P w K mg base CX0 3 fK fdK ["self"] (spKey K)) (bK : Binds K fdK ["self"] [])
    (gSc : mg "Scene" = some (.ref (ga K "Scene"))) (n_isinstance : mg "isinstance" = none) : FnOk P w K mg base CX0 5 f fd ["self", "other"] (spEq K) := by
  refine F.ok scEq (fun vs H Q E h => ?_) (fun cdv A outer s H vs Q E hr h => ?_)
  · obtain ⟨a, op, wd, nf, y, rfl, _⟩ := h
    rfl
  · obtain ⟨a, op, wd, nf, y, rfl, hs, hw, h⟩ := h
    have nd := scEq.nd
    have hr4 := hr
    have hu64 := hr.units
    refine ⟨_, PSs.nox (pss_one (ps_ret (pe_and (pe_callB call_isi (by rfl) n_isinstance (by decide +kernel) (pa_cons (pv 1) (pa_cons (pe_glob (v := .ref (ga K "Scene")) rfl gSc rfl) pa_nil))) (pe_and (pe_cmpR op_eq (pe_fld (pv 0) rfl) (pe_fld (pv 1) rfl) (nomark _)) (pe_one (pe_cmpR (op_eqD hu64) (pe_prop (pv 0) S.cls PK GK hr4 bK .nil pass0 rfl) (pe_prop (pv 1) S.cls PK GK hr4 bK .nil pass0 rfl) (nomark _))))))), ?_⟩
    rcases h with ⟨b, op2, wd2, nf2, rfl, hs2, hw2, k⟩ | ⟨b, xs, rfl, hb, k⟩
    · obtain ⟨dx, fs, ha, hf⟩ := id hs
      obtain ⟨dx2, fs2, hb, hf2⟩ := id hs2
      refine ⟨_, rfl, _, _, _, _, _, rfl, .own _, .base (.ins hb S.cls O.a1 O.a3 O.a4 O.a2), O.c1, _, rfl, yes rfl ?_⟩
      refine ⟨_, rfl, a, _, dx, fs, _, rfl, ha, S.cls, S.noat _ (by decide), hf.op, _, rfl, b, _, dx2, fs2, _, rfl, hb, S.cls, S.noat _ (by decide), hf2.op, rfl, _, rfl, ?_⟩
      by_cases c : op = op2
      · refine yes (decide_eq_true (congrArg V.str c)) ?_
        rw [decide_eq_true c] at k
        refine ⟨_, rfl, a, dx, fs, rfl, ha, a, op, wd, nf, rfl, hs, hw, fun T G nT sG hT => ?_⟩
        refine ⟨_, rfl, b, dx2, fs2, rfl, sG _ _ hb, b, op2, wd2, nf2, rfl, hs2.mv sG, hw2, fun T2 G2 nT2 sG2 hT2 => ?_⟩
        refine ⟨keyD wd nf, keyD wd2 nf2, .tup (SqT.of (sG2 _ _ hT)) (ints_dp _), .tup (SqT.of hT2) (ints_dp _), ints_shaped _, ints_shaped _, ?_⟩
        exact k _ (sG.trans sG2)
      · refine no (decide_eq_false fun e => c (by injection e)) ?_
        rw [decide_eq_false c] at k
        exact k _ (Same.refl H)
    · obtain ⟨dx, fs, ha, hf⟩ := id hs
      refine ⟨_, rfl, _, _, _, _, _, rfl, .own _, .base (.tup hb), O.c2, _, rfl, no rfl k⟩
theorem scArs : FnScope ["self", "cast", "worths", "name"] ["self"] (defScope sArs) := ⟨rfl, rfl, rfl, by decide +kernel, rfl, by decide +kernel, by decide +kernel⟩
theorem ok_ars {f fA : Addr} {fd fdA fdC : FuncData} (F : FunD K "arguments" "Scene.arguments" (defArgs sArs) (defBody sArs) (defScope sArs) [] [] f fd) (S : ScnK K) (C : CastK K)
    (GC : FnOk P w K mg base CX0 2 (ma K (ga K "Cast") "__init__") fdC ["self", "op", "world"] (spCastI K)) (bC : Binds K fdC ["self", "op", "world"] []) (gCa : mg "Cast" = some (.ref (ga K "Cast")))
    (GA : FnOk P w K mg base (L2N.CX P w) 3 fA fdA ["op"] (spArg K)) (bA : Binds K fdA ["op"] []) (kA : PySem.W.keepIn K (.ref fA) = true) (gA : mg "arguments_of" = some (.ref fA)) : FnOk P w K mg base CX0 4 f fd ["self"] (spArs K) := by
  refine F.ok scArs (fun vs H Q E h => ?_) (fun cdv A outer s H vs Q E hr h => ?_)
  · obtain ⟨a, wd, nf, o, rfl, _⟩ := h
    rfl
  · obtain ⟨a, wd, nf, o, rfl, ho, hs, k⟩ := h
    have nd := scArs.nd
    have hr3 := hr
    have hu := Nat.lt_of_le_of_lt (Nat.add_le_add_left (by decide : 1 ≤ 64) _) hr.units
    refine ⟨_, PSs.nox (pss_cons (ps_set (i := 1) nd rfl (Or.inl rfl) (pe_make C.made GC hr3 (by rfl) gCa bC .nil pass0 (pa_cons (pe_fld (pv 0) rfl) (pa_cons (pe_fld (pv 0) rfl) pa_nil))))
(pss_cons (ps_set (i := 2) nd rfl (Or.inr rfl) (pe_disp (pps_cons pe_str pe_str (pps_cons pe_str (pe_dget hu (pe_fld (pv 1) rfl) pe_str (fun _ _ => rfl)) (pps_cons pe_str (pe_dget hu (pe_fld (pv 1) rfl) pe_str (fun _ _ => rfl)) (pps_cons pe_str (pe_fld (pv 0) rfl) pps_nil)))) rfl rfl (by decide) (by decide)))
(pss_one (ps_ret (pe_dc (own := [("name", 3)]) (g := (gName 3)) (tt := tYes) rfl nd (pi_tup (pe_call GA hr3 (by rfl) gA kA bA .nil passLN (pa_cons (pe_fld (pv 0) rfl) pa_nil))) (blkOk_by (own := [("name", 3)]) (N := ["self", "cast", "worths", "name"]) (sc := defScope sArs) (by decide +kernel)) (fun _ _ _ _ _ => (pg_name (i := 3) nd rfl (Or.inl rfl))) (fun _ _ _ _ _ => pts_nil) (fun _ _ _ _ _ => (pv 3)) (fun _ _ _ _ _ => (pe_dget hu (pv 2) (pv 3) (fun _ _ => rfl)))))))), ?_⟩
    obtain ⟨dx, fs, ha, hf⟩ := id hs
    refine ⟨_, rfl, a, _, dx, fs, _, rfl, ha, S.cls, S.noat _ (by decide), hf.op, _, rfl, a, _, dx, fs, _, rfl, ha, S.cls, S.noat _ (by decide), hf.wd, fun x cdx nx ncdx hne => ⟨x, cdx, o.1, wd, rfl, upd_same, fun G L R fs2 Z => ⟨rfl, ?_⟩⟩⟩
    dsimp only [gName, List.set]
    have sG : Same H G := fun y u e => Z.sf y u (ne_of_none e nx) ((upd_ne (ne_of_none e nx)).trans ((upd_ne (ne_of_none e ncdx)).trans e))
    refine fun Wd nWd => ?_
    have nWH := sG.free nWd
    generalize e_G2 : upd _ Wd _ = G2
    have s_Wd := new_same e_G2 nWd
    have f_Wd := new_at e_G2
    clear e_G2
    have Z := Z.mv s_Wd
    have sG := sG.mv s_Wd
    have hR := Z.at_ _ List.mem_cons_self
    have hL := Z.at_ _ (List.mem_cons_of_mem _ List.mem_cons_self)
    have ha2 := sG _ _ ha
    refine ⟨_, rfl, x, _, cdx, fs2, _, rfl, Z.ha, C.cls, C.noat _ (by decide), hR.1, R, .str (if wd = "itself" then "x" else "y"), rfl, .inl ⟨_, .inr "y", .inl hR.2.1, rfl, by unfold rowS; rfl⟩, ?_⟩
    refine ⟨_, rfl, x, _, cdx, fs2, _, rfl, Z.ha, C.cls, C.noat _ (by decide), hL.1, L, .str (if apB o.1 wd = true then "to" else "home"), rfl, .inl ⟨_, .inr "to", .inl hL.2.1, rfl, by unfold lofS; rfl⟩, ?_⟩
    refine ⟨_, rfl, a, _, dx, fs, _, rfl, ha2, S.cls, S.noat _ (by decide), hf.nk (z := "k") (by decide), f_Wd, [(.inr "x", .str "x"), (.inr "y", .str (if wd = "itself" then "x" else "y")), (.inr "to", .str (if apB o.1 wd = true then "to" else "home")), (.inr "k", .int (nf "k"))], rfl, (by show 4 ≤ 15; decide), ?_⟩
    rw [mergeK_new (by show ([.inr "x", .inr "y", .inr "to", .inr "k"] : List Key).Nodup; decide +kernel)]
    generalize eW : upd G2 Wd (.dK [(.inr "x", .str "x"), (.inr "y", .str (if wd = "itself" then "x" else "y")), (.inr "to", .str (if apB o.1 wd = true then "to" else "home")), (.inr "k", .int (nf "k"))]) = G3
    have hWd : G3 Wd = some (.dK [(.inr "x", .str "x"), (.inr "y", .str (if wd = "itself" then "x" else "y")), (.inr "to", .str (if apB o.1 wd = true then "to" else "home")), (.inr "k", .int (nf "k"))]) := by rw [← eW]; exact upd_same
    have sG3 : Same H G3 := fun y u e => by rw [← eW]; exact (upd_ne (ne_of_none e nWH)).trans (sG y u e)
    clear eW
    have ha3 := sG3 _ _ ha
    obtain ⟨af1, af2, af3⟩ := arg_facts o ho
    obtain ⟨osh, oin⟩ := arg_one o ho
    refine ⟨_, rfl, a, _, dx, fs, _, rfl, ha3, S.cls, S.noat _ (by decide), hf.op, .str o.1, .str o.1, rfl, .str _, osh, fun o2 ho2 e2 A hA => ?_, fun h => ?_⟩
    rotate_left
    · rw [inS_str, decide_eq_true (args_ops o ho)] at h; cases h
    injection e2 with e2
    obtain rfl := oin o2 ho2 e2
    refine ⟨A, rfl, ⟨_, hA _⟩, fun D nD => ?_⟩
    have nDH := sG3.free nD
    refine dc_tup (K := K) (a := A) (xs := o.2.map V.str) (fun i G => G D = some (.dK (argKv o.1 wd (nf "k") (o.2.take i))) ∧ Same G3 G) ⟨upd_same, same_put nD⟩ (fun i G _ _ => hA G) ?_ ?_
    · rintro i xv Gi hx ⟨hD, si⟩
      obtain ⟨z, hz, rfl⟩ := Option.map_eq_some_iff.mp ((List.getElem?_map ..).symm.trans hx)
      have hzm := af3 z (List.mem_of_getElem? hz)
      refine ⟨rfl, ?_⟩
      have gz : DGet Gi Wd (.str z) (some (argW o.1 wd (nf "k") z)) := by
        refine .inl ⟨_, .inr z, .inl (si _ _ hWd), rfl, ?_⟩
        rcases List.mem_cons.mp hzm with rfl | hzm
        · unfold argW; rw [if_pos rfl]; rfl
        rcases List.mem_cons.mp hzm with rfl | hzm
        · unfold argW; rw [if_neg (by decide +kernel), if_pos rfl]; rfl
        rcases List.mem_cons.mp hzm with rfl | hzm
        · unfold argW; rw [if_neg (by decide +kernel), if_neg (by decide +kernel), if_pos rfl]; rfl
        rw [List.mem_singleton.mp hzm]
        unfold argW; rw [if_neg (by decide +kernel), if_neg (by decide +kernel), if_neg (by decide +kernel)]; rfl
      have etk : argKv o.1 wd (nf "k") (o.2.take (i + 1)) = argKv o.1 wd (nf "k") (o.2.take i) ++ [(.inr z, argW o.1 wd (nf "k") z)] := by
        unfold argKv
        rw [List.take_succ, hz, List.map_append]; rfl
      have fresh : ∀ q ∈ argKv o.1 wd (nf "k") (o.2.take i), q.1 ≠ .inr z := fun q hq e => by
        obtain ⟨y, hy, rfl⟩ := List.mem_map.mp hq
        have e1 : y = z := by injection e
        subst e1
        obtain ⟨j2, hj2, ej2⟩ := List.mem_iff_getElem.mp hy
        rw [List.length_take] at hj2
        rw [List.getElem_take] at ej2
        obtain ⟨hil, ei⟩ := List.getElem?_eq_some_iff.mp hz
        have := List.pairwise_iff_getElem.mp af1 j2 i (by omega) hil (by omega)
        rw [ej2, ei] at this
        exact this rfl
      refine ⟨_, rfl, _, rfl, _, rfl, Wd, _, rfl, gz, _, .inr z, rfl, hD, ?_, ?_⟩
      · unfold argKv
        rw [List.length_map, sizeLine_eq, List.length_take]
        omega
      · rw [put_new fresh, etk]
        exact ⟨upd_same, fun y u e => (upd_ne (ne_of_none e nD)).trans (si y u e)⟩
    · rintro Gn ⟨hD, sn⟩
      rw [List.length_map, List.take_length] at hD
      exact k D Gn nDH (sG3.trans sn) hD
end
end K23

set_option Elab.async false
set_option maxRecDepth 100000
set_option maxHeartbeats 2000000
namespace K23
open PySem PySem.Spec PyProof.Rows L2 He KX
abbrev sLSc : Stmt := top 35
abbrev sLAr : Stmt := top 36
abbrev sLKe : Stmt := top 37
def nuN (n : Str → V) : List (Key × V) := nu6 (n "home") (n "to") (n "x") (n "y") (n "k") (n "other")
abbrev nI (nf : Str → Int) : Str → PyData := fun z => .int (nf z)
abbrev nV (nf : Str → Int) : Str → V := fun z => .int (nf z)
def spLSc (K : PySem.W.Frag) : Sp := fun vs H Q _ => ∃ (op wd : Str) (D : Addr) (nf : Str → Int), vs = [.str op, .str wd, .ref D] ∧ op ∈ ops ∧ wd ∈ wor op ∧ H D = some (.dK (nuN (nV nf))) ∧ wrong (okP op wd (nI nf)) = none ∧ ∀ a G, H a = none → Same H G → ScnAt K G a op wd nf → Q (.ref a) G
def spLAr (K : PySem.W.Frag) : Sp := fun vs H Q _ => ∃ (o : Str × List Str) (wd : Str) (D : Addr) (nf : Str → Int), vs = [.str o.1, .str wd, .ref D] ∧ o ∈ args ∧ wd ∈ wor o.1 ∧ H D = some (.dK (nuN (nV nf))) ∧ ∀ a G, H a = none → Same H G → G a = some (.dK (argKv o.1 wd (nf "k") o.2)) → Q (.ref a) G
def spLKe (K : PySem.W.Frag) : Sp := fun vs H Q _ => ∃ (wd : Str) (D : Addr) (nf : Str → Int), vs = [.str wd, .ref D] ∧ wd ∈ rks ∧ H D = some (.dK (nuN (nV nf))) ∧ ∀ T G, H T = none → Same H G → G T = some (.tup ((keyV wd nf).map V.int)) → Q (.ref T) G
theorem wd_sh : ∀ op ∈ ops, SeqAt.shaped (.str op) = true ∧ ∀ wd ∈ wor op, SeqAt.shaped (.str wd) = true ∧ wd ∈ rks := by decide +kernel
/-- the arguments in the law's words -/
def tX : List (Str × Option Str) := [("x", some "x")]
def tY (op wd : Str) : List (Str × Option Str) := if op = "swap" then [("y", some (if wd = "itself" then "x" else "y"))] else []
def tT (op wd : Str) : List (Str × Option Str) := if op ∈ (["put", "add", "move", "send"] : List Str) then [("to", some (if wd = "within" then "home" else "to"))] else []
def tK (op : Str) : List (Str × Option Str) := if op ∈ (["put", "move"] : List Str) then [("k", none)] else []
def lawT (op wd : Str) : List (Str × Option Str) := tX ++ tY op wd ++ tT op wd ++ tK op
def argT (op wd : Str) (l : List Str) : List (Str × Option Str) := l.map fun z => (z, if z = "x" then some "x" else if z = "y" then some (if wd = "itself" then "x" else "y") else if z = "to" then some (if apB op wd = true then "to" else "home") else none)
theorem lawT_eq : ∀ o ∈ args, ∀ wd ∈ wor o.1, lawT o.1 wd = argT o.1 wd o.2 := by decide +kernel
def kvT (k : Int) (l : List (Str × Option Str)) : List (Key × V) := l.map fun p => (.inr p.1, match p.2 with | some z => .str z | none => .int k)
theorem argKv_T (op wd : Str) (k : Int) (l : List Str) : argKv op wd k l = kvT k (argT op wd l) := by
  unfold argKv kvT argT
  rw [List.map_map]
  refine List.map_congr_left fun z _ => ?_
  show _ = ((.inr z, _) : Key × V)
  congr 1
  unfold argW
  dsimp only
  split
  · rfl
  split
  · rfl
  split <;> rfl
theorem rk_at : ∀ wd ∈ rks, rks[rks.idxOf wd]? = some wd := by decide +kernel
theorem rk_lt : ∀ wd ∈ rks, ∀ z ∈ rks.take (rks.idxOf wd), z ≠ wd := by decide +kernel
theorem at2s {a b : Str} {c : Bool} : atI [V.str a, V.str b] (if c = true then (1 : Int) else 0) = some (.str (if c = true then b else a)) := by
  cases c
  · exact atI_nat (j := 0) rfl
  · exact atI_nat (j := 1) rfl
theorem kvT_app (k : Int) (a b : List (Str × Option Str)) : kvT k (a ++ b) = kvT k a ++ kvT k b := List.map_append ..
section
variable {P : Program} {w : World} {K : PySem.W.Frag} {mg : Str → Option Value} {base : Heap}
theorem scLSc : FnScope ["op", "world", "n"] ["op", "world", "n"] (defScope sLSc) := ⟨rfl, rfl, rfl, by decide +kernel, rfl, by decide +kernel, by decide +kernel⟩
theorem ok_lsc {f : Addr} {fd fdC : FuncData} (F : FnP K "_law_scene" sLSc f fd) (S : ScnK K)
    (GC : FnOk P w K mg base (L2N.CX P w) 5 (ma K (ga K "Scene") "__init__") fdC sciP (spSci K)) (kb : KBn K fdC sciP 3 (["home", "to", "x", "y", "k", "other"] : List Str) (fun us ws => us ++ ws) (fun vs zs => vs ++ zs)) (gSc : mg "Scene" = some (.ref (ga K "Scene"))) : FnOk P w K mg base CX0 7 f fd ["op", "world", "n"] (spLSc K) := by
  refine F.ok scLSc (fun vs H Q E h => ?_) (fun cdv A outer s H vs Q E hr h => ?_)
  · obtain ⟨op, wd, D, nf, rfl, _⟩ := h
    rfl
  · obtain ⟨op, wd, D, nf, rfl, hop, hwd, hD, hg, k⟩ := h
    have nd := scLSc.nd
    have hr6 := hr
    have hu := Nat.lt_of_le_of_lt (Nat.add_le_add_left (by decide : 1 ≤ 64) _) hr.units
    refine ⟨_, PSs.nox (pss_one (ps_ret (pe_makeK S.made GC hr6 (by rfl) gSc kb passLN (pa_cons (pv 0) (pa_cons (pv 1) pa_nil)) (pk_cons (pe_dget hu (pv 2) pe_str (fun _ _ => rfl)) (pk_cons (pe_dget hu (pv 2) pe_str (fun _ _ => rfl)) (pk_cons (pe_dget hu (pv 2) pe_str (fun _ _ => rfl)) (pk_cons (pe_dget hu (pv 2) pe_str (fun _ _ => rfl)) (pk_cons (pe_dget hu (pv 2) pe_str (fun _ _ => rfl)) (pk_cons (pe_dget hu (pv 2) pe_str (fun _ _ => rfl)) pk_nil))))))))), ?_⟩
    refine ⟨_, rfl, _, rfl, _, rfl, D, _, rfl, dg_home hD, _, rfl, D, _, rfl, dg_to hD, _, rfl, D, _, rfl, dg_x hD, _, rfl, D, _, rfl, dg_y hD, _, rfl, D, _, rfl, dg_k hD, _, rfl, D, _, rfl, dg_other hD, rfl, rfl, fun a dx na ndx hne => ?_⟩
    have s1 : Same H (upd (upd H dx (.own a)) a (.ins (ga K "Scene") dx [])) := (same_put ndx).trans (same_put ((upd_ne hne.symm).trans na))
    obtain ⟨osh, wsh⟩ := wd_sh op hop
    refine ⟨a, dx, H, .str op, .str wd, nV nf, .str op, .str wd, nI nf, rfl, ⟨.str _, osh, .str _, (wsh wd hwd).1, fun z _ => .int _⟩, na, s1, upd_same, fun h => ?_, fun op2 h2 e2 h => ?_, fun op2 h2 e2 wd2 h3 e3 z h => ?_,
        fun op2 h2 e2 wd2 h3 e3 h G fs sG ha hf => ⟨rfl, k a G na sG ⟨dx, fs, ha, hf⟩⟩⟩
    · rw [inS_str, decide_eq_true hop] at h; cases h
    · injection e2 with e2
      subst e2
      rw [inS_str, decide_eq_true hwd] at h; cases h
    · injection e2 with e2
      injection e3 with e3
      subst e2
      subst e3
      rw [hg] at h
      cases h
theorem scLAr : FnScope ["op", "world", "n", "wanted"] ["op", "world", "n"] (defScope sLAr) := ⟨rfl, rfl, rfl, by decide +kernel, rfl, by decide +kernel, by decide +kernel⟩
theorem ok_lar {f : Addr} {fd : FuncData} (F : FnP K "_law_arguments" sLAr f fd) (n_int : mg "int" = none) : FnOk P w K mg base CX0 1 f fd ["op", "world", "n"] (spLAr K) := by
  refine F.ok scLAr (fun vs H Q E h => ?_) (fun cdv A outer s H vs Q E hr h => ?_)
  · obtain ⟨o, wd, D, nf, rfl, _⟩ := h
    rfl
  · obtain ⟨o, wd, D, nf, rfl, ho, hwd, hD, k⟩ := h
    have nd := scLAr.nd
    have hu := Nat.lt_of_le_of_lt (Nat.add_le_add_left (by decide : 1 ≤ 64) _) hr.units
    refine ⟨_, PSs.nox (pss_cons (ps_set (i := 3) nd rfl (Or.inl rfl) (pe_disp (pps_cons pe_str pe_str pps_nil) rfl rfl (by decide) (by decide)))
(pss_cons (ps_if (pt_cmpR op_eq (pv 0) pe_str (nomark _))
(pss_one (ps_dput hu (pv 3) pe_str (pe_ix ix_list (pe_lst (pa_cons pe_str (pa_cons pe_str pa_nil))) (pe_callTy call_int1 (by rfl) n_int (by decide +kernel) (pa_cons (pe_cmpR op_eq (pv 1) pe_str (nomark _)) pa_nil)) (fun _ _ => rfl)) rfl))
pss_nil)
(pss_cons (ps_if (pt_cmpR op_in_seq (pv 0) (pe_tup (pa_cons pe_str (pa_cons pe_str (pa_cons pe_str (pa_cons pe_str pa_nil))))) rfl)
(pss_one (ps_dput hu (pv 3) pe_str (pe_ix ix_list (pe_lst (pa_cons pe_str (pa_cons pe_str pa_nil))) (pe_callTy call_int1 (by rfl) n_int (by decide +kernel) (pa_cons (pe_cmpR op_eq (pv 1) pe_str (nomark _)) pa_nil)) (fun _ _ => rfl)) rfl))
pss_nil)
(pss_cons (ps_if (pt_cmpR op_in_seq (pv 0) (pe_tup (pa_cons pe_str (pa_cons pe_str pa_nil))) rfl)
(pss_one (ps_dput hu (pv 3) pe_str (pe_dget hu (pv 2) pe_str (fun _ _ => rfl)) rfl))
pss_nil)
(pss_one (ps_ret (pv 3))))))), ?_⟩
    refine fun C nC => ⟨upd_same, [(.inr "x", .str "x")], rfl, by decide, ?_⟩
    rw [mergeK_new (by decide)]
    dsimp only [gName, List.set]
    -- the dict that is filled
    have nDC : D ≠ C := ne_of_none hD nC
    have Z : ∀ {G : Hp} {l l' : List (Key × V)}, Same H G ∧ G C = some (.dK l) → Same H (upd G C (.dK l')) ∧ upd G C (.dK l') C = some (.dK l') := fun h => ⟨fun x o e => (upd_ne (ne_of_none e nC)).trans (h.1 x o e), upd_same⟩
    have hZ : Same H (upd (upd H C (.dK [])) C (.dK [(.inr "x", .str "x")])) ∧ upd (upd H C (.dK [])) C (.dK [(.inr "x", .str "x")]) C = some (.dK [(.inr "x", .str "x")]) := Z (l := []) ⟨same_put nC, upd_same⟩
    generalize upd (upd H C (.dK [])) C (.dK [(.inr "x", .str "x")]) = G0 at hZ ⊢
    obtain ⟨op, l⟩ := o
    have key := lawT_eq _ ho wd hwd
    dsimp only at key k hwd ⊢
    -- y
    refine seq_by (fun σ G => σ = [some (.str op), some (.str wd), some (.ref D), some (.ref C)] ∧ Same H G ∧ G C = some (.dK (kvT (nf "k") (tX ++ tY op wd)))) ?_ (fun nxt => ?_)
    rotate_left
    · refine ⟨_, rfl, rfl, _, rfl, ?_⟩
      unfold tY at nxt
      by_cases c : op = "swap"
      · refine yes (decide_eq_true (congrArg V.str c)) ?_
        rw [if_pos c] at nxt
        refine ⟨(by show 2 ≤ sizeLine; decide), fun L nL => ?_⟩
        generalize e_G1 : upd _ L _ = G1
        have s_L := new_same e_G1 nL
        have f_L := new_at e_G1
        clear e_G1
        have hZ1 := hZ.1.trans s_L
        have hZ2 := s_L _ _ hZ.2
        refine ⟨_, rfl, rfl, .inr ⟨_, rfl, ?_⟩⟩
        refine ⟨L, _, _, _, rfl, rfl, SqL.of f_L, at2s, ?_⟩
        refine ⟨_, rfl, C, _, rfl, .inl ⟨_, .inr "y", hZ2, rfl, by decide, rfl⟩, ?_⟩
        obtain ⟨q1, q2⟩ := Z (l' := kvT (nf "k") (tX ++ ([("y", some (if wd = "itself" then "x" else "y"))] : List (Str × Option Str)))) ⟨hZ1, hZ2⟩
        refine nxt _ _ ⟨rfl, ?_⟩
        rw [put_new (fun p hp => by rw [List.mem_singleton.mp hp]; show (Sum.inr "x" : Key) ≠ .inr "y"; decide +kernel), dstr]
        have ee : (([(.inr "x", .str "x")] : List (Key × V)) ++ [(.inr "y", .str (if decide (wd = "itself") = true then "x" else "y"))]) = kvT (nf "k") (tX ++ ([("y", some (if wd = "itself" then "x" else "y"))] : List (Str × Option Str))) := by
          by_cases c2 : wd = "itself"
          · rw [decide_eq_true c2, if_pos rfl, if_pos c2]; rfl
          · rw [decide_eq_false c2, if_neg Bool.false_ne_true, if_neg c2]; rfl
        rw [ee]
        exact ⟨q1, q2⟩
      · refine no (decide_eq_false fun e => c (by injection e)) ?_
        rw [if_neg c] at nxt
        exact nxt _ _ ⟨rfl, hZ⟩
    clear hZ
    rintro σ G ⟨rfl, hZ⟩
    have noTo : ∀ p ∈ kvT (nf "k") (tX ++ tY op wd), p.1 ≠ .inr "to" := by
      intro p hp
      unfold kvT at hp
      obtain ⟨q, hq, rfl⟩ := List.mem_map.mp hp
      have : ∀ op ∈ ops, ∀ wd ∈ wor op, ∀ q ∈ tX ++ tY op wd, q.1 ≠ "to" := by decide +kernel
      intro e
      injection e with e
      exact this op (args_ops _ ho) wd hwd q hq e
    -- to
    refine seq_by (fun σ G => σ = [some (.str op), some (.str wd), some (.ref D), some (.ref C)] ∧ Same H G ∧ G C = some (.dK (kvT (nf "k") (tX ++ tY op wd ++ tT op wd)))) ?_ (fun nxt => ?_)
    rotate_left
    · refine ⟨_, rfl, (by show 4 ≤ sizeLine; decide), fun T nT => ?_⟩
      generalize e_G1 : upd _ T _ = G1
      have s_T := new_same e_G1 nT
      have f_T := new_at e_G1
      clear e_G1
      have hZ1 := hZ.1.trans s_T
      have hZ2 := s_T _ _ hZ.2
      refine ⟨T, (["put", "add", "move", "send"] : List Str).map V.str, rfl, .inr (SqT.of f_T), rfl, rfl, _, rfl, ?_⟩
      rw [if_neg Bool.false_ne_true, inV_str]
      unfold tT at nxt
      by_cases c : op ∈ (["put", "add", "move", "send"] : List Str)
      · refine yes (decide_eq_true c) ?_
        rw [if_pos c] at nxt
        refine ⟨(by show 2 ≤ sizeLine; decide), fun L nL => ?_⟩
        generalize e_G2 : upd _ L _ = G2
        have s_L := new_same e_G2 nL
        have f_L := new_at e_G2
        clear e_G2
        have hZ1 := hZ1.trans s_L
        have hZ2 := s_L _ _ hZ2
        refine ⟨_, rfl, rfl, .inr ⟨_, rfl, ?_⟩⟩
        refine ⟨L, _, _, _, rfl, rfl, SqL.of f_L, at2s, ?_⟩
        refine ⟨_, rfl, C, _, rfl, .inl ⟨_, .inr "to", hZ2, rfl, ?_, rfl⟩, ?_⟩
        · unfold kvT
          rw [List.length_map, List.length_append, sizeLine_eq]
          have : (tY op wd).length ≤ 1 := by unfold tY; split <;> first | exact Nat.le_refl 1 | exact Nat.zero_le _
          have : tX.length = 1 := rfl
          omega
        obtain ⟨q1, q2⟩ := Z (l' := kvT (nf "k") (tX ++ tY op wd ++ ([("to", some (if wd = "within" then "home" else "to"))] : List (Str × Option Str)))) ⟨hZ1, hZ2⟩
        refine nxt _ _ ⟨rfl, ?_⟩
        rw [put_new noTo, dstr]
        have ee : kvT (nf "k") (tX ++ tY op wd) ++ [(.inr "to", .str (if decide (wd = "within") = true then "home" else "to"))] = kvT (nf "k") (tX ++ tY op wd ++ ([("to", some (if wd = "within" then "home" else "to"))] : List (Str × Option Str))) := by
          rw [kvT_app (nf "k") (tX ++ tY op wd)]
          by_cases c2 : wd = "within"
          · rw [decide_eq_true c2, if_pos rfl, if_pos c2]; rfl
          · rw [decide_eq_false c2, if_neg Bool.false_ne_true, if_neg c2]; rfl
        rw [ee]
        exact ⟨q1, q2⟩
      · refine no (decide_eq_false c) ?_
        rw [if_neg c, List.append_nil] at nxt
        exact nxt _ _ ⟨rfl, hZ1, hZ2⟩
    clear hZ
    rintro σ G ⟨rfl, hZ⟩
    have noK : ∀ p ∈ kvT (nf "k") (tX ++ tY op wd ++ tT op wd), p.1 ≠ .inr "k" := by
      intro p hp
      unfold kvT at hp
      obtain ⟨q, hq, rfl⟩ := List.mem_map.mp hp
      have : ∀ op ∈ ops, ∀ wd ∈ wor op, ∀ q ∈ tX ++ tY op wd ++ tT op wd, q.1 ≠ "k" := by decide +kernel
      intro e
      injection e with e
      exact this op (args_ops _ ho) wd hwd q hq e
    -- k
    refine seq_by (fun σ G => σ = [some (.str op), some (.str wd), some (.ref D), some (.ref C)] ∧ Same H G ∧ G C = some (.dK (kvT (nf "k") (lawT op wd)))) ?_ (fun nxt => ?_)
    rotate_left
    · refine ⟨_, rfl, (by show 2 ≤ sizeLine; decide), fun T nT => ?_⟩
      generalize e_G1 : upd _ T _ = G1
      have s_T := new_same e_G1 nT
      have f_T := new_at e_G1
      clear e_G1
      have hZ1 := hZ.1.trans s_T
      have hZ2 := s_T _ _ hZ.2
      refine ⟨T, (["put", "move"] : List Str).map V.str, rfl, .inr (SqT.of f_T), rfl, rfl, _, rfl, ?_⟩
      rw [if_neg Bool.false_ne_true, inV_str]
      unfold lawT tK at nxt
      by_cases c : op ∈ (["put", "move"] : List Str)
      · refine yes (decide_eq_true c) ?_
        rw [if_pos c] at nxt
        refine ⟨_, rfl, D, _, rfl, dg_k (hZ1 _ _ hD), ?_⟩
        refine ⟨_, rfl, C, _, rfl, .inl ⟨_, .inr "k", hZ2, rfl, ?_, rfl⟩, ?_⟩
        · unfold kvT
          rw [List.length_map, List.length_append, List.length_append, sizeLine_eq]
          have : (tY op wd).length ≤ 1 := by unfold tY; split <;> first | exact Nat.le_refl 1 | exact Nat.zero_le _
          have : (tT op wd).length ≤ 1 := by unfold tT; split <;> first | exact Nat.le_refl 1 | exact Nat.zero_le _
          have : tX.length = 1 := rfl
          omega
        obtain ⟨q1, q2⟩ := Z (l' := kvT (nf "k") (tX ++ tY op wd ++ tT op wd ++ ([("k", none)] : List (Str × Option Str)))) ⟨hZ1, hZ2⟩
        refine nxt _ _ ⟨rfl, ?_⟩
        rw [put_new noK]
        have ee : kvT (nf "k") (tX ++ tY op wd ++ tT op wd) ++ [(.inr "k", .int (nf "k"))] = kvT (nf "k") (tX ++ tY op wd ++ tT op wd ++ ([("k", none)] : List (Str × Option Str))) := by
          rw [kvT_app (nf "k") (tX ++ tY op wd ++ tT op wd)]; rfl
        rw [ee]
        exact ⟨q1, q2⟩
      · refine no (decide_eq_false c) ?_
        rw [if_neg c, List.append_nil] at nxt
        exact nxt _ _ ⟨rfl, hZ1, hZ2⟩
    clear hZ
    rintro σ G ⟨rfl, hZ⟩
    refine ⟨_, rfl, k C G nC hZ.1 ?_⟩
    rw [argKv_T, ← key]
    exact hZ.2
theorem scLKe : FnScope ["world", "n", "rank", "total"] ["world", "n"] (defScope sLKe) := ⟨rfl, rfl, rfl, by decide +kernel, rfl, by decide +kernel, by decide +kernel⟩
theorem ok_lke {f : Addr} {fd : FuncData} (F : FnP K "_law_key" sLKe f fd) : FnOk P w K mg base CX0 1 f fd ["world", "n"] (spLKe K) := by
  refine F.ok scLKe (fun vs H Q E h => ?_) (fun cdv A outer s H vs Q E hr h => ?_)
  · obtain ⟨wd, D, nf, rfl, _⟩ := h
    rfl
  · obtain ⟨wd, D, nf, rfl, hw, hD, k⟩ := h
    have nd := scLKe.nd
    have hu := Nat.lt_of_le_of_lt (Nat.add_le_add_left (by decide : 1 ≤ 64) _) hr.units
    refine ⟨_, PSs.nox (pss_cons (ps_set (i := 2) nd rfl (Or.inl rfl) (pe_bm PySem.F.plainAttrs_list PySem.F.slot_list_index PySem.F.type_list_index mt_index (pe_lst (pa_cons pe_str (pa_cons pe_str (pa_cons pe_str (pa_cons pe_str pa_nil))))) (pa_cons (pv 0) pa_nil)))
(pss_cons (ps_set (i := 3) nd rfl (Or.inl rfl) (pe_op op_add (pe_op op_add (pe_dget hu (pv 1) pe_str (fun _ _ => rfl)) (pe_dget hu (pv 1) pe_str (fun _ _ => rfl))) (pe_dget hu (pv 1) pe_str (fun _ _ => rfl))))
(pss_one (ps_ret (pe_tup (pa_cons (pv 3) (pa_cons (pv 2) (pa_cons (pe_dget hu (pv 1) pe_str (fun _ _ => rfl)) (pa_cons (pe_dget hu (pv 1) pe_str (fun _ _ => rfl)) (pa_cons (pe_dget hu (pv 1) pe_str (fun _ _ => rfl)) (pa_cons (pe_dget hu (pv 1) pe_str (fun _ _ => rfl)) (pa_cons (pe_dget hu (pv 1) pe_str (fun _ _ => rfl)) pa_nil)))))))))))), ?_⟩
    refine ⟨(by show 4 ≤ sizeLine; decide), fun L nL => ?_⟩
    generalize e_G1 : upd _ L _ = G1
    have s_L := new_same e_G1 nL
    have f_L := new_at e_G1
    clear e_G1
    have hD1 := s_L _ _ hD
    have lt : ∀ (m : Nat) (z : V), m < rks.idxOf wd → (rks.map V.str)[m]? = some z → eqV z (.str wd) = false := fun m z hm hz => by
      obtain ⟨y, hy, rfl⟩ := Option.map_eq_some_iff.mp ((List.getElem?_map ..).symm.trans hz)
      have : y ∈ rks.take (rks.idxOf wd) := List.mem_of_getElem? (show (rks.take (rks.idxOf wd))[m]? = some y by rw [List.getElem?_take, if_pos hm]; exact hy)
      exact beq_eq_false_iff_ne.mpr (rk_lt wd hw y this)
    have fl : (rks.map V.str).all flatV = true := List.all_eq_true.mpr fun y hy => by
      obtain ⟨z, _, rfl⟩ := List.mem_map.mp hy
      rfl
    refine ⟨.inl ⟨rfl, _, SqL.of f_L⟩, ?_⟩
    refine ⟨_, rfl, L, rks.map V.str, .str wd, rks.idxOf wd, .str wd, rfl, rfl, SqL.of f_L, rfl, fl, by rw [List.getElem?_map, rk_at wd hw]; rfl, beq_self_eq_true wd, lt, ?_⟩
    refine ⟨_, rfl, D, _, rfl, dg_home hD1, _, rfl, D, _, rfl, dg_to hD1, _, _, rfl, rfl, _, rfl, D, _, rfl, dg_other hD1, _, _, rfl, rfl, ?_⟩
    refine ⟨_, rfl, _, rfl, _, rfl, D, _, rfl, dg_home hD1, _, rfl, D, _, rfl, dg_to hD1, _, rfl, D, _, rfl, dg_x hD1, _, rfl, D, _, rfl, dg_y hD1, _, rfl, D, _, rfl, dg_k hD1, (by show 7 ≤ sizeLine; decide), fun T nT => ?_⟩
    exact k T _ (s_L.free nT) (s_L.trans (same_put nT)) upd_same
end
end K23

set_option Elab.async false
set_option maxRecDepth 100000
set_option maxHeartbeats 2000000
/-! repr of data of any form; things: drawn odd objects, names and whole numbers. -/
namespace KX
open PySem PySem.Spec PyProof.Rows L2
def rReprD (K : PySem.W.Frag) : List V → Hp → VK → Prop := fun xs H Q => ∃ (v : V) (d : PyData), xs = [v] ∧ Dp K H v d ∧ Small d 8 sizeLine ∧ Q (.str d.shown) H
theorem call_reprD {X : Cx} (hg : X.A.guards = some []) (hu : X.A.units + 10 < cLine) : CallR X (.builtin "repr") (rReprD X.K) := by
  intro pins s σ H xs us Q I r h
  obtain ⟨v, d, rfl, hd, hs, q⟩ := h
  cases hd with
  | lst a b => exact call_repr hg hu pins s σ H _ us Q I r ⟨_, _, rfl, .lst a b, hs.sh, hs.nd, hs.dp, hs.ln, q⟩
  | tup a b => exact call_repr hg hu pins s σ H _ us Q I r ⟨_, _, rfl, .tup a b, hs.sh, hs.nd, hs.dp, hs.ln, q⟩
  | non =>
    obtain ⟨u, rfl, ru⟩ := vals1 r
    cases ru
    exact PySem.P.repr_of_none ⟨.str _, H, I.tok _, ⟨_, rfl⟩, q⟩
  | bl b =>
    obtain ⟨u, rfl, ru⟩ := vals1 r
    cases ru
    exact PySem.P.repr_of_bool ⟨.str _, H, I.tok _, ⟨_, by cases b <;> rfl⟩, q⟩
  | int i =>
    obtain ⟨u, rfl, t, rfl⟩ := vals1 r
    exact PySem.P.repr_of_int (of_decide_eq_true hs.sh) ⟨.str _, H, I.tok _, ⟨_, rfl⟩, q⟩
  | str x =>
    obtain ⟨u, rfl, t, rfl⟩ := vals1 r
    exact PySem.P.repr_of_str (hsz := hs.ln) ⟨.str _, H, I.tok _, ⟨_, rfl⟩, q⟩
/-- a thing: a scalar, or one of the odd lists and tuples -/
def ThV (m : Nat) (H : Hp) : V → PyData → Prop := fun v d =>
  (ScD m d ∧ ((v = .non ∧ d = .none) ∨ (∃ b, v = .bl b ∧ d = .bool b) ∨ (∃ i, v = .int i ∧ d = .int i) ∨ ∃ z, v = .str z ∧ d = .str z)) ∨
  (∃ p, v = .ref p ∧ H p = some (.lst [.str "a"]) ∧ d = .list [.str "a"]) ∨ (∃ p, v = .ref p ∧ H p = some (.tup [.str "a", .int 1]) ∧ d = .tuple [.str "a", .int 1]) ∨
  (∃ p, v = .ref p ∧ H p = some (.lst []) ∧ d = .list []) ∨ (∃ p, v = .ref p ∧ H p = some (.tup []) ∧ d = .tuple []) ∨
  (∃ p q, v = .ref p ∧ H p = some (.lst [.ref q]) ∧ H q = some (.lst [.int 1]) ∧ d = .list [.list [.int 1]])
/-- what odd lists and tuples are on the heap -/
def OddO (o : HO) : Prop := o = .lst [.str "a"] ∨ o = .tup [.str "a", .int 1] ∨ o = .lst [] ∨ o = .tup [] ∨ o = .lst [.int 1] ∨ ∃ q, o = .lst [.ref q]
section
variable {m : Nat} {K : PySem.W.Frag} {H G : Hp} {v : V} {d : PyData}
theorem ThV.keep (h : ThV m H v d) (k : ∀ p o, OddO o → H p = some o → G p = some o) : ThV m G v d := by
  rcases h with h | ⟨p, e, hp, ed⟩ | ⟨p, e, hp, ed⟩ | ⟨p, e, hp, ed⟩ | ⟨p, e, hp, ed⟩ | ⟨p, q, e, hp, hq, ed⟩
  · exact .inl h
  · exact .inr (.inl ⟨p, e, k _ _ (.inl rfl) hp, ed⟩)
  · exact .inr (.inr (.inl ⟨p, e, k _ _ (.inr (.inl rfl)) hp, ed⟩))
  · exact .inr (.inr (.inr (.inl ⟨p, e, k _ _ (.inr (.inr (.inl rfl))) hp, ed⟩)))
  · exact .inr (.inr (.inr (.inr (.inl ⟨p, e, k _ _ (.inr (.inr (.inr (.inl rfl)))) hp, ed⟩))))
  · exact .inr (.inr (.inr (.inr (.inr ⟨p, q, e, k _ _ (.inr (.inr (.inr (.inr (.inr ⟨q, rfl⟩))))) hp, k _ _ (.inr (.inr (.inr (.inr (.inl rfl))))) hq, ed⟩))))
theorem ThV.same (h : ThV m H v d) (s : Same H G) : ThV m G v d := h.keep fun p o _ e => s p o e
/-- all but one object stands, and that is none of them -/
theorem ThV.but {b : Addr} (h : ThV m H v d) (k : Kept b H G) (hb : ∀ o, OddO o → H b ≠ some o) : ThV m G v d :=
  h.keep fun p o ho e => k p o (fun z => hb o ho (z ▸ e)) e
theorem ThV.mono {m' : Nat} (h : ThV m H v d) (hm : m ≤ m') : ThV m' H v d := by
  rcases h with ⟨h1, h2⟩ | h
  · exact .inl ⟨h1.mono hm, h2⟩
  · exact .inr h
theorem ThV.dp (h : ThV m H v d) : Dp K H v d := by
  rcases h with ⟨_, ⟨rfl, rfl⟩ | ⟨b, rfl, rfl⟩ | ⟨i, rfl, rfl⟩ | ⟨z, rfl, rfl⟩⟩ | ⟨p, rfl, hp, rfl⟩ | ⟨p, rfl, hp, rfl⟩ | ⟨p, rfl, hp, rfl⟩ | ⟨p, rfl, hp, rfl⟩ | ⟨p, q, rfl, hp, hq, rfl⟩
  · exact .non
  · exact .bl b
  · exact .int i
  · exact .str z
  · exact .lst (SqL.of hp) (.cons (.str _) .nil)
  · exact .tup (SqT.of hp) (.cons (.str _) (.cons (.int _) .nil))
  · exact .lst (SqL.of hp) .nil
  · exact .tup (SqT.of hp) .nil
  · exact .lst (SqL.of hp) (.cons (.lst (SqL.of hq) (.cons (.int _) .nil)) .nil)
theorem ThV.small (h : ThV m H v d) (hm : m < 10 ^ 40) : Small d 8 2000 := by
  rcases h with ⟨h, _⟩ | ⟨_, _, _, rfl⟩ | ⟨_, _, _, rfl⟩ | ⟨_, _, _, rfl⟩ | ⟨_, _, _, rfl⟩ | ⟨_, _, _, _, _, rfl⟩
  · exact (sc_small hm h).mono (by decide) (by decide)
  all_goals exact ⟨by decide +kernel, by decide +kernel, by decide +kernel, by decide +kernel⟩
theorem ThV.okN (h : ThV m H v d) : okN d := by
  rcases h with ⟨h, _⟩ | ⟨_, _, _, rfl⟩ | ⟨_, _, _, rfl⟩ | ⟨_, _, _, rfl⟩ | ⟨_, _, _, rfl⟩ | ⟨_, _, _, _, _, rfl⟩
  · exact sc_okN h
  all_goals exact fun z e => nomatch e
theorem ThV.shaped (h : ThV m H v d) : SeqAt.shaped d = true := by
  rcases h with ⟨h, _⟩ | ⟨_, _, _, rfl⟩ | ⟨_, _, _, rfl⟩ | ⟨_, _, _, rfl⟩ | ⟨_, _, _, rfl⟩ | ⟨_, _, _, _, _, rfl⟩
  · obtain ⟨h1, h2⟩ := sc_lay h
    exact Bool.and_eq_true_iff.mpr ⟨h1, decide_eq_true (Nat.le_trans h2 (by decide))⟩
  all_goals decide +kernel
end
end KX

set_option Elab.async false
set_option maxRecDepth 100000
set_option maxHeartbeats 2000000
namespace K23
open PySem PySem.Spec PyProof.Rows L2 He KX
abbrev sLFi : Stmt := top 38
theorem made_le {op wd : Str} {d : Str → PyData} (hop : op ∈ ops) (hwd : wd ∈ wor op) (h : wrong (okP op wd d) = none) : ∀ z ∈ nk, 0 ≤ iv (d z) ∧ iv (d z) ≤ G30 := by
  rw [ok_eq hop hwd] at h
  have all := wrong_all h
  obtain ⟨s1, s2, s3, s4, s5, s6, s7, s8, s9, s10, s11, s12, s13, s14, s15⟩ := sne
  have inl : ∀ {x : PyData} {lo hi : Int}, 0 ≤ lo → inL x lo hi = true → 0 ≤ iv x ∧ iv x ≤ G30 := fun h0 h => by
    unfold inL at h
    obtain ⟨_, h⟩ := Bool.and_eq_true_iff.mp h
    obtain ⟨h1, h⟩ := Bool.and_eq_true_iff.mp h
    obtain ⟨_, h3⟩ := Bool.and_eq_true_iff.mp h
    exact ⟨Int.le_trans h0 (of_decide_eq_true h1), of_decide_eq_true h3⟩
  intro z hz
  have h := all z hz
  unfold okL at h
  rcases List.mem_cons.mp hz with rfl | hz
  · rw [if_pos rfl] at h
    refine inl ?_ h
    have := bi_le (twoB op wd)
    split <;> omega
  rcases List.mem_cons.mp hz with rfl | hz
  · rw [if_neg s1, if_pos rfl] at h
    exact inl (bi_le _).1 h
  rcases List.mem_cons.mp hz with rfl | hz
  · rw [if_neg s2, if_neg s3, if_pos rfl] at h
    exact inl (bi_le _).1 h
  rcases List.mem_cons.mp hz with rfl | hz
  · rw [if_neg s4, if_neg s5, if_neg s6, if_pos rfl] at h
    exact inl (bi_le _).1 (Bool.and_eq_true_iff.mp h).1
  rcases List.mem_cons.mp hz with rfl | hz
  · rw [if_neg s7, if_neg s8, if_neg s9, if_neg s10, if_pos rfl] at h
    exact inl (bi_le _).1 h
  rw [List.mem_singleton.mp hz] at h ⊢
  rw [if_neg s11, if_neg s12, if_neg s13, if_neg s14, if_neg s15] at h
  exact inl (Int.le_refl _) h
/-- a dict of the six whole numbers, kept -/
def spLFi (K : PySem.W.Frag) : Sp := fun vs H Q _ => ∃ (a D : Addr) (o : Str × List Str) (wd : Str) (nf : Str → Int), vs = [.ref a, .str o.1, .str wd, .ref D] ∧ o ∈ args ∧ wd ∈ wor o.1 ∧ ScnAt K H a o.1 wd nf ∧ H D = some (.dK (nuN (nV nf))) ∧ wrong (okP o.1 wd (nI nf)) = none ∧ ∀ G, Same H G → Q (.bl true) G
theorem two_small : ∀ o ∈ args, ∀ wd ∈ wor o.1, Small (.str o.1) 0 1002 ∧ Small (.str wd) 0 1002 := by
  have f : ∀ o ∈ args, ∀ wd ∈ wor o.1, ((PyData.str o.1).showable = true ∧ (PyData.str o.1).hasDict = false ∧ (PyData.str o.1).depth ≤ 0 ∧ (PyData.str o.1).shown.length ≤ 1002) ∧ ((PyData.str wd).showable = true ∧ (PyData.str wd).hasDict = false ∧ (PyData.str wd).depth ≤ 0 ∧ (PyData.str wd).shown.length ≤ 1002) := by decide +kernel
  intro o ho wd hw
  obtain ⟨⟨a1, a2, a3, a4⟩, b1, b2, b3, b4⟩ := f o ho wd hw
  exact ⟨⟨a1, a2, a3, a4⟩, b1, b2, b3, b4⟩
theorem arg_flat {op wd : Str} {k : Int} {l : List Str} : ∀ p ∈ argKv op wd k l, flatB p.2 = true := fun p hp => by
  obtain ⟨z, _, rfl⟩ := List.mem_map.mp hp
  show flatB (argW op wd k z) = true
  unfold argW
  split
  · rfl
  split
  · rfl
  split <;> rfl
theorem neq_self (v : V) : (!decide (v = v)) = false := by rw [decide_eq_true (rfl : v = v)]; rfl
theorem arg_keys {o : Str × List Str} (ho : o ∈ args) {wd : Str} {k : Int} : ((argKv o.1 wd k o.2).map (·.1)).Nodup := by
  unfold argKv
  rw [List.map_map]
  exact List.Pairwise.map _ (fun a b h e => h (by injection e)) (arg_facts o ho).1
section
variable {P : Program} {w : World} {K : PySem.W.Frag} {mg : Str → Option Value} {base : Heap}
theorem scLFi : FnScope ["scene", "op", "world", "n", "told"] ["scene", "op", "world", "n"] (defScope sLFi) := ⟨rfl, rfl, rfl, by decide +kernel, rfl, by decide +kernel, by decide +kernel⟩
theorem ok_lfi {f fK fT p2 p3 fKe fAr : Addr} {fd fdK fdT fdAs fdKe fdAr : FuncData} (F : FnP K "_law_fits" sLFi f fd) (S : ScnK K) (O : ScnO K)
    (PK : PropOf K (ga K "Scene") "key" p2 fK) (GK : FnOk P w K mg base CX0 3 fK fdK ["self"] (spKey K)) (bK : Binds K fdK ["self"] []) (PT : PropOf K (ga K "Scene") "total" p3 fT) (GT : FnOk P w K mg base CX0 1 fT fdT ["self"] (spTot K)) (bT : Binds K fdT ["self"] [])
    (GArs : FnOk P w K mg base CX0 4 (ma K (ga K "Scene") "arguments") fdAs ["self"] (spArs K)) (bArs : Binds K fdAs ["self"] [])
    (GKe : FnOk P w K mg base CX0 1 fKe fdKe ["world", "n"] (spLKe K)) (bKe : Binds K fdKe ["world", "n"] []) (kKe : PySem.W.keepIn K (.ref fKe) = true) (gKe : mg "_law_key" = some (.ref fKe))
    (GAr : FnOk P w K mg base CX0 1 fAr fdAr ["op", "world", "n"] (spLAr K)) (bAr : Binds K fdAr ["op", "world", "n"] []) (kAr : PySem.W.keepIn K (.ref fAr) = true) (gAr : mg "_law_arguments" = some (.ref fAr))
    (n_repr : mg "repr" = none) (n_isinstance : mg "isinstance" = none) (n_dict : mg "dict" = none) : FnG P w K mg base CX0 5 f fd ["scene", "op", "world", "n"] (spLFi K) := by
  refine fnG_ok F scLFi (fun vs H Q E h => ?_) (fun cdv A outer s H vs Q E gg hr h => ?_)
  · obtain ⟨a, D, o, wd, nf, rfl, _⟩ := h
    rfl
  · obtain ⟨a, D, o, wd, nf, rfl, ho, hwd, hs, hD, hg, kk⟩ := h
    have nd := scLFi.nd
    have hr4 := hr
    have hr4t := hr.mono (j := 2) (by decide)
    have hr1 := hr.mono (j := 1) (by decide)
    have hu := Nat.lt_of_le_of_lt (Nat.add_le_add_left (by decide : 1 ≤ 64) _) hr.units
    have hu0 := Nat.lt_of_le_of_lt (Nat.le_add_right _ 64) hr.units
    have hu10 : (A.deeper (envOfC "_law_fits" (defScope sLFi) s.heap.objs.size f cdv)).units + 10 < cLine := Nat.lt_of_le_of_lt (Nat.add_le_add_left (by decide) _) hr.units
    refine ⟨_, PSs.nox (pss_cons (ps_set (i := 4) nd rfl (Or.inl rfl) (pe_lst (pa_cons (pe_fld (pv 0) rfl) (pa_cons (pe_fld (pv 0) rfl) (pa_cons (pe_fld (pv 0) rfl) (pa_cons (pe_fld (pv 0) rfl) (pa_cons (pe_fld (pv 0) rfl) (pa_cons (pe_fld (pv 0) rfl) (pa_cons (pe_fld (pv 0) rfl) (pa_cons (pe_fld (pv 0) rfl) pa_nil))))))))))
(pss_cons (ps_if (pt_cmpR op_ne (pe_callB (show CallR _ (.builtin "repr") (rReprD K) from call_reprD gg hu10) (by rfl) n_repr (by decide +kernel) (pa_cons (pv 4) pa_nil)) (pe_callB (show CallR _ (.builtin "repr") (rReprD K) from call_reprD gg hu10) (by rfl) n_repr (by decide +kernel) (pa_cons (pe_lst (pa_cons (pv 1) (pa_cons (pv 2) (pa_cons (pe_dget hu (pv 3) pe_str (fun _ _ => rfl)) (pa_cons (pe_dget hu (pv 3) pe_str (fun _ _ => rfl)) (pa_cons (pe_dget hu (pv 3) pe_str (fun _ _ => rfl)) (pa_cons (pe_dget hu (pv 3) pe_str (fun _ _ => rfl)) (pa_cons (pe_dget hu (pv 3) pe_str (fun _ _ => rfl)) (pa_cons (pe_dget hu (pv 3) pe_str (fun _ _ => rfl)) pa_nil))))))))) pa_nil)) (nomark _))
(pss_one (ps_ret pe_bl))
pss_nil)
(pss_cons (ps_if (PW.pt (pw_or (pt_cmpR op_ne (pe_callB (show CallR _ (.builtin "repr") (rReprD K) from call_reprD gg hu10) (by rfl) n_repr (by decide +kernel) (pa_cons (pe_prop (pv 0) S.cls PK GK hr4 bK .nil pass0 rfl) pa_nil)) (pe_callB (show CallR _ (.builtin "repr") (rReprD K) from call_reprD gg hu10) (by rfl) n_repr (by decide +kernel) (pa_cons (pe_call GKe hr1 (by rfl) gKe kKe bKe .nil pass0 (pa_cons (pv 2) (pa_cons (pv 3) pa_nil))) pa_nil)) (nomark _)) (pw_or1 (pt_cmpR op_ne (pe_callB (show CallR _ (.builtin "repr") (rReprD K) from call_reprD gg hu10) (by rfl) n_repr (by decide +kernel) (pa_cons (pe_prop (pv 0) S.cls PT GT hr4t bT .nil pass0 rfl) pa_nil)) (pe_callB (show CallR _ (.builtin "repr") (rReprD K) from call_reprD gg hu10) (by rfl) n_repr (by decide +kernel) (pa_cons (pe_ix ix_tup (pe_call GKe hr1 (by rfl) gKe kKe bKe .nil pass0 (pa_cons (pv 2) (pa_cons (pv 3) pa_nil))) pe_int (fun _ _ => rfl)) pa_nil)) (nomark _)))))
(pss_one (ps_ret pe_bl))
pss_nil)
(pss_cons (ps_set (i := 4) nd rfl (Or.inl rfl) (pe_meth0 (pv 0) S.cls (O.mth "arguments" (by decide)) GArs hr4 bArs .nil pass0))
(pss_cons (ps_if (PW.pt (pw_or (pt_not (pt_val (pe_callB call_isi (by rfl) n_isinstance (by decide +kernel) (pa_cons (pv 4) (pa_cons (pe_bltn (v := .ty "dict") (by rfl) n_dict (by decide +kernel) rfl) pa_nil))))) (pw_or1 (pt_cmpR (op_ne_dictA hu0) (pv 4) (pe_call GAr hr1 (by rfl) gAr kAr bAr .nil pass0 (pa_cons (pv 1) (pa_cons (pv 2) (pa_cons (pv 3) pa_nil)))) (nomark _)))))
(pss_one (ps_ret pe_bl))
pss_nil)
(pss_cons (ps_dput hu (pv 4) pe_str pe_str rfl)
(pss_cons (ps_dput hu (pv 4) pe_str pe_int rfl)
(pss_one (ps_ret (pe_cmpR (op_eq_dict hu0) (pe_meth0 (pv 0) S.cls (O.mth "arguments" (by decide)) GArs hr4 bArs .nil pass0) (pe_call GAr hr1 (by rfl) gAr kAr bAr .nil pass0 (pa_cons (pv 1) (pa_cons (pv 2) (pa_cons (pv 3) pa_nil)))) (nomark _))))))))))), ?_⟩
    have hop := args_ops o ho
    have hwr := ((wd_sh o.1 hop).2 wd hwd).2
    have hnf : ∀ z ∈ nk, 0 ≤ nf z ∧ nf z ≤ G30 := made_le (d := nI nf) hop hwd hg
    obtain ⟨osm, wsm⟩ := two_small o ho wd hwd
    have ism : ∀ i : Int, i.natAbs ≤ 10 ^ 33 → Small (.int i) 0 1002 := fun i h => sc_small (m := 10 ^ 33) (by decide) h
    have zsm : ∀ z ∈ nk, Small (.int (nf z)) 0 1002 := fun z hz => ism _ (by have := hnf z hz; rw [g30] at this; omega)
    obtain ⟨dx, fs, ha, hf⟩ := id hs
    have s0 := Same.refl H
    have hs0 := hs
    have hD0 := hD
    have ha0 := ha
    have big : Small (.list [.str o.1, .str wd, .int (nf "home"), .int (nf "to"), .int (nf "x"), .int (nf "y"), .int (nf "k"), .int (nf "other")]) 1 9000 := by
      refine small_list (n := 1002) (fun x hx => ?_) (by show 8 * (1002 + 2) + 2 ≤ 9000; decide)
      simp only [List.mem_cons, List.not_mem_nil, or_false] at hx
      rcases hx with rfl | rfl | rfl | rfl | rfl | rfl | rfl | rfl
      · exact osm
      · exact wsm
      all_goals exact zsm _ (by decide)
    have big2 : Small (.list [.str o.1, .str wd, .int (nf "home"), .int (nf "to"), .int (nf "x"), .int (nf "y"), .int (nf "k"), .int (nf "other")]) 8 sizeLine := big.mono (by decide) (by rw [sizeLine_eq]; decide)
    have ldp : ∀ {G : Hp}, DpAll K G [.str o.1, .str wd, .int (nf "home"), .int (nf "to"), .int (nf "x"), .int (nf "y"), .int (nf "k"), .int (nf "other")] [.str o.1, .str wd, .int (nf "home"), .int (nf "to"), .int (nf "x"), .int (nf "y"), .int (nf "k"), .int (nf "other")] := .cons (.str _) (.cons (.str _) (ints_dp [nf "home", nf "to", nf "x", nf "y", nf "k", nf "other"]))
    -- the fields
    refine ⟨_, rfl, a, _, dx, fs, _, rfl, ha, S.cls, S.noat _ (by decide), hf.op, _, rfl, a, _, dx, fs, _, rfl, ha, S.cls, S.noat _ (by decide), hf.wd, _, rfl, a, _, dx, fs, _, rfl, ha, S.cls, S.noat _ (by decide), hf.nk (z := "home") (by decide), _, rfl, a, _, dx, fs, _, rfl, ha, S.cls, S.noat _ (by decide), hf.nk (z := "to") (by decide), _, rfl, a, _, dx, fs, _, rfl, ha, S.cls, S.noat _ (by decide), hf.nk (z := "x") (by decide), _, rfl, a, _, dx, fs, _, rfl, ha, S.cls, S.noat _ (by decide), hf.nk (z := "y") (by decide), _, rfl, a, _, dx, fs, _, rfl, ha, S.cls, S.noat _ (by decide), hf.nk (z := "k") (by decide), _, rfl, a, _, dx, fs, _, rfl, ha, S.cls, S.noat _ (by decide), hf.nk (z := "other") (by decide), (by show 8 ≤ sizeLine; decide), fun L nL => ?_⟩
    generalize e_G1 : upd _ L _ = G1
    have s_L := new_same e_G1 nL
    have f_L := new_at e_G1
    clear e_G1
    have hs := hs.mv s_L
    have hD := hD.mv s_L
    have s0 := s0.mv s_L
    dsimp only [gName, List.set]
    refine ⟨_, rfl, _, _, rfl, .lst (SqL.of f_L) ldp, big2, ?_⟩
    refine ⟨_, rfl, _, rfl, _, rfl, D, _, rfl, dg_home hD, _, rfl, D, _, rfl, dg_to hD, _, rfl, D, _, rfl, dg_x hD, _, rfl, D, _, rfl, dg_y hD, _, rfl, D, _, rfl, dg_k hD, _, rfl, D, _, rfl, dg_other hD, (by show 8 ≤ sizeLine; decide), fun L2' nL2 => ?_⟩
    generalize e_G2 : upd _ L2' _ = G2
    have s_L2' := new_same e_G2 nL2
    have f_L2' := new_at e_G2
    clear e_G2
    have hs := hs.mv s_L2'
    have hD := hD.mv s_L2'
    have s0 := s0.mv s_L2'
    refine ⟨_, _, rfl, .lst (SqL.of f_L2') ldp, big2, rfl, _, rfl, no (neq_self _) ?_⟩
    clear f_L s_L nL f_L2' s_L2' nL2
    have kI : ∀ i ∈ keyV wd nf, i.natAbs ≤ 10 ^ 33 := by
      have h1 := hnf "home" (by decide)
      have h2 := hnf "to" (by decide)
      have h3 := hnf "x" (by decide)
      have h4 := hnf "y" (by decide)
      have h5 := hnf "k" (by decide)
      have h6 := hnf "other" (by decide)
      rw [g30] at h1 h2 h3 h4 h5 h6
      have hr4 : rkI wd ≤ 4 := by
        have : ∀ wd ∈ rks, rks.idxOf wd ≤ 4 := by decide +kernel
        have := this wd hwr
        unfold rkI
        omega
      have hr0 : 0 ≤ rkI wd := Int.natCast_nonneg _
      intro i hi
      unfold keyV totI at hi
      simp only [List.mem_cons, List.not_mem_nil, or_false] at hi
      rcases hi with rfl | rfl | rfl | rfl | rfl | rfl | rfl <;> omega
    have ksm : Small (keyD wd nf) 8 sizeLine := by
      have : Small (keyD wd nf) 1 9000 := by
        refine small_tuple (n := 1002) (fun x hx => ?_) (by show 7 * (1002 + 2) + 4 ≤ 9000; decide)
        obtain ⟨i, hi, rfl⟩ := List.mem_map.mp hx
        exact ism i (kI i hi)
      exact this.mono (by decide) (by rw [sizeLine_eq]; decide)
    have tsm : Small (.int (totI nf)) 8 sizeLine := (ism _ (kI _ List.mem_cons_self)).mono (by decide) (by rw [sizeLine_eq]; decide)
    obtain ⟨kd, kdp, ksm⟩ : ∃ kd : PyData, (∀ (G : Hp) (T : Addr), G T = some (.tup ((keyV wd nf).map V.int)) → Dp K G (.ref T) kd) ∧ Small kd 8 sizeLine := ⟨keyD wd nf, fun G T h => .tup (SqT.of h) (ints_dp _), ksm⟩
    obtain ⟨td, tdp, tsm⟩ : ∃ td : PyData, (∀ G : Hp, Dp K G (.int (totI nf)) td) ∧ Small td 8 sizeLine := ⟨_, fun _ => .int _, tsm⟩
    -- the key
    refine ⟨_, rfl, a, dx, fs, rfl, s0 _ _ ha0, a, o.1, wd, nf, rfl, hs, hwr, fun T G3 nT s3 hT => ?_⟩
    have hs := hs.mv s3
    have hD := hD.mv s3
    have s0 := s0.mv s3
    refine ⟨_, kd, rfl, kdp _ _ hT, ksm, ?_⟩
    refine ⟨_, rfl, _, rfl, wd, D, nf, rfl, hwr, hD, fun T2 G4 nT2 s4 hT2 => ⟨_, kd, rfl, kdp _ _ hT2, ksm, rfl, _, rfl, no (neq_self _) ?_⟩⟩
    have hs := hs.mv s4
    have hD := hD.mv s4
    have s0 := s0.mv s4
    -- the total
    refine ⟨_, rfl, a, dx, fs, rfl, s0 _ _ ha0, a, o.1, wd, nf, rfl, hs, ⟨_, td, rfl, tdp _, tsm, ?_⟩⟩
    refine ⟨_, rfl, _, rfl, wd, D, nf, rfl, hwr, hD, fun T3 G5 nT3 s5 hT3 => ⟨_, _, _, _, rfl, rfl, SqT.of hT3, atI_nat (j := 0) rfl, ⟨_, td, rfl, tdp _, tsm, rfl, _, rfl, no (neq_self _) ?_⟩⟩⟩
    have hs := hs.mv s5
    have hD := hD.mv s5
    have s0 := s0.mv s5
    -- the arguments
    refine ⟨_, rfl, a, dx, fs, rfl, s0 _ _ ha0, hf.2, a, wd, nf, o, rfl, ho, hs, fun Dt G6 nDt s6 hDt => ?_⟩
    have nDtH := s0.free nDt
    have hs := hs.mv s6
    have hD := hD.mv s6
    have s0 := s0.mv s6
    dsimp only [gName, List.set]
    refine ⟨_, rfl, _, _, _, _, _, rfl, .ty _, .base (.dK hDt), (by kernel_rfl : PySem.W.kitOne K (.type "dict") (.type "dict") = some true), _, rfl, no rfl ?_⟩
    refine ⟨_, rfl, _, rfl, _, rfl, _, rfl, o, wd, D, nf, rfl, ho, hwd, hD, fun Dl G7 nDl s7 hDl => ?_⟩
    have hDt := hDt.mv s7
    have s0 := s0.mv s7
    refine ⟨Dt, Dl, _, _, rfl, rfl, hDt, hDl, rfl, fun p hp => ⟨val_nodup (arg_keys ho) p hp, arg_flat p hp⟩, _, rfl, no rfl ?_⟩
    have alen : (argKv o.1 wd (nf "k") o.2).length ≤ 3 := by unfold argKv; rw [List.length_map]; exact (arg_facts o ho).2.1
    have plen2 : ∀ (l : List (Key × V)) (z : Key) (v : V), (putK l z v).length ≤ l.length + 1 := fun l z v => by
      unfold putK
      split
      · rw [List.length_map]; omega
      · rw [List.length_append]; exact Nat.le_refl _
    refine ⟨_, rfl, Dt, _, rfl, .inl ⟨_, .inr "x", hDt, rfl, by rw [sizeLine_eq]; omega, rfl⟩, ?_⟩
    refine ⟨_, rfl, Dt, _, rfl, .inl ⟨_, .inr "z", upd_same, rfl, by rw [sizeLine_eq]; have := plen2 (argKv o.1 wd (nf "k") o.2) (.inr "x") (.str "other"); omega, rfl⟩, ?_⟩
    generalize eF : upd (upd G7 Dt _) Dt _ = GF
    have sF : Same H GF := fun y u e => by
      rw [← eF, upd_ne (ne_of_none e nDtH), upd_ne (ne_of_none e nDtH)]
      exact s0 _ _ e
    clear eF
    have hs := hs0.mv sF
    have hD := sF _ _ hD0
    refine ⟨_, rfl, a, dx, fs, rfl, sF _ _ ha0, hf.2, a, wd, nf, o, rfl, ho, hs, fun D3 G8 nD3 s8 hD3 => ?_⟩
    refine ⟨_, rfl, _, rfl, _, rfl, o, wd, D, nf, rfl, ho, hwd, s8 _ _ hD, fun D4 G9 nD4 s9 hD4 => ?_⟩
    exact ⟨D3, D4, _, rfl, rfl, s9 _ _ hD3, hD4, arg_keys ho, arg_flat, kk _ (sF.trans (s8.trans s9))⟩
end
end K23

set_option Elab.async false
set_option maxRecDepth 100000
set_option maxHeartbeats 4000000
namespace K23
open PySem PySem.Spec PyProof.Rows L2 He KX
abbrev sLaw : Stmt := top 39
def spLaw (K : PySem.W.Frag) : Sp := fun vs H Q _ => ∃ (a : Addr) (ns : List Int), vs = [.ref a] ∧ SqL K H a (ns.map V.int) ∧ ns.length ≤ 63 ∧ ∀ H', Q (.bl true) H'
theorem nuN_n6 {h t x y k o : Int} : nuN (nV (n6 h t x y k o)) = ni6 h t x y k o := by
  unfold nuN ni6
  show nu6 (.int (n6 h t x y k o "home")) (.int (n6 h t x y k o "to")) (.int (n6 h t x y k o "x")) (.int (n6 h t x y k o "y")) (.int (n6 h t x y k o "k")) (.int (n6 h t x y k o "other")) = _
  rw [n6_home, n6_to, n6_x, n6_y, n6_k, n6_other]
theorem DcP.off {p g a b : Addr} {H : Hp} {l : List (Key × V)} {o : HO} (h : DcP p g H a l) (hb : a ≠ b) : DcP p g (upd H b o) a l := ⟨h.1, h.2, (upd_ne hb).trans h.3⟩
def upI (m : Str → Int) (z : Str) (v : Int) : Str → Int := fun y => if y = z then v else m y
theorem put_nk {m : Str → Int} {v : Int} : ∀ z ∈ (["other", "to", "home"] : List Str), putK (nuN (nV m)) (.inr z) (.int v) = nuN (nV (upI m z v)) := by
  intro z hz
  rcases List.mem_cons.mp hz with rfl | hz
  · kernel_rfl
  rcases List.mem_cons.mp hz with rfl | hz
  · kernel_rfl
  rw [List.mem_singleton.mp hz]
  kernel_rfl
theorem get_nk {m : Str → V} : ∀ z ∈ nk, valV (nuN m) (.inr z) = some (m z) := by
  intro z hz
  rcases List.mem_cons.mp hz with rfl | hz
  · exact get_home
  rcases List.mem_cons.mp hz with rfl | hz
  · exact get_to
  rcases List.mem_cons.mp hz with rfl | hz
  · exact get_x
  rcases List.mem_cons.mp hz with rfl | hz
  · exact get_y
  rcases List.mem_cons.mp hz with rfl | hz
  · exact get_k
  rw [List.mem_singleton.mp hz]
  exact get_other
theorem dg_nk {G : Hp} {D : Addr} {m : Str → V} {z : Str} (hz : z ∈ nk) (q : G D = some (.dK (nuN m))) : DGet G D (.str z) (some (m z)) := .inl ⟨_, .inr z, .inl q, rfl, (get_nk z hz).symm⟩
/-- a scene beside the pool -/
structure ScP (K : PySem.W.Frag) (p g : Addr) (G : Hp) (a : Addr) (op wd : Str) (nf : Str → Int) : Prop where
  at_ : ScnAt K G a op wd nf
theorem ScP.mv {K : PySem.W.Frag} {p g a : Addr} {G G' : Hp} {op wd : Str} {nf : Str → Int} (h : ScP K p g G a op wd nf) (s : Same G G') : ScP K p g G' a op wd nf := ⟨h.1.mv s⟩
theorem wd_one : ∀ op ∈ ops, 1 ≤ (wor op).length ∧ (wor op).length ≤ 3 ∧ SeqAt.shaped (.str op) = true ∧ SeqAt.shaped (.list ((wor op).map PyData.str)) = true := by decide +kernel
theorem sh_eqv {d : PyData} (h : SeqAt.shaped d = true) : (!d.eqv d) = false := by rw [SeqAt.eqv_refl _ (Bool.and_eq_true_iff.mp h).1]; rfl
theorem up_home {h t x y k o v : Int} : upI (n6 h t x y k o) "home" v = n6 v t x y k o := by
  funext z
  unfold upI n6
  by_cases c : z = "home"
  · rw [if_pos c, if_pos c]
  · rw [if_neg c, if_neg c, if_neg c]
theorem up_to {h t x y k o v : Int} : upI (n6 h t x y k o) "to" v = n6 h v x y k o := by
  funext z
  unfold upI n6
  by_cases c : z = "to"
  · rw [if_pos c, if_pos c, if_neg (by rw [c]; decide +kernel)]
  · rw [if_neg c, if_neg c, if_neg c]
theorem up_other {h t x y k o v : Int} : ∀ z ∈ nk, upI (n6 h t x y k o) "other" v z = n6 h t x y k v z := by
  intro z hz
  unfold upI
  rcases List.mem_cons.mp hz with rfl | hz
  · rw [if_neg (by decide +kernel), n6_home, n6_home]
  rcases List.mem_cons.mp hz with rfl | hz
  · rw [if_neg (by decide +kernel), n6_to, n6_to]
  rcases List.mem_cons.mp hz with rfl | hz
  · rw [if_neg (by decide +kernel), n6_x, n6_x]
  rcases List.mem_cons.mp hz with rfl | hz
  · rw [if_neg (by decide +kernel), n6_y, n6_y]
  rcases List.mem_cons.mp hz with rfl | hz
  · rw [if_neg (by decide +kernel), n6_k, n6_k]
  rw [List.mem_singleton.mp hz, if_pos rfl, n6_other]
theorem okP_congr {op wd : Str} {f f' : Str → Int} (h : ∀ z ∈ nk, f z = f' z) : wrong (okP op wd (nI f)) = wrong (okP op wd (nI f')) := by
  have e : ∀ z ∈ nk, okP op wd (nI f) z = okP op wd (nI f') z := fun z hz => by
    unfold okP nI
    rw [h z hz, h "home" (by decide), h "to" (by decide), h "x" (by decide)]
  exact wrong_congr (e _ (by decide)) (fun _ => e _ (by decide)) (fun _ _ => e _ (by decide)) (fun _ _ _ => e _ (by decide)) (fun _ _ _ _ => e _ (by decide)) (e _ (by decide))
theorem up_good {op : Str} (hop : op ∈ ops) {wd : Str} (hwd : wd ∈ wor op) {m h t x y k o : Int} (hm : m + 1 ≤ G30) (N : NuOk op wd m h t x y k o) {z : Str} (hz : z ∈ (["other", "to", "home"] : List Str)) (hp : 0 < n6 h t x y k o z) :
    wrong (okP op wd (nI (upI (n6 h t x y k o) z (n6 h t x y k o z + 1)))) = none ∧ totI (upI (n6 h t x y k o) z (n6 h t x y k o z + 1)) = totI (n6 h t x y k o) + 1 := by
  have N2 : ∃ h2 t2 o2, (∀ y2 ∈ nk, upI (n6 h t x y k o) z (n6 h t x y k o z + 1) y2 = n6 h2 t2 x y k o2 y2) ∧ NuOk op wd (m + 1) h2 t2 x y k o2 ∧ h2 + t2 + o2 = h + t + o + 1 := by
    rcases List.mem_cons.mp hz with rfl | hz
    · rw [n6_other] at hp ⊢
      exact ⟨h, t, o + 1, up_other, ⟨N.h1, fun q => by have := N.h2 q; omega, fun q => by have := N.t1 q; omega, N.t2, N.y1, N.y2, N.y3, N.k1, N.k2, N.k3, by have := N.o1; omega⟩, by omega⟩
    rcases List.mem_cons.mp hz with rfl | hz
    · rw [n6_to] at hp ⊢
      exact ⟨h, t + 1, o, fun y2 _ => congrFun up_to y2, ⟨N.h1, fun q => by have := N.h2 q; omega, fun q => by have := N.t1 q; omega, fun q => by have := N.t2 q; omega, fun q => by have := N.y1 q; omega, N.y2, N.y3, fun q => by have := N.k1 q; omega, N.k2, N.k3, by have := N.o1; omega⟩, by omega⟩
    rw [List.mem_singleton.mp hz] at hp ⊢
    rw [n6_home] at hp ⊢
    exact ⟨h + 1, t, o, fun y2 _ => congrFun up_home y2, ⟨fun q => by have := N.h1 q; omega, fun q => by have := N.h2 q; omega, fun q => by have := N.t1 q; omega, N.t2, N.y1, fun q => by have := N.y2 q; omega, N.y3, N.k1, fun q => by have := N.k2 q; omega, N.k3, by have := N.o1; omega⟩, by omega⟩
  obtain ⟨h2, t2, o2, e, N2, es⟩ := N2
  rw [okP_congr e]
  refine ⟨nu_good hop hwd hm N2, ?_⟩
  unfold totI
  rw [e "home" (by decide), e "to" (by decide), e "other" (by decide), n6_home, n6_to, n6_other, n6_home, n6_to, n6_other]
  exact es
def fiveS : List Str := ["take", "top", "bottom", "up", "down"]
theorem five : ∀ op ∈ fiveS, op ∈ ops ∧ wor op = (["alone"] : List Str) ∧ op ∉ newL ∧ op ≠ "swap" ∧ op ∉ (["put", "move"] : List Str) := by decide +kernel
theorem five_lim {op op2 wd z : Str} {h t : Int} (h1 : op ∈ fiveS) (h2 : op2 ∈ fiveS) : limP op wd z h t = limP op2 wd z h t := by
  obtain ⟨_, _, a1, a2, a3⟩ := five op h1
  obtain ⟨_, _, b1, b2, b3⟩ := five op2 h2
  unfold limP limY limK
  rw [if_neg (show ¬ op ∈ newL from a1), if_neg (show ¬ op2 ∈ newL from b1), if_neg (show ¬(op = "swap" ∧ wd = "within") from fun h => a2 h.1), if_neg (show ¬(op2 = "swap" ∧ wd = "within") from fun h => b2 h.1)]
  rw [if_neg (show ¬ op = "swap" from a2), if_neg (show ¬ op2 = "swap" from b2), if_pos (show op ≠ "swap" ∨ wd = "itself" from .inl a2), if_pos (show op2 ≠ "swap" ∨ wd = "itself" from .inl b2), if_pos (show op ∉ (["put", "move"] : List Str) from a3), if_pos (show op2 ∉ (["put", "move"] : List Str) from b3)]
  have e : (op ∈ newL ∨ wd = "apart") ↔ (op2 ∈ newL ∨ wd = "apart") := ⟨fun h => h.elim (fun q => (a1 q).elim) .inr, fun h => h.elim (fun q => (b1 q).elim) .inr⟩
  by_cases c : op ∈ newL ∨ wd = "apart"
  · rw [if_pos c, if_pos (e.mp c), if_neg (show ¬ op ∈ newL from a1), if_neg (show ¬ op2 ∈ newL from b1)]
  · rw [if_neg c, if_neg (fun h => c (e.mpr h)), if_neg (show ¬ op ∈ newL from a1), if_neg (show ¬ op2 ∈ newL from b1)]
theorem five_ok {op op2 wd : Str} (h1 : op ∈ fiveS) (h2 : op2 ∈ fiveS) (n : Str → PyData) : wrong (okP op wd n) = wrong (okP op2 wd n) := by
  have e : okP op wd n = okP op2 wd n := by
    funext z
    unfold okP fitP
    rw [five_lim h1 h2]
  rw [e]
theorem ints_all {nf nf2 : Str → Int} : ∀ p ∈ nuN (nV nf), ∃ i j, p.2 = V.int i ∧ valV (nuN (nV nf2)) p.1 = some (.int j) := by
  intro p hp
  unfold nuN nu6 at hp
  simp only [List.mem_cons, List.not_mem_nil, or_false] at hp
  rcases hp with rfl | rfl | rfl | rfl | rfl | rfl
  · exact ⟨_, _, rfl, get_home⟩
  · exact ⟨_, _, rfl, get_to⟩
  · exact ⟨_, _, rfl, get_x⟩
  · exact ⟨_, _, rfl, get_y⟩
  · exact ⟨_, _, rfl, get_k⟩
  · exact ⟨_, _, rfl, get_other⟩
theorem same_eq {nf nf2 : Str → Int} {wd : Str} (h : nf2 = nf ∨ totI nf2 ≠ totI nf) : ((nuN (nV nf)).all fun p => decide (valV (nuN (nV nf2)) p.1 = some p.2)) = (keyD wd nf).eqv (keyD wd nf2) := by
  rcases h with rfl | h
  · rw [show (keyD wd nf2).eqv (keyD wd nf2) = true from SeqAt.eqv_refl _ (Bool.and_eq_true_iff.mp (ints_shaped (keyV wd nf2))).1]
    refine List.all_eq_true.mpr fun p hp => ?_
    unfold nuN nu6 at hp
    simp only [List.mem_cons, List.not_mem_nil, or_false] at hp
    rcases hp with rfl | rfl | rfl | rfl | rfl | rfl
    · exact decide_eq_true get_home
    · exact decide_eq_true get_to
    · exact decide_eq_true get_x
    · exact decide_eq_true get_y
    · exact decide_eq_true get_k
    · exact decide_eq_true get_other
  · have e2 : (keyD wd nf).eqv (keyD wd nf2) = false := by
      show ((totI nf == totI nf2) && _) = false
      rw [beq_eq_false_iff_ne.mpr fun e => h e.symm, Bool.false_and]
    rw [e2]
    by_cases c1 : nf2 "home" = nf "home"
    · by_cases c2 : nf2 "to" = nf "to"
      · have c3 : nf2 "other" ≠ nf "other" := fun c3 => h (by unfold totI; rw [c1, c2, c3])
        refine List.all_eq_false.mpr ⟨(.inr "other", .int (nf "other")), by unfold nuN nu6; simp, ?_⟩
        rw [decide_eq_true_iff]
        show ¬ valV (nuN (nV nf2)) (.inr "other") = some (V.int (nf "other"))
        rw [show valV (nuN (nV nf2)) (.inr "other") = some (V.int (nf2 "other")) from get_other]
        exact fun e => c3 (by injection e with e; injection e)
      · refine List.all_eq_false.mpr ⟨(.inr "to", .int (nf "to")), by unfold nuN nu6; simp, ?_⟩
        rw [decide_eq_true_iff]
        show ¬ valV (nuN (nV nf2)) (.inr "to") = some (V.int (nf "to"))
        rw [show valV (nuN (nV nf2)) (.inr "to") = some (V.int (nf2 "to")) from get_to]
        exact fun e => c2 (by injection e with e; injection e)
    · refine List.all_eq_false.mpr ⟨(.inr "home", .int (nf "home")), by unfold nuN nu6; simp, ?_⟩
      rw [decide_eq_true_iff]
      show ¬ valV (nuN (nV nf2)) (.inr "home") = some (V.int (nf "home"))
      rw [show valV (nuN (nV nf2)) (.inr "home") = some (V.int (nf2 "home")) from get_home]
      exact fun e => c1 (by injection e with e; injection e)
section
variable {P : Program} {w : World} {K : PySem.W.Frag} {mg : Str → Option Value} {base : Heap}
theorem scLaw : FnScope ["script", "pool", "turn", "op", "worlds", "world", "n", "changed", "word", "first", "second", "same", "twin"] ["script"] (defScope sLaw) := ⟨rfl, rfl, rfl, by decide +kernel, rfl, by decide +kernel, by decide +kernel⟩
theorem ok_law {f fPo fD fOp fWo fNu fW fSc fFi fK p2 : Addr} {fd fdPo fdD fdOp fdWo fdNu fdW fdSc fdFi fdK fdEq : FuncData} (F : FnP K "law" sLaw f fd) (S : ScnK K) (O : ScnO K)
    (GPo : FnOk P w K mg base CX0 1 fPo fdPo ["script"] (spPool K)) (bPo : Binds K fdPo ["script"] []) (kPo : PySem.W.keepIn K (.ref fPo) = true) (gPo : mg "_law_pool" = some (.ref fPo))
    (GD : FnOk P w K mg base CX0 1 fD fdD ["pool", "limit"] spDrawP) (bD : Binds K fdD ["pool", "limit"] []) (kD : PySem.W.keepIn K (.ref fD) = true) (gD : mg "_law_draw" = some (.ref fD))
    (GOp : FnOk P w K mg base CX0 2 fOp fdOp ["pool"] spLOp) (bOp : Binds K fdOp ["pool"] []) (kOp : PySem.W.keepIn K (.ref fOp) = true) (gOp : mg "_law_op" = some (.ref fOp))
    (GWo : FnOk P w K mg base CX0 1 fWo fdWo ["op"] spLWo) (bWo : Binds K fdWo ["op"] []) (kWo : PySem.W.keepIn K (.ref fWo) = true) (gWo : mg "_law_worlds" = some (.ref fWo))
    (GNu : FnOk P w K mg base CX0 3 fNu fdNu ["pool", "op", "world", "most"] spLNu) (bNu : Binds K fdNu ["pool", "op", "world", "most"] []) (kNu : PySem.W.keepIn K (.ref fNu) = true) (gNu : mg "_law_numbers" = some (.ref fNu))
    (GW : FnOk P w K mg base (L2N.CX P w) 4 fW fdW ["op"] (spWor K)) (bW : Binds K fdW ["op"] []) (kW : PySem.W.keepIn K (.ref fW) = true) (gW : mg "worlds_of" = some (.ref fW))
    (GSc : FnOk P w K mg base CX0 7 fSc fdSc ["op", "world", "n"] (spLSc K)) (bSc : Binds K fdSc ["op", "world", "n"] []) (kSc : PySem.W.keepIn K (.ref fSc) = true) (gLS : mg "_law_scene" = some (.ref fSc))
    (GFi : FnG P w K mg base CX0 5 fFi fdFi ["scene", "op", "world", "n"] (spLFi K)) (bFi : Binds K fdFi ["scene", "op", "world", "n"] []) (kFi : PySem.W.keepIn K (.ref fFi) = true) (gFi : mg "_law_fits" = some (.ref fFi))
    (GEq : FnOk P w K mg base CX0 5 (ma K (ga K "Scene") "__eq__") fdEq ["self", "other"] (spEq K)) (bEq : Binds K fdEq ["self", "other"] [])
    (PK : PropOf K (ga K "Scene") "key" p2 fK) (GK : FnOk P w K mg base CX0 3 fK fdK ["self"] (spKey K)) (bK : Binds K fdK ["self"] [])
    (hWS : ∀ H, SqT K H (ga K "WORLDS") (rks.map V.str)) (gWS : mg "WORLDS" = some (.ref (ga K "WORLDS")))
    (n_repr : mg "repr" = none) (n_dict : mg "dict" = none) (n_isinstance : mg "isinstance" = none) (n_tuple : mg "tuple" = none) (n_list : mg "list" = none) (n_int : mg "int" = none) (n_len : mg "len" = none) (n_range : mg "range" = none) : FnG P w K mg base CX0 8 f fd ["script"] (spLaw K) := by
  refine fnG_ok F scLaw (fun vs H Q E h => ?_) (fun cdv A outer s H vs Q E gg hr h => ?_)
  · obtain ⟨a, ns, rfl, _⟩ := h
    rfl
  · obtain ⟨a, ns, rfl, hS, hl, k⟩ := h
    have nd := scLaw.nd
    have hr7 := hr.mono (j := 7) (by decide)
    have hr5 := hr.mono (j := 5) (by decide)
    have hr4 := hr.mono (j := 4) (by decide)
    have hr3 := hr.mono (j := 3) (by decide)
    have hr2 := hr.mono (j := 2) (by decide)
    have hr1 := hr.mono (j := 1) (by decide)
    have hu64 := hr.units
    have hu := Nat.lt_of_le_of_lt (Nat.add_le_add_left (by decide : 1 ≤ 64) _) hr.units
    have hu0 := Nat.lt_of_le_of_lt (Nat.le_add_right _ 64) hr.units
    have hu10 : (A.deeper (envOfC "law" (defScope sLaw) s.heap.objs.size f cdv)).units + 10 < cLine := Nat.lt_of_le_of_lt (Nat.add_le_add_left (by decide) _) hr.units
    refine ⟨_, PSs.nox (pss_cons (ps_set (i := 1) nd rfl (Or.inl rfl) (pe_call GPo hr1 (by rfl) gPo kPo bPo .nil pass0 (pa_cons (pv 0) pa_nil)))
(pss_cons (ps_if (pt_cmpR op_ne (pe_callB (show CallR _ (.builtin "repr") (rReprD K) from call_reprD gg hu10) (by rfl) n_repr (by decide +kernel) (pa_cons (pe_glob (v := .ref (ga K "WORLDS")) rfl gWS rfl) pa_nil)) (pe_callB (show CallR _ (.builtin "repr") (rReprD K) from call_reprD gg hu10) (by rfl) n_repr (by decide +kernel) (pa_cons (pe_tup (pa_cons pe_str (pa_cons pe_str (pa_cons pe_str (pa_cons pe_str pa_nil))))) pa_nil)) (nomark _))
(pss_one (ps_ret pe_bl))
pss_nil)
(pss_cons (ps_for PassesOwn.never rfl (pi_range1 (by rfl) n_range (pa_cons pe_int pa_nil)) (pg_name (i := 2) nd rfl (Or.inl rfl))
(pss_cons (ps_set (i := 3) nd rfl (Or.inl rfl) (pe_call GOp hr2 (by rfl) gOp kOp bOp .nil pass0 (pa_cons (pv 1) pa_nil)))
(pss_cons (ps_set (i := 4) nd rfl (Or.inl rfl) (pe_call GWo hr1 (by rfl) gWo kWo bWo .nil pass0 (pa_cons (pv 3) pa_nil)))
(pss_cons (ps_if (PW.pt (pw_or (pt_not (pt_val (pe_callB call_isi (by rfl) n_isinstance (by decide +kernel) (pa_cons (pe_call GW hr4 (by rfl) gW kW bW .nil passLN (pa_cons (pv 3) pa_nil)) (pa_cons (pe_bltn (v := .ty "tuple") (by rfl) n_tuple (by decide +kernel) rfl) pa_nil))))) (pw_or1 (pt_cmpR (op_neD hu64) (pe_callTy call_list_of (by rfl) n_list (by decide +kernel) (pa_cons (pe_call GW hr4 (by rfl) gW kW bW .nil passLN (pa_cons (pv 3) pa_nil)) pa_nil)) (pv 4) (nomark _)))))
(pss_one (ps_ret pe_bl))
pss_nil)
(pss_cons (ps_set (i := 5) nd rfl (Or.inl rfl) (pe_ix ix_list (pv 4) (pe_call GD hr1 (by rfl) gD kD bD .nil pass0 (pa_cons (pv 1) (pa_cons (pe_callB call_len_seq (by rfl) n_len PySem.boot_len (pa_cons (pv 4) pa_nil)) pa_nil))) (fun _ _ => rfl)))
(pss_cons (ps_set (i := 6) nd rfl (Or.inl rfl) (pe_call GNu hr3 (by rfl) gNu kNu bNu .nil pass0 (pa_cons (pv 1) (pa_cons (pv 3) (pa_cons (pv 5) (pa_cons (pe_ix ix_list (pe_lst (pa_cons pe_int (pa_cons (pe_op op_sub (pe_op op_pow pe_int pe_int) pe_int) pa_nil))) (pe_call GD hr1 (by rfl) gD kD bD .nil pass0 (pa_cons (pv 1) (pa_cons pe_int pa_nil))) (fun _ _ => rfl)) pa_nil))))))
(pss_cons (ps_set (i := 7) nd rfl (Or.inl rfl) (pe_callTy call_dictD (by rfl) n_dict (by decide +kernel) (pa_cons (pv 6) pa_nil)))
(pss_cons (ps_set (i := 8) nd rfl (Or.inl rfl) (pe_ix ix_list (pe_lst (pa_cons pe_str (pa_cons pe_str (pa_cons pe_str pa_nil)))) (pe_call GD hr1 (by rfl) gD kD bD .nil pass0 (pa_cons (pv 1) (pa_cons pe_int pa_nil))) (fun _ _ => rfl)))
(pss_cons (ps_if (PW.pt (pw_and (pt_cmpR op_eq (pe_call GD hr1 (by rfl) gD kD bD .nil pass0 (pa_cons (pv 1) (pa_cons pe_int pa_nil))) pe_int (nomark _)) (pw_and1 (pt_cmpR op_gt (pe_dget hu (pv 6) (pv 8) (fun _ _ => rfl)) pe_int (nomark _)))))
(pss_one (ps_dput hu (pv 7) (pv 8) (pe_op op_add (pe_dget hu (pv 7) (pv 8) (fun _ _ => rfl)) pe_int) rfl))
pss_nil)
(pss_cons (ps_set (i := 9) nd rfl (Or.inl rfl) (pe_call GSc hr7 (by rfl) gLS kSc bSc .nil pass0 (pa_cons (pv 3) (pa_cons (pv 5) (pa_cons (pv 6) pa_nil)))))
(pss_cons (ps_set (i := 10) nd rfl (Or.inl rfl) (pe_call GSc hr7 (by rfl) gLS kSc bSc .nil pass0 (pa_cons (pv 3) (pa_cons (pv 5) (pa_cons (pv 7) pa_nil)))))
(pss_cons (ps_if (PW.pt (pw_or (pt_not (pt_val (pe_callG GFi gg hr5 (by rfl) gFi kFi bFi .nil pass0 (pa_cons (pv 9) (pa_cons (pv 3) (pa_cons (pv 5) (pa_cons (pv 6) pa_nil))))))) (pw_or1 (pt_not (pt_val (pe_callG GFi gg hr5 (by rfl) gFi kFi bFi .nil pass0 (pa_cons (pv 10) (pa_cons (pv 3) (pa_cons (pv 5) (pa_cons (pv 7) pa_nil))))))))))
(pss_one (ps_ret pe_bl))
pss_nil)
(pss_cons (ps_set (i := 11) nd rfl (Or.inl rfl) (pe_cmpR (op_eq_dictI hu0) (pv 6) (pv 7) (nomark _)))
(pss_cons (ps_if (PW.pt (pw_or (pt_cmpR op_ne (pe_cmpR (op_eqO (O.mth "__eq__" (by decide)) GEq hr5 bEq pass0 hu0) (pv 9) (pv 10) (nomark _)) (pv 11) (nomark _)) (pw_or (pt_cmpR (op_eqO (O.mth "__eq__" (by decide)) GEq hr5 bEq pass0 hu0) (pv 9) (pe_prop (pv 9) S.cls PK GK hr4 bK .nil pass0 rfl) (nomark _)) (pw_or1 (pt_not (pt_val (pe_callG GFi gg hr5 (by rfl) gFi kFi bFi .nil pass0 (pa_cons (pv 9) (pa_cons (pv 3) (pa_cons (pv 5) (pa_cons (pv 6) pa_nil)))))))))))
(pss_one (ps_ret pe_bl))
pss_nil)
(pss_cons (ps_set (i := 12) nd rfl (Or.inl rfl) (pe_ix ix_list (pe_lst (pa_cons pe_str (pa_cons pe_str pa_nil))) (pe_callTy call_int1 (by rfl) n_int (by decide +kernel) (pa_cons (pe_cmpR op_eq (pv 3) pe_str (nomark _)) pa_nil)) (fun _ _ => rfl)))
(pss_one (ps_if (PW.pt (pw_and (pt_cmpR op_in_seq (pv 3) (pe_tup (pa_cons pe_str (pa_cons pe_str (pa_cons pe_str (pa_cons pe_str (pa_cons pe_str pa_nil)))))) rfl) (pw_and1 (pt_cmpR (op_eqO (O.mth "__eq__" (by decide)) GEq hr5 bEq pass0 hu0) (pv 9) (pe_call GSc hr7 (by rfl) gLS kSc bSc .nil pass0 (pa_cons (pv 12) (pa_cons (pv 5) (pa_cons (pv 6) pa_nil)))) (nomark _)))))
(pss_one (ps_ret pe_bl))
pss_nil)))))))))))))))))
(pss_one (ps_ret pe_bl))))), ?_⟩
    refine ⟨_, rfl, a, ns, rfl, hS, hl, fun p g G1 np ng s1 hB => ?_⟩
    dsimp only [gName, List.set]
    -- WORLDS
    have wsm : Small (.tuple (rks.map PyData.str)) 8 sizeLine := by
      have f : (PyData.tuple (rks.map PyData.str)).showable = true ∧ (PyData.tuple (rks.map PyData.str)).hasDict = false ∧ (PyData.tuple (rks.map PyData.str)).depth ≤ 8 ∧ (PyData.tuple (rks.map PyData.str)).shown.length ≤ 2000 := by decide +kernel
      exact ⟨f.1, f.2.1, f.2.2.1, Nat.le_trans f.2.2.2 (by rw [sizeLine_eq]; decide)⟩
    refine ⟨_, _, rfl, .tup (hWS _) (strs_dp rks), wsm, (by show 4 ≤ sizeLine; decide), fun T nT => ?_⟩
    generalize e_G2 : upd _ T _ = G2
    have s_T := new_same e_G2 nT
    have f_T := new_at e_G2
    clear e_G2
    have hB := hB.mv s_T
    refine ⟨_, _, rfl, .tup (SqT.of f_T) (strs_dp rks), wsm, rfl, _, rfl, no (neq_self _) ?_⟩
    clear f_T s_T nT
    refine ⟨8, rfl, by decide, by decide, ?_⟩
    refine for_it (walk_rng (n := 8)) (fun _ σ G => ∃ w2 w3 w4 w5 w6 w7 w8 w9 w10 w11 w12, σ = [some (.ref a), some (.ref p), w2, w3, w4, w5, w6, w7, w8, w9, w10, w11, w12] ∧ Pool G p g)
      ⟨_, _, _, _, _, _, _, _, _, _, _, rfl, hB⟩ (fun _ _ _ _ _ => trivial) ?_ (fun σ G _ => k _)
    clear hB s1
    rintro j x σ G' G hj ⟨w2, w3, w4, w5, w6, w7, w8, w9, w10, w11, w12, rfl, hB⟩ ⟨rfl, rfl⟩
    dsimp only [gName, List.set]
    -- op, worlds
    refine ⟨_, rfl, p, g, rfl, hB, fun op hop G1 k1 hB1 => ?_⟩
    obtain ⟨o, ho, rfl⟩ := ops_args op hop
    obtain ⟨wl1, wl3, osh, wsh⟩ := wd_one o.1 hop
    dsimp only [gName, List.set]
    refine ⟨_, rfl, o.1, rfl, fun W G2 nW s2 hW => ?_⟩
    obtain ⟨nWp, nWg⟩ := hB1.ne nW
    have hB1 := hB1.mv s2
    have hW : LsP p g G2 W (wor o.1) := ⟨nWp, nWg, hW⟩
    dsimp only [gName, List.set]
    -- worlds_of
    refine ⟨_, rfl, .str o.1, .str o.1, rfl, .str _, osh, fun z hz ez T nT => ?_, fun h => by rw [inS_str, decide_eq_true hop] at h; cases h⟩
    injection ez with ez
    subst ez
    generalize e_G3 : upd _ T _ = G3
    have s_T := new_same e_G3 nT
    have f_T := new_at e_G3
    clear e_G3
    have hB1 := hB1.mv s_T
    have hW := hW.mv s_T
    refine ⟨_, _, _, _, _, rfl, .ty _, .base (.tup f_T), (by kernel_rfl : PySem.W.kitOne K (.type "tuple") (.type "tuple") = some true), _, rfl, no rfl ?_⟩
    refine ⟨_, rfl, .str o.1, .str o.1, rfl, .str _, osh, fun z hz ez T2 nT2 => ?_, fun h => by rw [inS_str, decide_eq_true hop] at h; cases h⟩
    injection ez with ez
    subst ez
    generalize e_G4 : upd _ T2 _ = G4
    have s_T2 := new_same e_G4 nT2
    have f_T2 := new_at e_G4
    clear e_G4
    have hB1 := hB1.mv s_T2
    have hW := hW.mv s_T2
    refine ⟨T2, _, rfl, .inr (SqT.of f_T2), fun L nL => ?_⟩
    generalize e_G5 : upd _ L _ = G5
    have s_L := new_same e_G5 nL
    have f_L := new_at e_G5
    clear e_G5
    have hB1 := hB1.mv s_L
    have hW := hW.mv s_L
    refine ⟨_, rfl, .list ((wor o.1).map PyData.str), .list ((wor o.1).map PyData.str), .lst (SqL.of f_L) (strs_dp _), .lst (SqL.of hW.at_) (strs_dp _), wsh, wsh, _, rfl, no (sh_eqv wsh) ?_⟩
    clear f_T s_T nT f_T2 s_T2 nT2 f_L s_L nL
    -- world
    refine ⟨_, rfl, _, rfl, _, rfl, W, _, rfl, .inl (SqL.of hW.at_), p, g, _, rfl, hB1, by rw [List.length_map]; omega, by rw [List.length_map]; omega, fun r G3 r0 r1 k3 hB3 => ?_⟩
    rw [List.length_map] at r1
    obtain ⟨jj, rfl⟩ : ∃ j : Nat, r = j := ⟨r.toNat, by omega⟩
    have hjj : jj < (wor o.1).length := by omega
    obtain ⟨wd, hwj⟩ : ∃ wd, (wor o.1)[jj]? = some wd := ⟨_, List.getElem?_eq_getElem hjj⟩
    have hwd : wd ∈ wor o.1 := List.mem_of_getElem? hwj
    have hwr := ((wd_sh o.1 hop).2 wd hwd).2
    have hwx : ((wor o.1).map V.str)[jj]? = some (.str wd) := by rw [List.getElem?_map, hwj]; rfl
    have hW := hW.mp hB1 k3
    clear hB1 k3 k1 s2
    refine ⟨W, _, _, _, rfl, rfl, SqL.of hW.at_, atI_nat hwx, ?_⟩
    dsimp only [gName, List.set]
    -- n
    refine ⟨_, rfl, _, rfl, _, rfl, _, _, rfl, rfl, ⟨by decide, by decide, by decide⟩, _, _, rfl, rfl, (by show 2 ≤ sizeLine; decide), fun L nL => ?_⟩
    obtain ⟨nLp, nLg⟩ := hB3.ne nL
    generalize e_G4 : upd _ L _ = G4
    have s_L := new_same e_G4 nL
    have f_L := new_at e_G4
    clear e_G4
    have hB3 := hB3.mv s_L
    refine ⟨_, rfl, p, g, _, rfl, hB3, by decide, by decide, fun q G5 q0 q1 k5 hB5 => ?_⟩
    have hLm : ∃ m : Int, atI [V.int 6, V.int ((10 : Int) ^ Int.toNat 30 - 1)] q = some (.int m) ∧ 2 ≤ m ∧ m + 1 ≤ G30 := by
      rcases (show q = 0 ∨ q = 1 by omega) with rfl | rfl
      · exact ⟨6, atI_nat (j := 0) rfl, by decide, by decide⟩
      · exact ⟨(10 : Int) ^ Int.toNat 30 - 1, atI_nat (j := 1) rfl, by decide, by decide⟩
    obtain ⟨mm, hmm, m2, m30⟩ := hLm
    refine ⟨L, _, _, _, rfl, rfl, SqL.of (k5 _ _ nLp nLg f_L), hmm, p, g, o.1, wd, mm, rfl, hB5, hop, hwd, m2, by omega, fun D G6 h t x y kk oo N NO => ?_⟩
    have hg := nu_good hop hwd (by omega) NO
    have ug := fun {z : Str} (hz : z ∈ (["other", "to", "home"] : List Str)) (hp : 0 < n6 h t x y kk oo z) => up_good hop hwd m30 NO hz hp
    have hD : DcP p g G6 D (nuN (nV (n6 h t x y kk oo))) := by rw [nuN_n6]; exact N.dc
    have hB := N.po
    clear N NO hB3 hB5 k5 hmm m2 m30 f_L s_L nL nLp nLg hW
    revert hg hD ug
    generalize n6 h t x y kk oo = nf
    intro hg ug hD
    dsimp only [gName, List.set]
    -- changed
    refine ⟨_, rfl, D, _, rfl, .inl hD.at_, fun C nC => ?_⟩
    obtain ⟨nCp, nCg⟩ := hB.ne nC
    have nDC : D ≠ C := ne_of_none hD.at_ nC
    generalize e_G7 : upd _ C _ = G7
    have s_C := new_same e_G7 nC
    have f_C := new_at e_G7
    clear e_G7
    have hB := hB.mv s_C
    have hD := hD.mv s_C
    have hC : DcP p g G7 C (nuN (nV nf)) := ⟨nCp, nCg, f_C⟩
    clear f_C s_C nC
    dsimp only [gName, List.set]
    -- word
    refine ⟨(by show 3 ≤ sizeLine; decide), fun L nL => ?_⟩
    obtain ⟨nLp, nLg⟩ := hB.ne nL
    generalize e_G8 : upd _ L _ = G8
    have s_L := new_same e_G8 nL
    have f_L := new_at e_G8
    clear e_G8
    have hB := hB.mv s_L
    have hD := hD.mv s_L
    have hC := hC.mv s_L
    refine ⟨_, rfl, p, g, _, rfl, hB, by decide, by decide, fun q G9 q0 q1 k9 hB9 => ?_⟩
    obtain ⟨jq, rfl⟩ : ∃ jq : Nat, q = jq := ⟨q.toNat, by omega⟩
    have hjq : jq < 3 := by omega
    obtain ⟨z, hzj⟩ : ∃ z, (["other", "to", "home"] : List Str)[jq]? = some z := ⟨_, List.getElem?_eq_getElem hjq⟩
    have hz : z ∈ (["other", "to", "home"] : List Str) := List.mem_of_getElem? hzj
    have hzn : z ∈ nk := by
      have : ∀ z ∈ (["other", "to", "home"] : List Str), z ∈ nk := by decide +kernel
      exact this z hz
    have hzx : ((["other", "to", "home"] : List Str).map V.str)[jq]? = some (.str z) := by rw [List.getElem?_map, hzj]; rfl
    have hD := hD.mp hB k9
    have hC := hC.mp hB k9
    refine ⟨L, _, _, _, rfl, rfl, SqL.of (k9 _ _ nLp nLg f_L), atI_nat hzx, ?_⟩
    dsimp only [gName, List.set]
    clear f_L s_L nL nLp nLg k9 hB
    refine seq_by (fun σ G => ∃ nf2, σ = [some (.ref a), some (.ref p), some (.int (j : Int)), some (.str o.1), some (.ref W), some (.str wd), some (.ref D), some (.ref C), some (.str z), w9, w10, w11, w12] ∧ Pool G p g ∧ DcP p g G D (nuN (nV nf)) ∧ DcP p g G C (nuN (nV nf2)) ∧ wrong (okP o.1 wd (nI nf2)) = none ∧ (nf2 = nf ∨ totI nf2 ≠ totI nf)) ?_ (fun nxt => ?_)
    rotate_left
    · refine ⟨_, rfl, p, g, _, rfl, hB9, by decide, by decide, fun q2 Ga q20 q21 ka hBa => ⟨rfl, _, rfl, ?_⟩⟩
      have hD := hD.mp hB9 ka
      have hC := hC.mp hB9 ka
      refine ite2' (fun _ => ?_) (fun _ => nxt _ _ ⟨nf, rfl, hBa, hD, hC, hg, .inl rfl⟩)
      refine ⟨_, rfl, _, rfl, D, _, rfl, dg_nk hzn hD.at_, _, _, rfl, rfl, _, rfl, ite2' (fun c => ?_) (fun _ => nxt _ _ ⟨nf, rfl, hBa, hD, hC, hg, .inl rfl⟩)⟩
      have c : 0 < nf z := of_decide_eq_true c
      obtain ⟨u1, u2⟩ := ug hz c
      refine ⟨_, rfl, _, rfl, C, _, rfl, dg_nk hzn hC.at_, _, _, rfl, rfl, _, rfl, _, rfl, C, _, rfl, .inl ⟨_, .inr z, hC.at_, rfl, (by show 6 < sizeLine; decide), rfl⟩, ?_⟩
      rw [put_nk z hz]
      exact nxt _ _ ⟨_, rfl, pool_off hBa hC.at_ nofun, hD.off nDC, ⟨hC.np, hC.ng, upd_same⟩, u1, .inr (by rw [u2]; omega)⟩
    clear hB9 hD hC ug
    rintro σ G ⟨nf2, rfl, hB, hD, hC, hg2, hne⟩
    -- first, second
    refine ⟨_, rfl, _, rfl, _, rfl, o.1, wd, D, nf, rfl, hop, hwd, hD.at_, hg, fun F1 Ga nF1 sa h1 => ?_⟩
    have hB := hB.mv sa
    have hD := hD.mv sa
    have hC := hC.mv sa
    dsimp only [gName, List.set]
    refine ⟨_, rfl, _, rfl, _, rfl, o.1, wd, C, nf2, rfl, hop, hwd, hC.at_, hg2, fun F2 Gb nF2 sb h2 => ?_⟩
    have hB := hB.mv sb
    have hD := hD.mv sb
    have hC := hC.mv sb
    have h1 := h1.mv sb
    dsimp only [gName, List.set]
    refine ⟨_, rfl, _, rfl, _, rfl, _, rfl, F1, D, o, wd, nf, rfl, ho, hwd, h1, hD.at_, hg, fun Gc sc => ⟨_, rfl, no rfl ?_⟩⟩
    have hB := hB.mv sc
    have hD := hD.mv sc
    have hC := hC.mv sc
    have h1 := h1.mv sc
    have h2 := h2.mv sc
    refine ⟨_, rfl, _, rfl, _, rfl, _, rfl, F2, C, o, wd, nf2, rfl, ho, hwd, h2, hC.at_, hg2, fun Gd sd => ⟨_, rfl, no rfl ?_⟩⟩
    have hB := hB.mv sd
    have hD := hD.mv sd
    have hC := hC.mv sd
    have h1 := h1.mv sd
    have h2 := h2.mv sd
    clear sa sb sc sd nF1 nF2
    -- same
    refine ⟨_, rfl, _, rfl, D, C, _, _, rfl, rfl, hD.at_, hC.at_, rfl, ints_all, ?_⟩
    rw [same_eq (wd := wd) hne]
    dsimp only [gName, List.set]
    have insT : ∀ {G : Hp} {b : Addr} {op2 wd2 : Str} {n2 : Str → Int}, ScnAt K G b op2 wd2 n2 → InsT G b (ga K "Scene") := fun h => by
      obtain ⟨dx, fs, q, _⟩ := h
      exact ⟨dx, fs, q⟩
    have tyS : ∀ {G : Hp} {b : Addr} {op2 wd2 : Str} {n2 : Str → Int}, ScnAt K G b op2 wd2 n2 → TyX K G (.ref b) (.ref (ga K "Scene")) := fun h => by
      obtain ⟨dx, fs, q, _⟩ := h
      exact .base (.ins q S.cls O.a1 O.a3 O.a4 O.a2)
    -- first == second
    refine ⟨_, rfl, _, rfl, F1, _, rfl, insT h1, tyS h2, O.n1, ?_⟩
    refine ⟨F1, o.1, wd, nf, .ref F2, rfl, h1, hwr, .inl ⟨F2, o.1, wd, nf2, rfl, h2, hwr, fun Ge se => ⟨_, rfl, ?_⟩⟩⟩
    have hB := hB.mv se
    have hD := hD.mv se
    have hC := hC.mv se
    have h1 := h1.mv se
    have h2 := h2.mv se
    rw [decide_eq_true (rfl : o.1 = o.1), Bool.true_and]
    refine ⟨_, rfl, rfl, _, rfl, no (neq_self _) ?_⟩
    clear se
    -- first == first.key
    obtain ⟨dx1, fs1, ha1, hf1⟩ := id h1
    refine ⟨_, rfl, _, rfl, F1, dx1, fs1, rfl, ha1, F1, o.1, wd, nf, rfl, h1, hwr, fun T Gf nT sf hT => ?_⟩
    have hB := hB.mv sf
    have hD := hD.mv sf
    have hC := hC.mv sf
    have h1 := h1.mv sf
    have h2 := h2.mv sf
    refine ⟨F1, .type "tuple", rfl, insT h1, .base (.tup hT), O.n2, ?_⟩
    refine ⟨F1, o.1, wd, nf, .ref T, rfl, h1, hwr, .inr ⟨T, _, rfl, hT, ⟨_, rfl, _, rfl, no rfl ?_⟩⟩⟩
    -- first again
    refine ⟨_, rfl, _, rfl, _, rfl, _, rfl, F1, D, o, wd, nf, rfl, ho, hwd, h1, hD.at_, hg, fun Gg sg => ⟨_, rfl, no rfl ?_⟩⟩
    have hB := hB.mv sg
    have hD := hD.mv sg
    have h1 := h1.mv sg
    -- twin
    refine ⟨(by show 2 ≤ sizeLine; decide), fun L nL => ?_⟩
    generalize e_Gh : upd _ L _ = Gh
    have s_L := new_same e_Gh nL
    have f_L := new_at e_Gh
    clear e_Gh
    have hB := hB.mv s_L
    have hD := hD.mv s_L
    have h1 := h1.mv s_L
    refine ⟨_, rfl, rfl, .inr ⟨_, rfl, ?_⟩⟩
    refine ⟨L, _, _, _, rfl, rfl, SqL.of f_L, at2s, ?_⟩
    rw [dstr]
    dsimp only [gName, List.set]
    refine ⟨_, rfl, (by show 5 ≤ sizeLine; decide), fun T5 nT5 => ?_⟩
    generalize e_Gi : upd _ T5 _ = Gi
    have s_T5 := new_same e_Gi nT5
    have f_T5 := new_at e_Gi
    clear e_Gi
    have hB := hB.mv s_T5
    have hD := hD.mv s_T5
    have h1 := h1.mv s_T5
    refine ⟨T5, fiveS.map V.str, rfl, .inr (SqT.of f_T5), rfl, rfl, _, rfl, ?_⟩
    rw [if_neg Bool.false_ne_true, inV_str]
    by_cases c : o.1 ∈ fiveS
    · refine yes (decide_eq_true c) ?_
      obtain ⟨tw, etw⟩ : ∃ tw : Str, tw = (if decide (o.1 = "take") = true then ("top" : Str) else "take") := ⟨_, rfl⟩
      rw [← etw]
      have htw : tw ∈ fiveS ∧ o.1 ≠ tw := by
        rw [etw]
        by_cases c2 : o.1 = "take"
        · rw [decide_eq_true c2, if_pos rfl, c2]
          decide +kernel
        · rw [decide_eq_false c2, if_neg Bool.false_ne_true]
          exact ⟨by decide +kernel, c2⟩
      obtain ⟨f1, f2, _⟩ := five tw htw.1
      have hwd2 : wd ∈ wor tw := by rw [f2, ← (five o.1 c).2.1]; exact hwd
      refine ⟨_, rfl, _, rfl, _, rfl, _, rfl, tw, wd, D, nf, rfl, f1, hwd2, hD.at_, (five_ok htw.1 c (nI nf)).trans hg, fun F3 Gj nF3 sj h3 => ?_⟩
      have hB := hB.mv sj
      have hD := hD.mv sj
      have h1 := h1.mv sj
      refine ⟨F1, _, rfl, insT h1, tyS h3, O.n1, ?_⟩
      refine ⟨F1, o.1, wd, nf, .ref F3, rfl, h1, hwr, .inl ⟨F3, tw, wd, nf, rfl, h3, hwr, fun Gk sk => ⟨_, rfl, _, rfl, ?_⟩⟩⟩
      rw [decide_eq_false htw.2, Bool.false_and]
      exact no rfl ⟨_, _, _, _, _, _, _, _, _, _, _, rfl, hB.mv sk⟩
    · refine no (decide_eq_false c) ?_
      exact ⟨_, _, _, _, _, _, _, _, _, _, _, rfl, hB⟩
end
end K23

set_option Elab.async false
set_option maxRecDepth 100000
set_option maxHeartbeats 0
namespace K23
open PySem PySem.Spec PyProof.Rows L2 He KX
structure Fs (K : PySem.W.Frag) : Prop where
  scn : ScnK K
  fre : ∀ x ∈ frees, (Fa.free x).ok K = true
  glo : ∀ x ∈ gls, (Fa.glo x).ok K = true
  bo : ErBO K
  bw : ErBW K
  bn : ErBN K
  tO : tupB K (ga K "OPERATIONS") ops = true
  tN : tupB K (ga K "NEW") ["put", "add"] = true
  tT : tupB K (ga K "TWO_LISTS") ["move", "send", "swap"] = true
  gr : (Fa.int "GREATEST" (10 ^ 30)).ok K = true
  ar : ∀ o ∈ args, argB K o = true
  tW : tupB K (ga K "WORLDS") rks = true
  rk : ∀ i ∈ List.range 4, rankB K (rks.getD i "") i = true
  cast : CastK K
  own : ScnO K
theorem ba9 {a b : Bool} (h : (a && b) = true) : a = true ∧ b = true := Bool.and_eq_true_iff.mp h
theorem vals_app {xs ys : List V} {us ws : List Value} (h : Vals xs us) (k : Vals ys ws) : Vals (xs ++ ys) (us ++ ws) := by
  induction h with
  | nil => exact k
  | cons r _ ih => exact .cons r ih
theorem arg_of {K : PySem.W.Frag} {w : World} (c : SaysPD chk fn prs dics w K) (ar : ∀ o ∈ args, argB K o = true) : ∀ o ∈ args, ∃ a, KDct K w (ga K "ARGUMENTS") o.1 (.ref a) ∧ ∀ G, SqT K G a (o.2.map V.str) := fun o ho => by
  obtain ⟨es, n, h1, h2, _⟩ := c.dic 0 (d := ("ARGUMENTS", ops)) rfl
  have h3 := ar o ho
  unfold argB at h3
  cases e : PySem.W.nsIn K (ga K "ARGUMENTS") o.1 with
  | none => rw [e] at h3; cases h3
  | some r =>
    cases r with
    | none => rw [e] at h3; cases h3
    | some u =>
      cases u with
      | ref a =>
        rw [e] at h3
        exact ⟨a, ⟨es, n, .ref a, h1, h2, e, rfl⟩, fun G => tupB_ok h3⟩
      | _ => rw [e] at h3; cases h3
theorem rank_of {K : PySem.W.Frag} {w : World} (c : SaysPD chk fn prs dics w K) (rk : ∀ i ∈ List.range 4, rankB K (rks.getD i "") i = true) : ∀ wd ∈ rks, KDct K w (ga K "RANKS") wd (.int (rkI wd)) := fun wd hw => by
  obtain ⟨es, n, h1, h2, _⟩ := c.dic 1 (d := ("RANKS", ["alone", "apart", "within", "itself"])) rfl
  have hi : ∀ wd ∈ rks, rks.idxOf wd ∈ List.range 4 ∧ rks.getD (rks.idxOf wd) "" = wd := by decide +kernel
  obtain ⟨i1, i2⟩ := hi wd hw
  have h3 := rk _ i1
  rw [i2] at h3
  unfold rankB at h3
  cases e : PySem.W.nsIn K (ga K "RANKS") wd with
  | none => rw [e] at h3; cases h3
  | some r =>
    cases r with
    | none => rw [e] at h3; cases h3
    | some u =>
      cases u with
      | int j t =>
        rw [e] at h3
        have ej : j = rkI wd := of_decide_eq_true h3
        exact ⟨es, n, .int j t, h1, h2, e, ⟨t, by rw [ej]⟩⟩
      | _ => rw [e] at h3; cases h3
theorem cast_of {K : PySem.W.Frag} (h : castB K = true) : CastK K := by
  unfold castB at h
  obtain ⟨h1, h⟩ := ba9 h
  obtain ⟨h2, h3⟩ := ba9 h
  exact ⟨mkr_ok h1, cls_ok h2, fun f hf => noat_ok (List.all_eq_true.mp h3 f hf)⟩
theorem scn_of {K : PySem.W.Frag} (h : scnB K = true) : ScnK K ∧ ScnO K := by
  unfold scnB ownSB at h
  obtain ⟨h1, h⟩ := ba9 h
  obtain ⟨h2, h⟩ := ba9 h
  obtain ⟨h3, h⟩ := ba9 h
  obtain ⟨h4, h⟩ := ba9 h
  obtain ⟨o1, h⟩ := ba9 h
  obtain ⟨o2, h⟩ := ba9 h
  obtain ⟨o3, h⟩ := ba9 h
  obtain ⟨o4, h⟩ := ba9 h
  obtain ⟨o5, h⟩ := ba9 h
  obtain ⟨o6, h⟩ := ba9 h
  obtain ⟨o7, o8⟩ := ba9 h
  exact ⟨⟨mkr_ok h1, cls_ok h2, fun f hf => noat_ok (List.all_eq_true.mp h3 f hf)⟩, ⟨of_decide_eq_true o1, of_decide_eq_true o2, o3, o4, eqO_ok o5, of_decide_eq_true o6, eqO_ok o7, of_decide_eq_true o8, fun m hm => by
    rcases List.mem_cons.mp hm with rfl | hm
    · exact meth_ok (List.all_eq_true.mp h4 "__eq__" (by simp))
    · rw [List.mem_singleton.mp hm]
      exact meth_ok (List.all_eq_true.mp h4 "arguments" (by simp))⟩⟩
theorem facts_of {K : PySem.W.Frag} (h : chk K = true) : Fs K := by
  unfold chk errB conB at h
  obtain ⟨h1, h⟩ := ba9 h
  obtain ⟨hc, h⟩ := ba9 h
  obtain ⟨h2, h⟩ := ba9 h
  obtain ⟨h3, h⟩ := ba9 h
  obtain ⟨h4, h5⟩ := ba9 h
  obtain ⟨e1, e⟩ := ba9 h1
  obtain ⟨e2, e3⟩ := ba9 e
  obtain ⟨t1, t⟩ := ba9 h3
  obtain ⟨t2, t⟩ := ba9 t
  obtain ⟨t3, t⟩ := ba9 t
  obtain ⟨t4, t⟩ := ba9 t
  obtain ⟨t5, t⟩ := ba9 t
  obtain ⟨t6, t7⟩ := ba9 t
  exact ⟨(scn_of h2).1, List.all_eq_true.mp h4, List.all_eq_true.mp h5, er_of e1, er_of e2, er_of e3, t1, t2, t3, t4, List.all_eq_true.mp t7, t5, List.all_eq_true.mp t6, cast_of hc, (scn_of h2).2⟩
theorem all_ok {P : Program} {w : World} {K : PySem.W.Frag} {h : Heap} {mg : Str → Option Value} {f : Addr} (X : K.In h) (G : h.Ns mainGlobals mg) (hfa : mg ("law" : Str) = some (.ref f)) (c : SaysPD chk fn prs dics w K) :
    ∃ fd : FuncData, (∀ (s : Shared) (u : Value), BindsTo s fd ⟨[u], []⟩ [("script", u)]) ∧ ∀ base : Heap, K.In base → base.Ns mainGlobals mg → FnG P w K mg base CX0 8 f fd ["script"] (spLaw K) := by
  have cx := c.1.1
  have S := facts_of cx.1
  have g : ∀ x ∈ gls, mg x = some (.ref (ga K x)) := fun x hx => glo_ok X G (S.glo x hx)
  have fr : ∀ x ∈ frees, mg x = none := fun x hx => free_ok X G (S.fre x hx)
  obtain ⟨fd7, F7⟩ := cx.fd 7
  replace F7 : FnP K "is_integer" sInt (ga K "is_integer") fd7 := F7
  obtain ⟨fd8, F8⟩ := cx.fd 8
  replace F8 : FnP K "arguments_of" sArg (ga K "arguments_of") fd8 := F8
  obtain ⟨fd9, F9⟩ := cx.fd 9
  replace F9 : FnP K "_is_there" sThr (ga K "_is_there") fd9 := F9
  obtain ⟨fd10, F10⟩ := cx.fd 10
  replace F10 : FnP K "worlds_of" sWor (ga K "worlds_of") fd10 := F10
  obtain ⟨fd11, F11⟩ := cx.fd 11
  replace F11 : FnP K "_fits" sFit (ga K "_fits") fd11 := F11
  obtain ⟨fd12, F12⟩ := cx.fd 12
  replace F12 : FnP K "_limits" sLim (ga K "_limits") fd12 := F12
  obtain ⟨fd13, F13⟩ := cx.fd 13
  replace F13 : FnP K "_limits_of_y" sLiY (ga K "_limits_of_y") fd13 := F13
  obtain ⟨fd14, F14⟩ := cx.fd 14
  replace F14 : FnP K "_limits_of_k" sLiK (ga K "_limits_of_k") fd14 := F14
  obtain ⟨fd15, F15⟩ := cx.fd 15
  replace F15 : FnP K "_law_pool" sLPool (ga K "_law_pool") fd15 := F15
  obtain ⟨fd16, F16⟩ := cx.fd 16
  replace F16 : FnP K "_law_draw" sLDraw (ga K "_law_draw") fd16 := F16
  obtain ⟨fd17, F17⟩ := cx.fd 17
  replace F17 : FnP K "_law_op" sLOp (ga K "_law_op") fd17 := F17
  obtain ⟨fd18, F18⟩ := cx.fd 18
  replace F18 : FnP K "_law_worlds" sLWo (ga K "_law_worlds") fd18 := F18
  obtain ⟨fd20, F20⟩ := cx.fd 20
  replace F20 : FnP K "_law_upto" sLUp (ga K "_law_upto") fd20 := F20
  obtain ⟨fd21, F21⟩ := cx.fd 21
  replace F21 : FnP K "_law_numbers" sLNu (ga K "_law_numbers") fd21 := F21
  obtain ⟨fd22, F22⟩ := cx.fd 22
  replace F22 : FnP K "_law_scene" sLSc (ga K "_law_scene") fd22 := F22
  obtain ⟨fd23, F23⟩ := cx.fd 23
  replace F23 : FnP K "_law_arguments" sLAr (ga K "_law_arguments") fd23 := F23
  obtain ⟨fd24, F24⟩ := cx.fd 24
  replace F24 : FnP K "_law_key" sLKe (ga K "_law_key") fd24 := F24
  obtain ⟨fd25, F25⟩ := cx.fd 25
  replace F25 : FnP K "_law_fits" sLFi (ga K "_law_fits") fd25 := F25
  obtain ⟨fd26, F26⟩ := cx.fd 26
  replace F26 : FnP K "law" sLaw (ga K "law") fd26 := F26
  obtain ⟨fd0, F0⟩ := cx.fd 0
  replace F0 : FunD K "__init__" (("BadOperation" : Str) ++ ".__init__") (defArgs sBOI) (defBody sBOI) (defScope sBOI) [] [] (ma K (ga K "BadOperation") "__init__") fd0 := F0
  rw [(by decide +kernel : (("BadOperation" : Str) ++ ".__init__" : Str) = "BadOperation.__init__")] at F0
  obtain ⟨fd1, F1⟩ := cx.fd 1
  replace F1 : FunD K "__init__" (("BadWorld" : Str) ++ ".__init__") (defArgs sBWI) (defBody sBWI) (defScope sBWI) [] [] (ma K (ga K "BadWorld") "__init__") fd1 := F1
  rw [(by decide +kernel : (("BadWorld" : Str) ++ ".__init__" : Str) = "BadWorld.__init__")] at F1
  obtain ⟨fd2, F2⟩ := cx.fd 2
  replace F2 : FunD K "__init__" (("BadNumber" : Str) ++ ".__init__") (defArgs sBNI) (defBody sBNI) (defScope sBNI) [] [] (ma K (ga K "BadNumber") "__init__") fd2 := F2
  rw [(by decide +kernel : (("BadNumber" : Str) ++ ".__init__" : Str) = "BadNumber.__init__")] at F2
  obtain ⟨fd3, F3⟩ := cx.fd 3
  replace F3 : FunD K "__init__" (("Cast" : Str) ++ ".__init__") (defArgs sCst) (defBody sCst) (defScope sCst) [] [] (ma K (ga K "Cast") "__init__") fd3 := F3
  rw [(by decide +kernel : (("Cast" : Str) ++ ".__init__" : Str) = "Cast.__init__")] at F3
  have e := hfa.symm.trans (g "law" (by decide))
  cases e
  refine ⟨fd26, fun s u => FunD.bindsA (ps := ["script"]) F26 (fun _ _ _ _ _ _ us hl => match us, hl with | [_], _ => rfl) s [u] rfl, fun base _ _ => ?_⟩
  have n_isinstance := fr "isinstance" (by decide)
  have n_int := fr "int" (by decide)
  have n_bool := fr "bool" (by decide)
  have n_len := fr "len" (by decide)
  have n_tuple := fr "tuple" (by decide)
  have n_list := fr "list" (by decide)
  have n_dict := fr "dict" (by decide)
  have n_abs := fr "abs" (by decide)
  have n_min := fr "min" (by decide)
  have n_max := fr "max" (by decide)
  have n_repr := fr "repr" (by decide)
  have n_range := fr "range" (by decide)
  have b7 : Binds K fd7 ["thing"] [] := F7.bindsN fun _ _ _ _ _ _ us hl => match us, hl with | [_], _ => rfl
  have b8 : Binds K fd8 ["op"] [] := F8.bindsN fun _ _ _ _ _ _ us hl => match us, hl with | [_], _ => rfl
  have b9 : Binds K fd9 ["lst", "op", "apart"] [] := F9.bindsN fun _ _ _ _ _ _ us hl => match us, hl with | [_, _, _], _ => rfl
  have b10 : Binds K fd10 ["op"] [] := F10.bindsN fun _ _ _ _ _ _ us hl => match us, hl with | [_], _ => rfl
  have b11 : Binds K fd11 ["name", "worth", "op", "world", "home", "to", "x"] [] := F11.bindsN fun _ _ _ _ _ _ us hl => match us, hl with | [_, _, _, _, _, _, _], _ => rfl
  have b12 : Binds K fd12 ["name", "op", "world", "home", "to"] [] := F12.bindsN fun _ _ _ _ _ _ us hl => match us, hl with | [_, _, _, _, _], _ => rfl
  have b13 : Binds K fd13 ["op", "world", "home", "to"] [] := F13.bindsN fun _ _ _ _ _ _ us hl => match us, hl with | [_, _, _, _], _ => rfl
  have b14 : Binds K fd14 ["op", "world", "home", "to"] [] := F14.bindsN fun _ _ _ _ _ _ us hl => match us, hl with | [_, _, _, _], _ => rfl
  have b15 : Binds K fd15 ["script"] [] := F15.bindsN fun _ _ _ _ _ _ us hl => match us, hl with | [_], _ => rfl
  have b16 : Binds K fd16 ["pool", "limit"] [] := F16.bindsN fun _ _ _ _ _ _ us hl => match us, hl with | [_, _], _ => rfl
  have b17 : Binds K fd17 ["pool"] [] := F17.bindsN fun _ _ _ _ _ _ us hl => match us, hl with | [_], _ => rfl
  have b18 : Binds K fd18 ["op"] [] := F18.bindsN fun _ _ _ _ _ _ us hl => match us, hl with | [_], _ => rfl
  have b20 : Binds K fd20 ["pool", "low", "high"] [] := F20.bindsN fun _ _ _ _ _ _ us hl => match us, hl with | [_, _, _], _ => rfl
  have b21 : Binds K fd21 ["pool", "op", "world", "most"] [] := F21.bindsN fun _ _ _ _ _ _ us hl => match us, hl with | [_, _, _, _], _ => rfl
  have b22 : Binds K fd22 ["op", "world", "n"] [] := F22.bindsN fun _ _ _ _ _ _ us hl => match us, hl with | [_, _, _], _ => rfl
  have b23 : Binds K fd23 ["op", "world", "n"] [] := F23.bindsN fun _ _ _ _ _ _ us hl => match us, hl with | [_, _, _], _ => rfl
  have b24 : Binds K fd24 ["world", "n"] [] := F24.bindsN fun _ _ _ _ _ _ us hl => match us, hl with | [_, _], _ => rfl
  have b25 : Binds K fd25 ["scene", "op", "world", "n"] [] := F25.bindsN fun _ _ _ _ _ _ us hl => match us, hl with | [_, _, _, _], _ => rfl
  have b26 : Binds K fd26 ["script"] [] := F26.bindsN fun _ _ _ _ _ _ us hl => match us, hl with | [_], _ => rfl
  have b0 : Binds K fd0 ["self", "op"] [] := F0.bindsN fun _ _ _ _ _ _ us hl => match us, hl with | [_, _], _ => rfl
  have b1 : Binds K fd1 ["self", "world"] [] := F1.bindsN fun _ _ _ _ _ _ us hl => match us, hl with | [_, _], _ => rfl
  have b2 : Binds K fd2 ["self", "name"] [] := F2.bindsN fun _ _ _ _ _ _ us hl => match us, hl with | [_, _], _ => rfl
  have b3 : Binds K fd3 ["self", "op", "world"] [] := F3.bindsN fun _ _ _ _ _ _ us hl => match us, hl with | [_, _, _], _ => rfl
  have g7 := g "is_integer" (by decide)
  have g8 := g "arguments_of" (by decide)
  have g9 := g "_is_there" (by decide)
  have g10 := g "worlds_of" (by decide)
  have g11 := g "_fits" (by decide)
  have g12 := g "_limits" (by decide)
  have g13 := g "_limits_of_y" (by decide)
  have g14 := g "_limits_of_k" (by decide)
  have g15 := g "_law_pool" (by decide)
  have g16 := g "_law_draw" (by decide)
  have g17 := g "_law_op" (by decide)
  have g18 := g "_law_worlds" (by decide)
  have g20 := g "_law_upto" (by decide)
  have g21 := g "_law_numbers" (by decide)
  have g22 := g "_law_scene" (by decide)
  have g23 := g "_law_arguments" (by decide)
  have g24 := g "_law_key" (by decide)
  have g25 := g "_law_fits" (by decide)
  have g26 := g "law" (by decide)
  have gBO := g "BadOperation" (by decide)
  have gBW := g "BadWorld" (by decide)
  have gBN := g "BadNumber" (by decide)
  have gSc := g "Scene" (by decide)
  have gCa := g "Cast" (by decide)
  have gOPS := g "OPERATIONS" (by decide)
  have gARG := g "ARGUMENTS" (by decide)
  have gNEW := g "NEW" (by decide)
  have gTWO := g "TWO_LISTS" (by decide)
  have gRK := g "RANKS" (by decide)
  have gWS := g "WORLDS" (by decide)
  obtain ⟨t30, gGR⟩ : ∃ t, mg "GREATEST" = some (.int G30 t) := He.int_ok X G S.gr
  have hA := arg_of c S.ar
  have hRK := rank_of c S.rk
  have G7 : FnOk P w K mg base CX0 1 (ga K "is_integer") fd7 ["thing"] (spInt K) := ok_int F7 n_isinstance n_int n_bool
  have G8 : FnOk P w K mg base (L2N.CX P w) 3 (ga K "arguments_of") fd8 ["op"] (spArg K) := ok_arg F8 S.bo gBO F0 (fun _ => tupB_ok S.tO) gOPS hA gARG
  have G10 : FnOk P w K mg base (L2N.CX P w) 4 (ga K "worlds_of") fd10 ["op"] (spWor K) := ok_wor F10 G8 b8 F8.kp g8 (fun _ => tupB_ok S.tT) gTWO
  have G9 : FnOk P w K mg base CX0 1 (ga K "_is_there") fd9 ["lst", "op", "apart"] spThr := ok_thr F9 (fun _ => tupB_ok S.tN) gNEW
  have G3 : FnOk P w K mg base CX0 2 (ma K (ga K "Cast") "__init__") fd3 ["self", "op", "world"] (spCastI K) := ok_cst F3 S.cast (fun _ => tupB_ok S.tN) gNEW G9 b9 F9.kp g9 n_tuple
  have G13 : FnOk P w K mg base CX0 1 (ga K "_limits_of_y") fd13 ["op", "world", "home", "to"] spLiY := ok_liy F13
  have G14 : FnOk P w K mg base CX0 1 (ga K "_limits_of_k") fd14 ["op", "world", "home", "to"] spLiK := ok_lik F14 gGR n_min
  have G12 : FnOk P w K mg base CX0 2 (ga K "_limits") fd12 ["name", "op", "world", "home", "to"] spLim := ok_lim F12 gGR (fun _ => tupB_ok S.tN) gNEW G13 b13 F13.kp g13 G14 b14 F14.kp g14
  have G11 : FnOk P w K mg base CX0 3 (ga K "_fits") fd11 ["name", "worth", "op", "world", "home", "to", "x"] spFit := ok_fit F11 G12 b12 F12.kp g12
  obtain ⟨fd4, F4⟩ := cx.fd 4
  replace F4 : FunD K "__init__" "Scene.__init__" (defArgs sSci) (defBody sSci) (defScope sSci) [] kwL (ma K (ga K "Scene") "__init__") fd4 := F4
  obtain ⟨mv4, kb4⟩ := F4.kbinds0 3 (["home", "to", "x", "y", "k", "other"] : List Str) [] (fun us _ ws => us ++ ws) (by simp) (fun q hq => nomatch hq) (fun r1 _ r3 => vals_app r1 r3) (fun D doc pm an cdv ct us mv ws l1 l2 l3 => match us, mv, ws, l1, l2, l3 with | [_, _, _], [], [_, _, _, _, _, _], _, _, _ => rfl) (ps := sciP)
  have G4 : FnOk P w K mg base (L2N.CX P w) 5 (ma K (ga K "Scene") "__init__") fd4 sciP (spSci K) := ok_sci F4 S.scn S.bw gBW F1 S.bn gBN F2 G7 b7 F7.kp g7 G11 b11 F11.kp g11 G10 b10 F10.kp g10
  obtain ⟨fd5, F5⟩ := cx.fd 5
  replace F5 : FunD K "__eq__" "Scene.__eq__" (defArgs sEq) (defBody sEq) (defScope sEq) [] [] (ma K (ga K "Scene") "__eq__") fd5 := F5
  have b5 : Binds K fd5 ["self", "other"] [] := F5.bindsN fun _ _ _ _ _ _ us hl => match us, hl with | [_, _], _ => rfl
  obtain ⟨fd6, F6⟩ := cx.fd 6
  replace F6 : FunD K "arguments" "Scene.arguments" (defArgs sArs) (defBody sArs) (defScope sArs) [] [] (ma K (ga K "Scene") "arguments") fd6 := F6
  have b6 : Binds K fd6 ["self"] [] := F6.bindsN fun _ _ _ _ _ _ us hl => match us, hl with | [_], _ => rfl
  obtain ⟨PT, fdT, FT⟩ := c.1.pr 0
  replace PT : PropOf K (ga K "Scene") "total" (ma K (ga K "Scene") "total") (gAd K "Scene" "total") := PT
  replace FT : FunD K "total" "Scene.total" (defArgs sTot) (defBody sTot) (defScope sTot) [] [] (gAd K "Scene" "total") fdT := FT
  have bT : Binds K fdT ["self"] [] := FT.bindsN fun _ _ _ _ _ _ us hl => match us, hl with | [_], _ => rfl
  obtain ⟨PK, fdK, FK⟩ := c.1.pr 1
  replace PK : PropOf K (ga K "Scene") "key" (ma K (ga K "Scene") "key") (gAd K "Scene" "key") := PK
  replace FK : FunD K "key" "Scene.key" (defArgs sKey) (defBody sKey) (defScope sKey) [] [] (gAd K "Scene" "key") fdK := FK
  have bK : Binds K fdK ["self"] [] := FK.bindsN fun _ _ _ _ _ _ us hl => match us, hl with | [_], _ => rfl
  have GT : FnOk P w K mg base CX0 1 (gAd K "Scene" "total") fdT ["self"] (spTot K) := ok_tot FT S.scn
  have GK : FnOk P w K mg base CX0 3 (gAd K "Scene" "key") fdK ["self"] (spKey K) := ok_key FK S.scn PT GT bT gRK hRK
  have G5 : FnOk P w K mg base CX0 5 (ma K (ga K "Scene") "__eq__") fd5 ["self", "other"] (spEq K) := ok_eq2 F5 S.scn S.own PK GK bK gSc n_isinstance
  have G6 : FnOk P w K mg base CX0 4 (ma K (ga K "Scene") "arguments") fd6 ["self"] (spArs K) := ok_ars F6 S.scn S.cast G3 b3 gCa G8 b8 F8.kp g8
  have G16 : FnOk P w K mg base CX0 1 (ga K "_law_draw") fd16 ["pool", "limit"] spDrawP := ok_drawP F16 n_int n_len
  have G15 : FnOk P w K mg base CX0 1 (ga K "_law_pool") fd15 ["script"] (spPool K) := ok_poolP F15 n_int n_len n_abs n_min
  have G17 : FnOk P w K mg base CX0 2 (ga K "_law_op") fd17 ["pool"] spLOp := ok_lop F17 G16 b16 F16.kp g16
  have G18 : FnOk P w K mg base CX0 1 (ga K "_law_worlds") fd18 ["op"] spLWo := ok_lwo F18
  have G20 : FnOk P w K mg base CX0 2 (ga K "_law_upto") fd20 ["pool", "low", "high"] spLUp := ok_lup F20 G16 b16 F16.kp g16 n_min n_max
  have G21 : FnOk P w K mg base CX0 3 (ga K "_law_numbers") fd21 ["pool", "op", "world", "most"] spLNu := ok_lnu F21 G20 b20 F20.kp g20 n_int n_min
  have G22 : FnOk P w K mg base CX0 7 (ga K "_law_scene") fd22 ["op", "world", "n"] (spLSc K) := ok_lsc F22 S.scn G4 kb4 gSc
  have G23 : FnOk P w K mg base CX0 1 (ga K "_law_arguments") fd23 ["op", "world", "n"] (spLAr K) := ok_lar F23 n_int
  have G24 : FnOk P w K mg base CX0 1 (ga K "_law_key") fd24 ["world", "n"] (spLKe K) := ok_lke F24
  have G25 : FnG P w K mg base CX0 5 (ga K "_law_fits") fd25 ["scene", "op", "world", "n"] (spLFi K) := ok_lfi F25 S.scn S.own PK GK bK PT GT bT G6 b6 G24 b24 F24.kp g24 G23 b23 F23.kp g23 n_repr n_isinstance n_dict
  exact ok_law F26 S.scn S.own G15 b15 F15.kp g15 G16 b16 F16.kp g16 G17 b17 F17.kp g17 G18 b18 F18.kp g18 G21 b21 F21.kp g21 G10 b10 F10.kp g10 G22 b22 F22.kp g22 G25 b25 F25.kp g25 G5 b5 PK GK bK (fun _ => tupB_ok S.tW) gWS n_repr n_dict n_isinstance n_tuple n_list n_int n_len n_range
end K23
open PySem PySem.W PySem.Calls PyProof.Rows
set_option maxRecDepth 100000 in
set_option maxHeartbeats 0 in
theorem PySem.Challenge.cw_rowsinplace_k23_scenes_made_holds : PySem.Challenge.rw_rowsinplace_k23_scenes_made.Holds := by
  w_on; o_law
  refine HandSHeadRun.head_any (r := OpenLaw.row PySem.Challenge.rw_rowsinplace_k23_scenes_made) (q := view (OpenLaw.row PySem.Challenge.rw_rowsinplace_k23_scenes_made).prog [39]) (H := K23.hk) (ob := K23.ob) (M := 20000) (loose := K23.loose) (d := HandSHeadRun.topDef (OpenLaw.row PySem.Challenge.rw_rowsinplace_k23_scenes_made).prog 39) (kwd := []) K23.ob_eq
    (by kernel_rfl) (fun s => by kernel_rfl) K23.run (by kernel_rfl) (by kernel_rfl) (by kernel_rfl) (by rfl) (by first | assumption | decide +kernel) (by decide +kernel) ⟨rfl, rfl, rfl, rfl, rfl, by decide +kernel⟩ ?hw ?hc
  case hw => w_witness2
  case hc =>
    refine KX.walk_atG (l := PySem.Challenge.rw_rowsinplace_k23_scenes_made) (n := 63) (k := 8) (x := "script") rfl (by decide) (by kernel_rfl) ⟨rfl, by decide, by decide⟩ ?F
    intro w mg fa h Y G hmg0
    obtain ⟨K, KI, c⟩ := Y
    have hmg : mg ("law" : PySem.Str) = some (.ref fa) := by
      have e : (HandSHeadRun.topDef (OpenLaw.row PySem.Challenge.rw_rowsinplace_k23_scenes_made).prog 39).name = ("law" : PySem.Str) := by kernel_rfl
      rw [← e]
      exact hmg0
    obtain ⟨fd, hb, hF⟩ := K23.all_ok (P := (PySem.Challenge.rw_rowsinplace_k23_scenes_made).prog) (w := w) KI G hmg c
    exact ⟨K, fd, K23.spLaw K, KI, hb, fun H a ns hl _ hS => ⟨a, ns, rfl, hS, hl, fun _ => rfl⟩, hF⟩

