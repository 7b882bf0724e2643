/- Texts laid one behind the other: Zc, Zd, Ze, Zn, Zh, Zi, Zj, Zk. -/
import Derived.Test.YtmmfjmhemknpgaaB01
import Derived.Lib.QuietBelow
import Derived.BigQuiet
import Derived.Deep.QuietTactic
import Derived.Deep.RegionHeld3
import Derived.RegionTactic
import Derived.ChangeAlike
import Derived.BigRegion
/- Plans as values; what the program's functions shall answer of plans that may be (PlanCalls: proved for the real program in a text of its own); the laws' awake. -/
namespace Go.Proofs.Ytmmfjmhemknpgaa
open Go.RowKit Pln

/-- A plan, and where its slice lies. -/
structure Pnw where
  A : Option Addr
  c : Nat
  p : Pn
def inE : El Int where
  e := 3
  k := 1
  c x := [.int .i64 x]
  len _ := rfl
  one p u h := by
    simp only [List.mem_cons, List.not_mem_nil, or_false] at h
    subst h; rfl
  pos := by decide
def pnE : El Pnw where
  e := 24
  k := 9
  c x := [.slice x.A x.p.u.length x.c, .int .i64 x.p.q, .int .i64 x.p.r, .int .i64 x.p.b, .int .i64 x.p.l, .int .i64 x.p.w, .int .i64 x.p.c, .int .i64 x.p.k, .int .i64 x.p.i]
  len _ := rfl
  one p u h := by
    simp only [List.mem_cons, List.not_mem_nil, or_false] at h
    rcases h with rfl | rfl | rfl | rfl | rfl | rfl | rfl | rfl | rfl <;> rfl
  pos := by decide
theorem pnRow : pnE.Row Try.prog := ⟨by kernel_rfl, _, Try.underlying24, rfl⟩
def Pnw.zero : Pnw := ⟨none, 0, ⟨[], 0, 0, 0, 0, 0, 0, 0, 0⟩⟩
theorem pnIn9 {w : World} {b : Nat} {x : Pnw} (h : pnE.In w b x) : w.cell? ⟨b, 0, none⟩ = some (.slice x.A x.p.u.length x.c) ∧ w.cell? ⟨b, 1, none⟩ = some (.int .i64 x.p.q) ∧ w.cell? ⟨b, 2, none⟩ = some (.int .i64 x.p.r) ∧ w.cell? ⟨b, 3, none⟩ = some (.int .i64 x.p.b) ∧ w.cell? ⟨b, 4, none⟩ = some (.int .i64 x.p.l) ∧ w.cell? ⟨b, 5, none⟩ = some (.int .i64 x.p.w) ∧ w.cell? ⟨b, 6, none⟩ = some (.int .i64 x.p.c) ∧ w.cell? ⟨b, 7, none⟩ = some (.int .i64 x.p.k) ∧ w.cell? ⟨b, 8, none⟩ = some (.int .i64 x.p.i) :=
  ⟨h.cell 0, h.cell 1, h.cell 2, h.cell 3, h.cell 4, h.cell 5, h.cell 6, h.cell 7, h.cell 8⟩
/-- Numbers of nodes as values. -/
def ints (l : List Nat) : List Int := l.map fun (i : Nat) => (i : Int)
theorem ints_len (l : List Nat) : (ints l).length = l.length := by unfold ints; rw [List.length_map]
structure PlanCalls : Prop where
  right : ∀ (x : Pnw) (w : World), inE.Sl w x.A x.p.u → ∀ bv : Bool, (bv = true ↔ Pln.Right x.p) → Calls Try.prog 5 #[.agg #[.slice x.A x.p.u.length x.c, .int .i64 x.p.q, .int .i64 x.p.r, .int .i64 x.p.b, .int .i64 x.p.l, .int .i64 x.p.w, .int .i64 x.p.c, .int .i64 x.p.k, .int .i64 x.p.i]] w fun e w' => e = .returned (.bool bv) ∧ Below w.heap.size w w'
  kids : ∀ (x : Pnw) (n : Int) (w : World), inE.Sl w x.A x.p.u → Pln.Right x.p → Calls Try.prog 7 #[.agg #[.slice x.A x.p.u.length x.c, .int .i64 x.p.q, .int .i64 x.p.r, .int .i64 x.p.b, .int .i64 x.p.l, .int .i64 x.p.w, .int .i64 x.p.c, .int .i64 x.p.k, .int .i64 x.p.i], .int .i64 n] w fun e w' => ∃ A' c', e = .returned (.slice A' (kidsN x.p.u n).length c') ∧ (inE.Sl w' A' (ints (kidsN x.p.u n)) ∧ ∀ a, A' = some a → w.heap.size ≤ a.block) ∧ Below w.heap.size w w'
  kind : ∀ (x : Pnw) (n : Int) (w : World), inE.Sl w x.A x.p.u → Pln.Right x.p → Calls Try.prog 8 #[.agg #[.slice x.A x.p.u.length x.c, .int .i64 x.p.q, .int .i64 x.p.r, .int .i64 x.p.b, .int .i64 x.p.l, .int .i64 x.p.w, .int .i64 x.p.c, .int .i64 x.p.k, .int .i64 x.p.i], .int .i64 n] w fun e w' => e = .returned (.int .i64 (kindL x.p.u n)) ∧ Below w.heap.size w w'
  deep : ∀ (x : Pnw) (n : Int) (w : World), inE.Sl w x.A x.p.u → Pln.Right x.p → Calls Try.prog 10 #[.agg #[.slice x.A x.p.u.length x.c, .int .i64 x.p.q, .int .i64 x.p.r, .int .i64 x.p.b, .int .i64 x.p.l, .int .i64 x.p.w, .int .i64 x.p.c, .int .i64 x.p.k, .int .i64 x.p.i], .int .i64 n] w fun e w' => e = .returned (.int .i64 (deepL x.p.u n)) ∧ Below w.heap.size w w'
  deepest : ∀ (x : Pnw) (w : World), inE.Sl w x.A x.p.u → Pln.Right x.p → Calls Try.prog 11 #[.agg #[.slice x.A x.p.u.length x.c, .int .i64 x.p.q, .int .i64 x.p.r, .int .i64 x.p.b, .int .i64 x.p.l, .int .i64 x.p.w, .int .i64 x.p.c, .int .i64 x.p.k, .int .i64 x.p.i]] w fun e w' => e = .returned (.int .i64 (Pln.deepest x.p.u)) ∧ Below w.heap.size w w'
  devs : ∀ (x : Pnw) (w : World), inE.Sl w x.A x.p.u → Pln.Right x.p → Calls Try.prog 12 #[.agg #[.slice x.A x.p.u.length x.c, .int .i64 x.p.q, .int .i64 x.p.r, .int .i64 x.p.b, .int .i64 x.p.l, .int .i64 x.p.w, .int .i64 x.p.c, .int .i64 x.p.k, .int .i64 x.p.i]] w fun e w' => ∃ A' c', e = .returned (.slice A' (devsN x.p.u).length c') ∧ inE.Sl w' A' (ints (devsN x.p.u)) ∧ Below w.heap.size w w'
  below : ∀ (x : Pnw) (n top : Int) (w : World), inE.Sl w x.A x.p.u → Pln.Right x.p → Calls Try.prog 9 #[.agg #[.slice x.A x.p.u.length x.c, .int .i64 x.p.q, .int .i64 x.p.r, .int .i64 x.p.b, .int .i64 x.p.l, .int .i64 x.p.w, .int .i64 x.p.c, .int .i64 x.p.k, .int .i64 x.p.i], .int .i64 n, .int .i64 top] w fun e w' => e = .returned (.bool (belowU x.p.u n top)) ∧ Below w.heap.size w w'
  window : ∀ (x : Pnw) (w : World), inE.Sl w x.A x.p.u → Pln.Right x.p → Calls Try.prog 13 #[.agg #[.slice x.A x.p.u.length x.c, .int .i64 x.p.q, .int .i64 x.p.r, .int .i64 x.p.b, .int .i64 x.p.l, .int .i64 x.p.w, .int .i64 x.p.c, .int .i64 x.p.k, .int .i64 x.p.i]] w fun e w' => e = .returned (.int .i64 ((x.p.q + 2) * (devsN x.p.u).length)) ∧ Below w.heap.size w w'

def P0 : Pn := ⟨[-1, 0, 1, 1, 0], 2, 3, 2, 20, 2, 32, 4, 16⟩
def Q0 : Pn := ⟨[-1, 0, 1, 1, 0], 2, 3, 2, 16, 2, 32, 4, 16⟩
theorem P0_deepest : Pln.deepest P0.u = 2 := by rfl
theorem P0_right : Pln.Right P0 where
  n2 := by decide
  n12 := by decide
  up0 := by rfl
  par := fun i h0 hi => by
    have hi : i < 5 := hi
    match i, h0, hi with
    | 1, _, _ => decide
    | 2, _, _ => decide
    | 3, _, _ => decide
    | 4, _, _ => decide
  deep := fun i hi => by
    have hi : i < 5 := hi
    match i, hi with
    | 0, _ => decide
    | 1, _ => decide
    | 2, _ => decide
    | 3, _ => decide
    | 4, _ => decide
  kids := fun i hi => by
    have hi : i < 5 := hi
    match i, hi with
    | 0, _ => decide
    | 1, _ => decide
    | 2, _ => decide
    | 3, _ => decide
    | 4, _ => decide
  devs := by decide
  q := by decide
  r := by decide
  b := by decide
  w := by decide
  c := by decide
  k := by decide
  i := by decide
  l := by rw [P0_deepest]; decide
theorem Q0_not : ¬ Pln.Right Q0 := fun h => by
  have h1 := h.l
  have h2 : Pln.deepest Q0.u = 2 := by rfl
  rw [h2] at h1
  exact absurd h1.1 (by decide)

def x0 (n : Nat) : Pnw := ⟨some ⟨n, 0, none⟩, 5, P0⟩
theorem some_any (w : World) : Calls Try.prog 16 #[] w fun e w' => ∃ n : Nat, e = .returned (.agg #[.slice (some ⟨n, 0, none⟩) 5 5, .int .i64 2, .int .i64 3, .int .i64 2, .int .i64 20, .int .i64 2, .int .i64 32, .int .i64 4, .int .i64 16]) ∧ inE.Sl w' (some ⟨n, 0, none⟩) P0.u ∧ Below w.heap.size w w' := by
  go_enter Try.func16, Try.ntmps16
  have hP : pnE.In ((w.alloc (.cells #[.slice (some ⟨w.heap.size + 1, 0, none⟩) 5 5, .int .i64 2, .int .i64 3, .int .i64 2, .int .i64 20, .int .i64 2, .int .i64 32, .int .i64 4, .int .i64 16] 24)).alloc (.cells #[.int .i64 (-1), .int .i64 0, .int .i64 1, .int .i64 1, .int .i64 0] 3)) w.heap.size (x0 (w.heap.size + 1)) := (El.In.new (E := pnE) w (x0 (w.heap.size + 1)) #[.slice (some ⟨w.heap.size + 1, 0, none⟩) 5 5, .int .i64 2, .int .i64 3, .int .i64 2, .int .i64 20, .int .i64 2, .int .i64 32, .int .i64 4, .int .i64 16] rfl).alloc _
  have hT : inE.Sl ((w.alloc (.cells #[.slice (some ⟨w.heap.size + 1, 0, none⟩) 5 5, .int .i64 2, .int .i64 3, .int .i64 2, .int .i64 20, .int .i64 2, .int .i64 32, .int .i64 4, .int .i64 16] 24)).alloc (.cells #[.int .i64 (-1), .int .i64 0, .int .i64 1, .int .i64 1, .int .i64 0] 3)) (some ⟨w.heap.size + 1, 0, none⟩) P0.u := by
    have h := El.Sl.row (E := inE) (w.alloc (.cells #[.slice (some ⟨w.heap.size + 1, 0, none⟩) 5 5, .int .i64 2, .int .i64 3, .int .i64 2, .int .i64 20, .int .i64 2, .int .i64 32, .int .i64 4, .int .i64 16] 24)) P0.u #[.int .i64 (-1), .int .i64 0, .int .i64 1, .int .i64 1, .int .i64 0] rfl
    rw [alloc_size] at h; exact h
  have hB := below_alloc (below_alloc (Below.refl w.heap.size w) (.cells #[.slice (some ⟨w.heap.size + 1, 0, none⟩) 5 5, .int .i64 2, .int .i64 3, .int .i64 2, .int .i64 20, .int .i64 2, .int .i64 32, .int .i64 4, .int .i64 16] 24)) (.cells #[.int .i64 (-1), .int .i64 0, .int .i64 1, .int .i64 1, .int .i64 0] 3)
  go_wp2_with fail
  refine El.ret1 pnRow hP rfl rfl rfl _ rfl ?_
  exact ⟨_, rfl, hT, hB⟩

set_option maxRecDepth 100000 in
set_option maxHeartbeats 4000000 in
theorem awake10_any (H : PlanCalls) (w : World) : Calls Try.prog 6 #[] w fun e w' => e = .returned (.bool true) ∧ Below w.heap.size w w' := by
  have HR := Lib.hid (fun (m : Nat) (wx : World) (h : inE.Sl wx (some ⟨m, 0, none⟩) P0.u) => (by
    have h2 := H.right (⟨some ⟨m, 0, none⟩, 5, P0⟩ : Pnw) wx h true ⟨fun _ => P0_right, fun _ => rfl⟩
    skip
    exact h2 : Calls Try.prog 5 #[.agg #[.slice (some ⟨m, 0, none⟩) 5 5, .int .i64 2, .int .i64 3, .int .i64 2, .int .i64 20, .int .i64 2, .int .i64 32, .int .i64 4, .int .i64 16]] wx fun e w' => e = .returned (.bool true) ∧ Below wx.heap.size wx w'))
  have HQ := Lib.hid (fun (m : Nat) (wx : World) (h : inE.Sl wx (some ⟨m, 0, none⟩) P0.u) => (by
    have h2 := H.right (⟨some ⟨m, 0, none⟩, 5, Q0⟩ : Pnw) wx h false ⟨fun h => (by cases h), fun h => absurd h Q0_not⟩
    skip
    exact h2 : Calls Try.prog 5 #[.agg #[.slice (some ⟨m, 0, none⟩) 5 5, .int .i64 2, .int .i64 3, .int .i64 2, .int .i64 16, .int .i64 2, .int .i64 32, .int .i64 4, .int .i64 16]] wx fun e w' => e = .returned (.bool false) ∧ Below wx.heap.size wx w'))
  have HK0 := Lib.hid (fun (m : Nat) (wx : World) (h : inE.Sl wx (some ⟨m, 0, none⟩) P0.u) => (by
    have h2 := H.kind (⟨some ⟨m, 0, none⟩, 5, P0⟩ : Pnw) 0 wx h P0_right
    rw [show kindL (⟨some ⟨m, 0, none⟩, 5, P0⟩ : Pnw).p.u 0 = 1 from rfl] at h2
    exact h2 : Calls Try.prog 8 #[.agg #[.slice (some ⟨m, 0, none⟩) 5 5, .int .i64 2, .int .i64 3, .int .i64 2, .int .i64 20, .int .i64 2, .int .i64 32, .int .i64 4, .int .i64 16], .int .i64 0] wx fun e w' => e = .returned (.int .i64 1) ∧ Below wx.heap.size wx w'))
  have HK1 := Lib.hid (fun (m : Nat) (wx : World) (h : inE.Sl wx (some ⟨m, 0, none⟩) P0.u) => (by
    have h2 := H.kind (⟨some ⟨m, 0, none⟩, 5, P0⟩ : Pnw) 1 wx h P0_right
    rw [show kindL (⟨some ⟨m, 0, none⟩, 5, P0⟩ : Pnw).p.u 1 = 2 from rfl] at h2
    exact h2 : Calls Try.prog 8 #[.agg #[.slice (some ⟨m, 0, none⟩) 5 5, .int .i64 2, .int .i64 3, .int .i64 2, .int .i64 20, .int .i64 2, .int .i64 32, .int .i64 4, .int .i64 16], .int .i64 1] wx fun e w' => e = .returned (.int .i64 2) ∧ Below wx.heap.size wx w'))
  have HK9 := Lib.hid (fun (m : Nat) (wx : World) (h : inE.Sl wx (some ⟨m, 0, none⟩) P0.u) => (by
    have h2 := H.kind (⟨some ⟨m, 0, none⟩, 5, P0⟩ : Pnw) 9 wx h P0_right
    rw [show kindL (⟨some ⟨m, 0, none⟩, 5, P0⟩ : Pnw).p.u 9 = 0 from rfl] at h2
    exact h2 : Calls Try.prog 8 #[.agg #[.slice (some ⟨m, 0, none⟩) 5 5, .int .i64 2, .int .i64 3, .int .i64 2, .int .i64 20, .int .i64 2, .int .i64 32, .int .i64 4, .int .i64 16], .int .i64 9] wx fun e w' => e = .returned (.int .i64 0) ∧ Below wx.heap.size wx w'))
  have HE := Lib.hid (fun (m : Nat) (wx : World) (h : inE.Sl wx (some ⟨m, 0, none⟩) P0.u) => (by
    have h2 := H.deep (⟨some ⟨m, 0, none⟩, 5, P0⟩ : Pnw) 3 wx h P0_right
    rw [show deepL (⟨some ⟨m, 0, none⟩, 5, P0⟩ : Pnw).p.u 3 = 2 from rfl] at h2
    exact h2 : Calls Try.prog 10 #[.agg #[.slice (some ⟨m, 0, none⟩) 5 5, .int .i64 2, .int .i64 3, .int .i64 2, .int .i64 20, .int .i64 2, .int .i64 32, .int .i64 4, .int .i64 16], .int .i64 3] wx fun e w' => e = .returned (.int .i64 2) ∧ Below wx.heap.size wx w'))
  have HF := Lib.hid (fun (m : Nat) (wx : World) (h : inE.Sl wx (some ⟨m, 0, none⟩) P0.u) => (by
    have h2 := H.deepest (⟨some ⟨m, 0, none⟩, 5, P0⟩ : Pnw) wx h P0_right
    rw [show Pln.deepest (⟨some ⟨m, 0, none⟩, 5, P0⟩ : Pnw).p.u = 2 from rfl] at h2
    exact h2 : Calls Try.prog 11 #[.agg #[.slice (some ⟨m, 0, none⟩) 5 5, .int .i64 2, .int .i64 3, .int .i64 2, .int .i64 20, .int .i64 2, .int .i64 32, .int .i64 4, .int .i64 16]] wx fun e w' => e = .returned (.int .i64 2) ∧ Below wx.heap.size wx w'))
  have HB3 := Lib.hid (fun (m : Nat) (wx : World) (h : inE.Sl wx (some ⟨m, 0, none⟩) P0.u) => (by
    have h2 := H.below (⟨some ⟨m, 0, none⟩, 5, P0⟩ : Pnw) 3 1 wx h P0_right
    rw [show belowU (⟨some ⟨m, 0, none⟩, 5, P0⟩ : Pnw).p.u 3 1 = true from rfl] at h2
    exact h2 : Calls Try.prog 9 #[.agg #[.slice (some ⟨m, 0, none⟩) 5 5, .int .i64 2, .int .i64 3, .int .i64 2, .int .i64 20, .int .i64 2, .int .i64 32, .int .i64 4, .int .i64 16], .int .i64 3, .int .i64 1] wx fun e w' => e = .returned (.bool true) ∧ Below wx.heap.size wx w'))
  have HB4 := Lib.hid (fun (m : Nat) (wx : World) (h : inE.Sl wx (some ⟨m, 0, none⟩) P0.u) => (by
    have h2 := H.below (⟨some ⟨m, 0, none⟩, 5, P0⟩ : Pnw) 4 1 wx h P0_right
    rw [show belowU (⟨some ⟨m, 0, none⟩, 5, P0⟩ : Pnw).p.u 4 1 = false from rfl] at h2
    exact h2 : Calls Try.prog 9 #[.agg #[.slice (some ⟨m, 0, none⟩) 5 5, .int .i64 2, .int .i64 3, .int .i64 2, .int .i64 20, .int .i64 2, .int .i64 32, .int .i64 4, .int .i64 16], .int .i64 4, .int .i64 1] wx fun e w' => e = .returned (.bool false) ∧ Below wx.heap.size wx w'))
  have HW := Lib.hid (fun (m : Nat) (wx : World) (h : inE.Sl wx (some ⟨m, 0, none⟩) P0.u) => (by
    have h2 := H.window (⟨some ⟨m, 0, none⟩, 5, P0⟩ : Pnw) wx h P0_right
    rw [show ((⟨some ⟨m, 0, none⟩, 5, P0⟩ : Pnw).p.q + 2) * ((devsN (⟨some ⟨m, 0, none⟩, 5, P0⟩ : Pnw).p.u).length : Int) = 12 from rfl] at h2
    exact h2 : Calls Try.prog 13 #[.agg #[.slice (some ⟨m, 0, none⟩) 5 5, .int .i64 2, .int .i64 3, .int .i64 2, .int .i64 20, .int .i64 2, .int .i64 32, .int .i64 4, .int .i64 16]] wx fun e w' => e = .returned (.int .i64 12) ∧ Below wx.heap.size wx w'))
  have HD := Lib.hid (fun (m : Nat) (wx : World) (h : inE.Sl wx (some ⟨m, 0, none⟩) P0.u) => (by
    have h2 := H.devs (⟨some ⟨m, 0, none⟩, 5, P0⟩ : Pnw) wx h P0_right
    rw [show devsN (⟨some ⟨m, 0, none⟩, 5, P0⟩ : Pnw).p.u = [2, 3, 4] from rfl] at h2
    exact h2 : Calls Try.prog 12 #[.agg #[.slice (some ⟨m, 0, none⟩) 5 5, .int .i64 2, .int .i64 3, .int .i64 2, .int .i64 20, .int .i64 2, .int .i64 32, .int .i64 4, .int .i64 16]] wx fun e w' => ∃ A' c', e = .returned (.slice A' 3 c') ∧ inE.Sl w' A' [2, 3, 4] ∧ Below wx.heap.size wx w'))
  have HS := Lib.hid (fun (m : Nat) (wx : World) (h : inE.Sl wx (some ⟨m, 0, none⟩) P0.u) => (by
    have h2 := H.kids (⟨some ⟨m, 0, none⟩, 5, P0⟩ : Pnw) 0 wx h P0_right
    rw [show kidsN (⟨some ⟨m, 0, none⟩, 5, P0⟩ : Pnw).p.u 0 = [1, 4] from rfl] at h2
    exact h2 : Calls Try.prog 7 #[.agg #[.slice (some ⟨m, 0, none⟩) 5 5, .int .i64 2, .int .i64 3, .int .i64 2, .int .i64 20, .int .i64 2, .int .i64 32, .int .i64 4, .int .i64 16], .int .i64 0] wx fun e w' => ∃ A' c', e = .returned (.slice A' 2 c') ∧ (inE.Sl w' A' [1, 4] ∧ ∀ a, A' = some a → wx.heap.size ≤ a.block) ∧ Below wx.heap.size wx w'))
  go_enter Try.func6, Try.ntmps6
  go_wp2_with fail
  refine (some_any w).mono ?_
  rintro e w1 ⟨m, rfl, hT, hB⟩
  have hP : pnE.In ((w1.alloc (.cells #[.slice (some ⟨m, 0, none⟩) 5 5, .int .i64 2, .int .i64 3, .int .i64 2, .int .i64 20, .int .i64 2, .int .i64 32, .int .i64 4, .int .i64 16] 24)).alloc (.cells #[.slice (some ⟨m, 0, none⟩) 5 5, .int .i64 2, .int .i64 3, .int .i64 2, .int .i64 16, .int .i64 2, .int .i64 32, .int .i64 4, .int .i64 16] 24)) w1.heap.size ⟨some ⟨m, 0, none⟩, 5, P0⟩ := (El.In.new (E := pnE) w1 ⟨some ⟨m, 0, none⟩, 5, P0⟩ #[.slice (some ⟨m, 0, none⟩) 5 5, .int .i64 2, .int .i64 3, .int .i64 2, .int .i64 20, .int .i64 2, .int .i64 32, .int .i64 4, .int .i64 16] rfl).alloc _
  have hQ : pnE.In ((w1.alloc (.cells #[.slice (some ⟨m, 0, none⟩) 5 5, .int .i64 2, .int .i64 3, .int .i64 2, .int .i64 20, .int .i64 2, .int .i64 32, .int .i64 4, .int .i64 16] 24)).alloc (.cells #[.slice (some ⟨m, 0, none⟩) 5 5, .int .i64 2, .int .i64 3, .int .i64 2, .int .i64 16, .int .i64 2, .int .i64 32, .int .i64 4, .int .i64 16] 24)) (w1.heap.size + 1) ⟨some ⟨m, 0, none⟩, 5, Q0⟩ := by
    have h := El.In.new (E := pnE) (w1.alloc (.cells #[.slice (some ⟨m, 0, none⟩) 5 5, .int .i64 2, .int .i64 3, .int .i64 2, .int .i64 20, .int .i64 2, .int .i64 32, .int .i64 4, .int .i64 16] 24)) ⟨some ⟨m, 0, none⟩, 5, Q0⟩ #[.slice (some ⟨m, 0, none⟩) 5 5, .int .i64 2, .int .i64 3, .int .i64 2, .int .i64 16, .int .i64 2, .int .i64 32, .int .i64 4, .int .i64 16] rfl
    rw [alloc_size] at h; exact h
  have hbx := below_alloc (below_alloc (Below.refl w1.heap.size w1) (.cells #[.slice (some ⟨m, 0, none⟩) 5 5, .int .i64 2, .int .i64 3, .int .i64 2, .int .i64 20, .int .i64 2, .int .i64 32, .int .i64 4, .int .i64 16] 24)) (.cells #[.slice (some ⟨m, 0, none⟩) 5 5, .int .i64 2, .int .i64 3, .int .i64 2, .int .i64 16, .int .i64 2, .int .i64 32, .int .i64 4, .int .i64 16] 24)
  replace hT := hT.below hbx
  replace hB := hB.trans (hbx.mono hB.size)
  clear hbx
  go_wp2_with fail
  generalize (w1.alloc (.cells #[.slice (some ⟨m, 0, none⟩) 5 5, .int .i64 2, .int .i64 3, .int .i64 2, .int .i64 20, .int .i64 2, .int .i64 32, .int .i64 4, .int .i64 16] 24)).alloc (.cells #[.slice (some ⟨m, 0, none⟩) 5 5, .int .i64 2, .int .i64 3, .int .i64 2, .int .i64 16, .int .i64 2, .int .i64 32, .int .i64 4, .int .i64 16] 24) = W1 at *
  generalize w1.heap.size + 1 = n2 at *
  generalize w1.heap.size = n1 at *
  refine (HD.out m W1 hT).mono ?_
  rintro e w2 ⟨A2, c2, rfl, hS2, hbx⟩
  replace hP := hP.below hbx
  replace hQ := hQ.below hbx
  replace hT := hT.below hbx
  replace hB := hB.trans (hbx.mono hB.size)
  clear hbx HD
  obtain ⟨p0, p1, p2, p3, p4, p5, p6, p7, p8⟩ := pnIn9 hP
  go_wp2_with fail
  clear p0 p1 p2 p3 p4 p5 p6 p7 p8
  refine (HR.out m w2 hT).mono ?_
  rintro e w3 ⟨rfl, hbx⟩
  replace hP := hP.below hbx
  replace hQ := hQ.below hbx
  replace hT := hT.below hbx
  replace hS2 := hS2.below hbx
  replace hB := hB.trans (hbx.mono hB.size)
  clear hbx HR
  obtain ⟨p0, p1, p2, p3, p4, p5, p6, p7, p8⟩ := pnIn9 hQ
  go_wp2_with fail
  clear p0 p1 p2 p3 p4 p5 p6 p7 p8
  refine (HQ.out m w3 hT).mono ?_
  rintro e w4 ⟨rfl, hbx⟩
  replace hP := hP.below hbx
  replace hT := hT.below hbx
  replace hS2 := hS2.below hbx
  replace hB := hB.trans (hbx.mono hB.size)
  clear hbx HQ hQ
  obtain ⟨b2, off2, hA2, hbw2, hc2⟩ := hS2 (by decide)
  subst hA2
  have d0 : w4.cell? ⟨b2, off2, none⟩ = some (.int .i64 2) := hc2 0 (by decide) 0 _ rfl
  have d2 : w4.cell? ⟨b2, off2 + 2, none⟩ = some (.int .i64 4) := hc2 2 (by decide) 0 _ rfl
  obtain ⟨p0, p1, p2, p3, p4, p5, p6, p7, p8⟩ := pnIn9 hP
  clear hc2
  go_wp2_with fail
  clear p0 p1 p2 p3 p4 p5 p6 p7 p8
  refine (HK0.out m _ hT).mono ?_
  rintro e w5 ⟨rfl, hbx⟩
  replace hP := hP.below hbx
  replace hT := hT.below hbx
  replace hB := hB.trans (hbx.mono hB.size)
  clear hbx
  obtain ⟨p0, p1, p2, p3, p4, p5, p6, p7, p8⟩ := pnIn9 hP
  clear d0 d2
  go_wp2_with fail
  clear p0 p1 p2 p3 p4 p5 p6 p7 p8
  refine (HK1.out m _ hT).mono ?_
  rintro e w6 ⟨rfl, hbx⟩
  replace hP := hP.below hbx
  replace hT := hT.below hbx
  replace hB := hB.trans (hbx.mono hB.size)
  clear hbx
  obtain ⟨p0, p1, p2, p3, p4, p5, p6, p7, p8⟩ := pnIn9 hP
  go_wp2_with fail
  clear p0 p1 p2 p3 p4 p5 p6 p7 p8
  refine (HK9.out m _ hT).mono ?_
  rintro e w7 ⟨rfl, hbx⟩
  replace hP := hP.below hbx
  replace hT := hT.below hbx
  replace hB := hB.trans (hbx.mono hB.size)
  clear hbx
  obtain ⟨p0, p1, p2, p3, p4, p5, p6, p7, p8⟩ := pnIn9 hP
  go_wp2_with fail
  clear p0 p1 p2 p3 p4 p5 p6 p7 p8
  refine (HE.out m _ hT).mono ?_
  rintro e w8 ⟨rfl, hbx⟩
  replace hP := hP.below hbx
  replace hT := hT.below hbx
  replace hB := hB.trans (hbx.mono hB.size)
  clear hbx
  obtain ⟨p0, p1, p2, p3, p4, p5, p6, p7, p8⟩ := pnIn9 hP
  go_wp2_with fail
  clear p0 p1 p2 p3 p4 p5 p6 p7 p8
  refine (HF.out m _ hT).mono ?_
  rintro e w9 ⟨rfl, hbx⟩
  replace hP := hP.below hbx
  replace hT := hT.below hbx
  replace hB := hB.trans (hbx.mono hB.size)
  clear hbx
  obtain ⟨p0, p1, p2, p3, p4, p5, p6, p7, p8⟩ := pnIn9 hP
  go_wp2_with fail
  clear p0 p1 p2 p3 p4 p5 p6 p7 p8
  refine (HB3.out m _ hT).mono ?_
  rintro e w10 ⟨rfl, hbx⟩
  replace hP := hP.below hbx
  replace hT := hT.below hbx
  replace hB := hB.trans (hbx.mono hB.size)
  clear hbx
  obtain ⟨p0, p1, p2, p3, p4, p5, p6, p7, p8⟩ := pnIn9 hP
  go_wp2_with fail
  clear p0 p1 p2 p3 p4 p5 p6 p7 p8
  refine (HB4.out m _ hT).mono ?_
  rintro e w11 ⟨rfl, hbx⟩
  replace hP := hP.below hbx
  replace hT := hT.below hbx
  replace hB := hB.trans (hbx.mono hB.size)
  clear hbx
  obtain ⟨p0, p1, p2, p3, p4, p5, p6, p7, p8⟩ := pnIn9 hP
  go_wp2_with fail
  clear p0 p1 p2 p3 p4 p5 p6 p7 p8
  refine (HW.out m _ hT).mono ?_
  rintro e w12 ⟨rfl, hbx⟩
  replace hP := hP.below hbx
  replace hT := hT.below hbx
  replace hB := hB.trans (hbx.mono hB.size)
  clear hbx
  obtain ⟨p0, p1, p2, p3, p4, p5, p6, p7, p8⟩ := pnIn9 hP
  go_wp2_with fail
  clear p0 p1 p2 p3 p4 p5 p6 p7 p8
  refine (HS.out m w12 hT).mono ?_
  rintro e w13 ⟨A3, c3, rfl, _, hbx⟩
  go_wp2_with fail
  go_ret
  exact ⟨rfl, hB.trans (hbx.mono hB.size)⟩
end Go.Proofs.Ytmmfjmhemknpgaa

/- PlanKinds: of a plan that may be there is one root, each other node is a relay or a device; one device more. -/
namespace Go.Proofs.Ytmmfjmhemknpgaa
open Go.RowKit Pln

/-- How many of the first i nodes are of a kind. -/
def cntK (u : List Int) (k : Int) (i : Nat) : Nat := ((List.range i).filter fun (j : Nat) => decide (kindL u (j : Int) = k)).length
theorem cntK_next (u : List Int) (k : Int) (i : Nat) : cntK u k (i + 1) = cntK u k i + (if kindL u i = k then 1 else 0) := by
  unfold cntK
  rw [List.range_succ, List.filter_append, List.length_append]
  congr 1
  by_cases h : kindL u i = k <;> simp [h]
theorem cntK_le (u : List Int) (k : Int) (i : Nat) : cntK u k i ≤ i := by
  unfold cntK
  exact Nat.le_trans (List.length_filter_le _ _) (by simp)
theorem cntK_devs (u : List Int) : cntK u 3 u.length = (devsN u).length := rfl
theorem cntK_all {u : List Int} : ∀ i, i ≤ u.length → cntK u 1 i + cntK u 2 i + cntK u 3 i = i
  | 0, _ => rfl
  | i + 1, h => by
    have h1 := cntK_all (u := u) i (by omega)
    have h2 := kind_in (u := u) (i := i) (by omega)
    rw [cntK_next, cntK_next, cntK_next]
    rcases (show kindL u i = 1 ∨ kindL u i = 2 ∨ kindL u i = 3 by omega) with e | e | e
    · rw [e]; simp; omega
    · rw [e]; simp; omega
    · rw [e]; simp; omega
theorem cntK_one {u : List Int} : ∀ i, 0 < i → i ≤ u.length → cntK u 1 i = 1
  | i + 1, _, h => by
    rw [cntK_next]
    by_cases h0 : i = 0
    · subst h0
      rw [show kindL u ((0 : Nat) : Int) = 1 from kind_root (by omega), if_pos rfl]; rfl
    · rw [cntK_one i (by omega) (by omega), kind_of (by omega) (by omega)]
      by_cases e : (kidsN u i).length = 0
      · rw [if_pos e]; rfl
      · rw [if_neg e]; rfl

theorem by_cellZ (w : World) (b i : Nat) (v : Value) : w.grownBy (w.setCell ⟨b, i, none⟩ v) (some b) := ⟨rfl, rfl, rfl, by simp [World.setCell], fun k _ hk => Below.heap_setCell w ⟨b, i, none⟩ v k (fun e => hk (by rw [e]))⟩
structure I4 where
  a : Int
  b : Int
  c : Int
  d : Int
def i4E : El I4 where
  e := 32
  k := 4
  c x := [.int .i64 x.a, .int .i64 x.b, .int .i64 x.c, .int .i64 x.d]
  len _ := rfl
  one p u h := by
    simp only [List.mem_cons, List.not_mem_nil, or_false] at h
    rcases h with rfl | rfl | rfl | rfl <;> rfl
  pos := by decide
theorem inInn : inE.Inn Try.prog 22 := El.inn_of (z := .int .i64 0) (bytes := 8) Try.underlying22 (by kernel_rfl) rfl (by decide)
theorem i4In {w : World} {b : Nat} {x : I4} (h : i4E.In w b x) : w.cell? ⟨b, 0, none⟩ = some (.int .i64 x.a) ∧ w.cell? ⟨b, 1, none⟩ = some (.int .i64 x.b) ∧ w.cell? ⟨b, 2, none⟩ = some (.int .i64 x.c) ∧ w.cell? ⟨b, 3, none⟩ = some (.int .i64 x.d) := ⟨h.cell 0, h.cell 1, h.cell 2, h.cell 3⟩

theorem kinds_no (H : PlanCalls) (x : Pnw) (w : World) (hT : inE.Sl w x.A x.p.u) (hR : ¬ Pln.Right x.p) :
    Calls Try.prog 4 #[.agg #[.slice x.A x.p.u.length x.c, .int .i64 x.p.q, .int .i64 x.p.r, .int .i64 x.p.b, .int .i64 x.p.l, .int .i64 x.p.w, .int .i64 x.p.c, .int .i64 x.p.k, .int .i64 x.p.i]] w fun e w' => e = .returned (.bool true) ∧ Below w.heap.size w w' := by
  have hP : pnE.In (w.alloc (.cells #[.slice x.A x.p.u.length x.c, .int .i64 x.p.q, .int .i64 x.p.r, .int .i64 x.p.b, .int .i64 x.p.l, .int .i64 x.p.w, .int .i64 x.p.c, .int .i64 x.p.k, .int .i64 x.p.i] 24)) w.heap.size x := El.In.new (E := pnE) w x _ rfl
  have hB := below_alloc (Below.refl w.heap.size w) (.cells #[.slice x.A x.p.u.length x.c, .int .i64 x.p.q, .int .i64 x.p.r, .int .i64 x.p.b, .int .i64 x.p.l, .int .i64 x.p.w, .int .i64 x.p.c, .int .i64 x.p.k, .int .i64 x.p.i] 24)
  have HC := Lib.hid (fun (wx : World) (hb : Below w.heap.size w wx) => H.right x wx (hT.below hb) false ⟨fun h => (by cases h), fun h => absurd h hR⟩)
  obtain ⟨p0, p1, p2, p3, p4, p5, p6, p7, p8⟩ := pnIn9 hP
  go_enter Try.func4, Try.ntmps4
  go_wp2_with fail
  refine (HC.out _ hB).mono ?_
  rintro e w1 ⟨rfl, hb1⟩
  replace hB := hB.trans (hb1.mono hB.size)
  clear p0 p1 p2 p3 p4 p5 p6 p7 p8
  go_wp2_with fail
  refine (awake10_any H _).mono ?_
  rintro e w2 ⟨rfl, hb2⟩
  go_wp2_with fail
  go_ret
  exact ⟨rfl, hB.trans (hb2.mono hB.size)⟩

set_option maxRecDepth 100000 in
set_option maxHeartbeats 4000000 in
theorem kinds_walkA (H : PlanCalls) (x : Pnw) (w : World) (hT : inE.Sl w x.A x.p.u) (hn : x.A = none → x.c = 0) (hR : Pln.Right x.p) (f1 : x.p.u.length + 1 ≤ 12) :
    Calls Try.prog 4 #[.agg #[.slice x.A x.p.u.length x.c, .int .i64 x.p.q, .int .i64 x.p.r, .int .i64 x.p.b, .int .i64 x.p.l, .int .i64 x.p.w, .int .i64 x.p.c, .int .i64 x.p.k, .int .i64 x.p.i]] w fun e w' => e = .returned (.bool true) ∧ Below w.heap.size w w' := by
  have hP : pnE.In (w.alloc (.cells #[.slice x.A x.p.u.length x.c, .int .i64 x.p.q, .int .i64 x.p.r, .int .i64 x.p.b, .int .i64 x.p.l, .int .i64 x.p.w, .int .i64 x.p.c, .int .i64 x.p.k, .int .i64 x.p.i] 24)) w.heap.size x := El.In.new (E := pnE) w x _ rfl
  have hB := below_alloc (Below.refl w.heap.size w) (.cells #[.slice x.A x.p.u.length x.c, .int .i64 x.p.q, .int .i64 x.p.r, .int .i64 x.p.b, .int .i64 x.p.l, .int .i64 x.p.w, .int .i64 x.p.c, .int .i64 x.p.k, .int .i64 x.p.i] 24)
  have HRT := Lib.hid (fun (wx : World) (hb : Below w.heap.size w wx) => H.right x wx (hT.below hb) true ⟨fun _ => hR, fun _ => rfl⟩)
  have HKD := Lib.hid (fun (n : Int) (wx : World) (hb : Below w.heap.size w wx) => H.kind x n wx (hT.below hb) hR)
  have HKS := Lib.hid (fun (wx : World) (hb : Below w.heap.size w wx) => H.kids x 0 wx (hT.below hb) hR)
  have HDV := Lib.hid (fun (wx : World) (hb : Below w.heap.size w wx) => H.devs x wx (hT.below hb) hR)
  have HT := Lib.hid hT
  have HR := Lib.hid hR
  have HN := Lib.hid hn
  have hlen2 := hR.n2
  have hlen12 := hR.n12
  have HL := Lib.hid (⟨hlen2, hlen12⟩ : 2 ≤ x.p.u.length ∧ x.p.u.length ≤ 12)
  clear hT hR hn
  obtain ⟨p0, p1, p2, p3, p4, p5, p6, p7, p8⟩ := pnIn9 hP
  go_enter Try.func4, Try.ntmps4
  go_wp2_with fail
  clear p0 p1 p2 p3 p4 p5 p6 p7 p8
  generalize w.alloc (.cells #[.slice x.A x.p.u.length x.c, .int .i64 x.p.q, .int .i64 x.p.r, .int .i64 x.p.b, .int .i64 x.p.l, .int .i64 x.p.w, .int .i64 x.p.c, .int .i64 x.p.k, .int .i64 x.p.i] 24) = W0 at *
  obtain ⟨n1, hn1⟩ : ∃ n, w.heap.size = n := ⟨_, rfl⟩
  rw [hn1] at hP ⊢
  have hw1 : w.heap.size ≤ n1 := by omega
  clear hn1
  refine (HRT.out _ hB).mono ?_
  rintro e w1 ⟨rfl, hb1⟩
  replace hP := hP.below hb1
  replace hB := hB.trans (hb1.mono hB.size)
  clear hb1 HRT
  have hI : i4E.In (w1.alloc (.cells #[.int .i64 0, .int .i64 0, .int .i64 0, .int .i64 0] 32)) w1.heap.size ⟨0, 0, 0, 0⟩ := El.In.new (E := i4E) w1 ⟨0, 0, 0, 0⟩ _ rfl
  go_wp2_with fail
  have hba := below_alloc (Below.refl w1.heap.size w1) (.cells #[.int .i64 0, .int .i64 0, .int .i64 0, .int .i64 0] 32)
  replace hP := hP.below hba
  have hw3 : w.heap.size ≤ w1.heap.size := hB.size
  replace hB := hB.trans (hba.mono hB.size)
  have hn13 : n1 ≠ w1.heap.size := fun e => by
    have h1 := hP.cell 0
    have h2 := hI.cell 0
    rw [e] at h1
    rw [h1] at h2
    cases h2
  clear hba
  generalize w1.alloc (.cells #[.int .i64 0, .int .i64 0, .int .i64 0, .int .i64 0] 32) = W1 at *
  generalize w1.heap.size = n3 at *
  go_loopw [4] (fun y wr => ∃ i : Nat, i ≤ x.p.u.length ∧ y = .int .i64 i ∧ pnE.In wr n1 x ∧ i4E.In wr n3 ⟨0, cntK x.p.u 1 i, cntK x.p.u 2 i, cntK x.p.u 3 i⟩ ∧ Below w.heap.size w wr) (fun y _ => x.p.u.length - (intOf y).toNat)
  case atStart => exact ⟨0, Nat.zero_le _, rfl, hP, hI, hB⟩
  case round =>
    clear hP hI hB
    obtain ⟨i, hi, rfl, hP, hI, hB⟩ := hrel
    obtain ⟨p0, p1, p2, p3, p4, p5, p6, p7, p8⟩ := pnIn9 hP
    by_cases hil : i < x.p.u.length
    · have C := HKD.out i wr hB
      have hkin := kind_in hil
      have hc1 := cntK_next x.p.u 1 i
      have hc2 := cntK_next x.p.u 2 i
      have hc3 := cntK_next x.p.u 3 i
      have hb1 := cntK_le x.p.u 1 i
      have hb2 := cntK_le x.p.u 2 i
      have hb3 := cntK_le x.p.u 3 i
      obtain ⟨k, hk⟩ : ∃ k, kindL x.p.u i = k := ⟨_, rfl⟩
      rw [hk] at C hkin hc1 hc2 hc3
      have HC := Lib.hid C
      have HL1 := HL.out.2
      clear C hk
      generalize cntK x.p.u 1 i = a1 at *
      generalize cntK x.p.u 2 i = a2 at *
      generalize cntK x.p.u 3 i = a3 at *
      rcases (show k = 1 ∨ k = 2 ∨ k = 3 by omega) with rfl | rfl | rfl
      · rw [if_pos rfl] at hc1
        rw [if_neg (by decide)] at hc2 hc3
        have HX1 := Lib.hid hc1
        have HX2 := Lib.hid hc2
        have HX3 := Lib.hid hc3
        clear hc1 hc2 hc3 hkin
        go_wp2_with fail
        clear p0 p1 p2 p3 p4 p5 p6 p7 p8
        refine HC.out.mono ?_
        rintro e w5 ⟨rfl, hb5⟩
        replace hP := hP.below hb5
        replace hI := hI.below hb5
        replace hB := hB.trans (hb5.mono hB.size)
        clear hb5 HC
        obtain ⟨q0, q1, q2, q3⟩ := i4In hI
        have qf := hI.frozen
        go_wp2_with fail
        exact ⟨⟨i + 1, by omega, by go_num, hP.other n3 1 _ hn13, (by rw [HX1.out, HX2.out, HX3.out]; exact hI.put _ 1 _ (by simp [i4E])), hB.grown (by_cellZ w5 n3 1 _) hB.size (fun k e => by have := Option.some.inj e; omega)⟩, by simp [intOf]; omega⟩
      · rw [if_pos rfl] at hc2
        rw [if_neg (by decide)] at hc1 hc3
        have HX1 := Lib.hid hc1
        have HX2 := Lib.hid hc2
        have HX3 := Lib.hid hc3
        clear hc1 hc2 hc3 hkin
        go_wp2_with fail
        clear p0 p1 p2 p3 p4 p5 p6 p7 p8
        refine HC.out.mono ?_
        rintro e w5 ⟨rfl, hb5⟩
        replace hP := hP.below hb5
        replace hI := hI.below hb5
        replace hB := hB.trans (hb5.mono hB.size)
        clear hb5 HC
        obtain ⟨q0, q1, q2, q3⟩ := i4In hI
        have qf := hI.frozen
        go_wp2_with fail
        exact ⟨⟨i + 1, by omega, by go_num, hP.other n3 2 _ hn13, (by rw [HX1.out, HX2.out, HX3.out]; exact hI.put _ 2 _ (by simp [i4E])), hB.grown (by_cellZ w5 n3 2 _) hB.size (fun k e => by have := Option.some.inj e; omega)⟩, by simp [intOf]; omega⟩
      · rw [if_pos rfl] at hc3
        rw [if_neg (by decide)] at hc1 hc2
        have HX1 := Lib.hid hc1
        have HX2 := Lib.hid hc2
        have HX3 := Lib.hid hc3
        clear hc1 hc2 hc3 hkin
        go_wp2_with fail
        clear p0 p1 p2 p3 p4 p5 p6 p7 p8
        refine HC.out.mono ?_
        rintro e w5 ⟨rfl, hb5⟩
        replace hP := hP.below hb5
        replace hI := hI.below hb5
        replace hB := hB.trans (hb5.mono hB.size)
        clear hb5 HC
        obtain ⟨q0, q1, q2, q3⟩ := i4In hI
        have qf := hI.frozen
        go_wp2_with fail
        exact ⟨⟨i + 1, by omega, by go_num, hP.other n3 3 _ hn13, (by rw [HX1.out, HX2.out, HX3.out]; exact hI.put _ 3 _ (by simp [i4E])), hB.grown (by_cellZ w5 n3 3 _) hB.size (fun k e => by have := Option.some.inj e; omega)⟩, by simp [intOf]; omega⟩
    · obtain rfl : i = x.p.u.length := by omega
      have hc1 := cntK_one x.p.u.length (by have := HL.out.1; omega) (Nat.le_refl _)
      have hall := cntK_all x.p.u.length (Nat.le_refl _)
      rw [hc1, cntK_devs] at hall
      rw [hc1, cntK_devs] at hI
      clear hc1
      generalize cntK x.p.u 2 x.p.u.length = k2 at *
      have HALL := Lib.hid hall
      clear hall
      have hq1 : pnE.In (wr.alloc (.cells #[.slice x.A x.p.u.length x.c, .int .i64 x.p.q, .int .i64 x.p.r, .int .i64 x.p.b, .int .i64 x.p.l, .int .i64 x.p.w, .int .i64 x.p.c, .int .i64 x.p.k, .int .i64 x.p.i] 24)) wr.heap.size x := El.In.new (E := pnE) wr x _ rfl
      have hO1 := El.Own.empty (E := inE) (wr.alloc (.cells #[.slice x.A x.p.u.length x.c, .int .i64 x.p.q, .int .i64 x.p.r, .int .i64 x.p.b, .int .i64 x.p.l, .int .i64 x.p.w, .int .i64 x.p.c, .int .i64 x.p.k, .int .i64 x.p.i] 24)) (wr.heap.size + 1) (by rw [alloc_size]; omega)
      rw [alloc_size] at hO1
      have hb1 := below_alloc (below_alloc (Below.refl wr.heap.size wr) (.cells #[.slice x.A x.p.u.length x.c, .int .i64 x.p.q, .int .i64 x.p.r, .int .i64 x.p.b, .int .i64 x.p.l, .int .i64 x.p.w, .int .i64 x.p.c, .int .i64 x.p.k, .int .i64 x.p.i] 24)) (.cells #[] 3)
      have hTu : inE.Sl ((wr.alloc (.cells #[.slice x.A x.p.u.length x.c, .int .i64 x.p.q, .int .i64 x.p.r, .int .i64 x.p.b, .int .i64 x.p.l, .int .i64 x.p.w, .int .i64 x.p.c, .int .i64 x.p.k, .int .i64 x.p.i] 24)).alloc (.cells #[] 3)) x.A x.p.u := HT.out.below (hB.trans (hb1.mono hB.size))
      have hsz1 : wr.heap.size + 1 ≤ ((wr.alloc (.cells #[.slice x.A x.p.u.length x.c, .int .i64 x.p.q, .int .i64 x.p.r, .int .i64 x.p.b, .int .i64 x.p.l, .int .i64 x.p.w, .int .i64 x.p.c, .int .i64 x.p.k, .int .i64 x.p.i] 24)).alloc (.cells #[] 3)).heap.size := by rw [alloc_size, alloc_size]; omega
      have hl12 := HL.out.2
      have k0 := (pnIn9 (hP.below hb1)).1
      have hwr := hB.size
      have hn6l := hq1.lt
      have hn16 : n1 ≠ wr.heap.size := by have := hP.lt; omega
      have hn36 : n3 ≠ wr.heap.size := by have := hI.lt; omega
      have hl3 := hI.lt
      have hl1 := hP.lt
      go_wp2_with (first
        | (at_builtin; refine El.wpList_app inInn rfl _ _ rfl (wr.heap.size + 1) (.slice (some ⟨wr.heap.size + 1, 0, none⟩) 0 0) [] x.p.u rfl hO1 x.A x.p.u.length x.c rfl rfl hTu HN.out (by simp; omega) hsz1 ?_; intro v5 w5 hO5 hg5 _
           have hO5' : inE.Own w5 (wr.heap.size + 1) v5 x.p.u := hO5
           have hP5 := (hP.below hb1).keep hg5 (fun e => by have h := (hO1.lt n1 e.symm).1; omega)
           have hI5 := (hI.below hb1).keep hg5 (fun e => by have h := (hO1.lt n3 e.symm).1; omega)
           have hq5 := (hq1.alloc (.cells #[] 3)).keep hg5 (fun e => by have h := (hO1.lt wr.heap.size e.symm).1; omega)
           have hb5 := hb1.grown hg5 hb1.size (fun k e => by have := (hO1.lt k e).1; omega)
           have hsz5 : wr.heap.size + 1 ≤ w5.heap.size := Nat.le_trans hsz1 hg5.size
           have HUU := Lib.hid (hB.trans (hb5.mono hB.size))
           have hba := below_alloc (Below.refl w5.heap.size w5) (.cells #[.int .i64 0] 3)
           have hO6 := hO5'.below hba
           have hE6 : inE.Sl (w5.alloc (.cells #[.int .i64 0] 3)) (some ⟨w5.heap.size, 0, none⟩) [0] := El.Sl.row (E := inE) w5 [0] #[.int .i64 0] rfl
           have hP6 := hP5.below hba
           have hI6 := hI5.below hba
           have hq6 := hq5.below hba
           have hB6 := HUU.out.trans (hba.mono HUU.out.size)
           have hsz6 : wr.heap.size + 1 ≤ (w5.alloc (.cells #[.int .i64 0] 3)).heap.size := by rw [alloc_size]; omega
           clear hO5 hO1 hTu hsz1 k0 hg5 hb1 hq1 hO5' hP5 hI5 hq5 hb5 HUU hba hB hP hI)
        | (at_builtin; refine El.wpList_app inInn rfl _ _ rfl (wr.heap.size + 1) _ x.p.u [0] rfl hO6 (some ⟨w5.heap.size, 0, none⟩) 1 1 rfl rfl hE6 (fun e => by cases e) (by have : [(0 : Int)].length = 1 := rfl; omega) hsz6 ?_; intro v7 w7 hO7 hg7 _
           have hP7 := hP6.keep hg7 (fun e => by have h := (hO6.lt n1 e.symm).1; omega)
           have hI7 := hI6.keep hg7 (fun e => by have h := (hO6.lt n3 e.symm).1; omega)
           have hq7 := hq6.keep hg7 (fun e => by have h := (hO6.lt wr.heap.size e.symm).1; omega)
           have hB7 := hB6.grown hg7 hB6.size (fun k e => by have := (hO6.lt k e).1; omega)
           have qc := hq7.cell 0
           have qf := hq7.frozen
           have hUl : (x.p.u ++ [0]).length = x.p.u.length + 1 := more_len _
           have hmore := HR.out.more
           have hlt7 := fun a (e : v7 = .slice (some a) (x.p.u ++ [0]).length 0) => a
           obtain ⟨A7, c7, hv7, hS7, hn7, hc7⟩ := hO7.sl
           have hfr7 : ∀ a, A7 = some a → a.block ≠ wr.heap.size := fun a e h => by
             have h1 := (hO7.lt a.block (by rw [hv7, e]; rfl)).1
             omega
           clear hlt7 hO7
           obtain ⟨U, hU⟩ : ∃ U, x.p.u ++ [0] = U := ⟨_, rfl⟩
           rw [hU] at hv7 hS7 hc7 hUl hmore
           subst hv7
           have HU := Lib.hid hU
           have HUL := Lib.hid hUl
           have HMO := Lib.hid hmore
           have HN7 := Lib.hid (⟨hn7, hc7⟩ : (A7 = none → c7 = 0) ∧ U.length ≤ c7)
           have hg8 := by_cellZ w7 wr.heap.size 0 (.slice A7 U.length c7)
           have hP8 := hP7.keep hg8 (fun e => hn16 (Option.some.inj e))
           have hI8 := hI7.keep hg8 (fun e => hn36 (Option.some.inj e))
           have hq8 : pnE.In (w7.setCell ⟨wr.heap.size, 0, none⟩ (.slice A7 U.length c7)) wr.heap.size ⟨A7, c7, { x.p with u := U }⟩ := hq7.put _ 0 _ rfl
           have hB8 := hB7.grown hg8 hB7.size (fun k e => by have := Option.some.inj e; omega)
           have hS8 : inE.Sl (w7.setCell ⟨wr.heap.size, 0, none⟩ (.slice A7 U.length c7)) A7 U := hS7.keep hg8 (fun a e h => hfr7 a e (Option.some.inj h))
           have HS8 := Lib.hid hS8
           have HB8 := Lib.hid hB8
           have hd1 : U.length ≤ 12 := by have := HUL.out; omega
           obtain ⟨p0, p1, p2, p3, p4, p5, p6, p7, p8⟩ := pnIn9 hP8
           obtain ⟨i0, i1, i2, i3⟩ := i4In hI8
           clear hU hUl hmore hn7 hc7 hg7 hO6 hP6 hI6 hq6 hB6 hE6 hsz6 hP7 hI7 hq7 hB7 hS7 hfr7 hg8 hS8 hB8)
        | fail)
      generalize wr.heap.size = n6 at *
      refine (HKS.out _ HB8.out).mono ?_
      rintro e W ⟨A9, c9, rfl, _, hb9⟩
      replace hP8 := hP8.below hb9
      replace hq8 := hq8.below hb9
      replace hI8 := hI8.below hb9
      have hS8' := HS8.out.below hb9
      have hB8' := HB8.out.trans (hb9.mono HB8.out.size)
      clear HS8 HB8 hb9 p0 p1 p2 p3 p4 p5 p6 p7 p8 i0 i1 i2 i3
      have HS8 := Lib.hid hS8'
      have HB8 := Lib.hid hB8'
      clear hS8' hB8'
      obtain ⟨p0, p1, p2, p3, p4, p5, p6, p7, p8⟩ := pnIn9 hP8
      obtain ⟨i0, i1, i2, i3⟩ := i4In hI8
      by_cases f2 : (kidsN x.p.u 0).length < 4
      · obtain ⟨ft, hft⟩ : ∃ ft, decide (((devsN x.p.u).length : Int) < 8) = ft := ⟨_, rfl⟩
        have hfu : ft = true ↔ (devsN x.p.u).length < 8 := by rw [← hft, decide_eq_true_iff]; omega
        have HFU := Lib.hid hfu
        clear hfu
        go_wp2_with fail
        clear p0 p1 p2 p3 p4 p5 p6 p7 p8 i0 i1 i2 i3
        have hS9 := HS8.out
        have hB9 := HB8.out
        have hI9 : i4E.In W n3 ⟨0, 1, k2, (devsN x.p.u).length⟩ := hI8
        clear HS8 HB8 hI8
        have hkd := cntK_le x.p.u 3 x.p.u.length
        rw [cntK_devs] at hkd
        have hk2 : k2 ≤ 12 := by have := HALL.out; have := HL.out.2; omega
        have hd12 : (devsN x.p.u).length ≤ 12 := by have := HL.out.2; omega
        have hs1 : IntKind.i64.wrap (1 + (k2 : Int)) = 1 + k2 := IntWalk.i64_in _ (by omega)
        have hs2 : IntKind.i64.wrap (1 + (k2 : Int) + (devsN x.p.u).length) = 1 + k2 + (devsN x.p.u).length := IntWalk.i64_in _ (by omega)
        have hs3 : (1 + (k2 : Int) + ((devsN x.p.u).length : Int) == (x.p.u.length : Int)) = true := by have := HALL.out; exact beq_iff_eq.2 (by omega)
        have hs4 : (1 + (k2 : Int) + ((devsN x.p.u).length : Int)) = (x.p.u.length : Int) := by have := HALL.out; omega
        have hs5 : 1 + k2 + (devsN x.p.u).length = x.p.u.length := HALL.out
        have hs6 : decide (1 + (k2 : Int) + ((devsN x.p.u).length : Int) = (x.p.u.length : Int)) = true := decide_eq_true hs4
        have hs7 : wrap64 (1 + (k2 : Int)) = 1 + k2 := by unfold wrap64; omega
        have hs8 : wrap64 (1 + (k2 : Int) + (devsN x.p.u).length) = 1 + k2 + (devsN x.p.u).length := by unfold wrap64; omega
        have HRQ := Lib.hid (fun (wx : World) (h : inE.Sl wx A7 U) => H.right ⟨A7, c7, { x.p with u := U }⟩ wx h ft (by
          have hm := HMO.out
          have hd := HUL.out
          first
            | exact ⟨fun _ => hm.2 ⟨by omega, by omega, by omega⟩, fun _ => rfl⟩
            | exact ⟨fun e => (by cases e), fun h => by have := hm.1 h; omega⟩
            | exact ⟨fun e => hm.2 ⟨by omega, by omega, HFU.out.1 e⟩, fun h => HFU.out.2 (hm.1 h).2.2⟩))
        have HKE := Lib.hid (fun (wx : World) (hb : Below w.heap.size w wx) => (by
          have h2 := HKD.out x.p.u.length wx hb
          rw [kind_end] at h2
          exact h2 : Calls Try.prog 8 #[.agg #[.slice x.A x.p.u.length x.c, .int .i64 x.p.q, .int .i64 x.p.r, .int .i64 x.p.b, .int .i64 x.p.l, .int .i64 x.p.w, .int .i64 x.p.c, .int .i64 x.p.k, .int .i64 x.p.i], .int .i64 x.p.u.length] wx fun e w' => e = .returned (.int .i64 0) ∧ Below wx.heap.size wx w'))
        clear HKD HKS HMO HALL hkd hs4 hs5 hs7 hs8
        replace hP8 : pnE.In W.drew n1 x := hP8
        replace hq8 : pnE.In W.drew n6 ⟨A7, c7, { x.p with u := U }⟩ := hq8
        replace hI9 : i4E.In W.drew n3 ⟨0, 1, k2, (devsN x.p.u).length⟩ := hI9
        replace hS9 : inE.Sl W.drew A7 U := hS9
        replace hB9 := hB9.drew
        go_region_held3 (fun w' => (w'.cell? ⟨n1, 0, none⟩ = some (.slice x.A x.p.u.length x.c) ∧ w'.cell? ⟨n1, 1, none⟩ = some (.int .i64 x.p.q) ∧ w'.cell? ⟨n1, 2, none⟩ = some (.int .i64 x.p.r) ∧ w'.cell? ⟨n1, 3, none⟩ = some (.int .i64 x.p.b) ∧ w'.cell? ⟨n1, 4, none⟩ = some (.int .i64 x.p.l) ∧ w'.cell? ⟨n1, 5, none⟩ = some (.int .i64 x.p.w) ∧ w'.cell? ⟨n1, 6, none⟩ = some (.int .i64 x.p.c) ∧ w'.cell? ⟨n1, 7, none⟩ = some (.int .i64 x.p.k) ∧ w'.cell? ⟨n1, 8, none⟩ = some (.int .i64 x.p.i)) ∧ (w'.cell? ⟨n6, 0, none⟩ = some (.slice A7 U.length c7) ∧ w'.cell? ⟨n6, 1, none⟩ = some (.int .i64 x.p.q) ∧ w'.cell? ⟨n6, 2, none⟩ = some (.int .i64 x.p.r) ∧ w'.cell? ⟨n6, 3, none⟩ = some (.int .i64 x.p.b) ∧ w'.cell? ⟨n6, 4, none⟩ = some (.int .i64 x.p.l) ∧ w'.cell? ⟨n6, 5, none⟩ = some (.int .i64 x.p.w) ∧ w'.cell? ⟨n6, 6, none⟩ = some (.int .i64 x.p.c) ∧ w'.cell? ⟨n6, 7, none⟩ = some (.int .i64 x.p.k) ∧ w'.cell? ⟨n6, 8, none⟩ = some (.int .i64 x.p.i)) ∧ (w'.cell? ⟨n3, 0, none⟩ = some (.int .i64 0) ∧ w'.cell? ⟨n3, 1, none⟩ = some (.int .i64 1) ∧ w'.cell? ⟨n3, 2, none⟩ = some (.int .i64 k2) ∧ w'.cell? ⟨n3, 3, none⟩ = some (.int .i64 (devsN x.p.u).length))) (with_reducible exact ⟨pnIn9 hP8, pnIn9 hq8, i4In hI9⟩) (first | (go_at_call 6; (with_reducible refine (awake10_any H _).mono ?_); rintro e w3 ⟨rfl, hb3⟩; have hP8 := hP8.below hb3; have hq8 := hq8.below hb3; have hI9 := hI9.below hb3; have hS9 := hS9.below hb3; have hB9 := hB9.trans (hb3.mono hB9.size)) | (go_at_call 12; (with_reducible refine (HDV.out _ hB9).mono ?_); rintro e w3 ⟨AD, cD, rfl, _, hb3⟩; have hP8 := hP8.below hb3; have hq8 := hq8.below hb3; have hI9 := hI9.below hb3; have hS9 := hS9.below hb3; have hB9 := hB9.trans (hb3.mono hB9.size)) | (go_at_call 5; (with_reducible refine (HRQ.out _ hS9).mono ?_); rintro e w3 ⟨rfl, hb3⟩; have hP8 := hP8.below hb3; have hq8 := hq8.below hb3; have hI9 := hI9.below hb3; have hS9 := hS9.below hb3; have hB9 := hB9.trans (hb3.mono hB9.size)) | (go_at_call 8; (with_reducible refine (HKE.out _ hB9).mono ?_); rintro e w3 ⟨rfl, hb3⟩; have hP8 := hP8.below hb3; have hq8 := hq8.below hb3; have hI9 := hI9.below hb3; have hS9 := hS9.below hb3; have hB9 := hB9.trans (hb3.mono hB9.size)))
        go_wp2_with fail
        go_ret
        exact ⟨rfl, hB9⟩
      · go_wp2_with fail
        clear p0 p1 p2 p3 p4 p5 p6 p7 p8 i0 i1 i2 i3
        have hS9 := HS8.out
        have hB9 := HB8.out
        have hI9 : i4E.In W n3 ⟨0, 1, k2, (devsN x.p.u).length⟩ := hI8
        clear HS8 HB8 hI8
        have hkd := cntK_le x.p.u 3 x.p.u.length
        rw [cntK_devs] at hkd
        have hk2 : k2 ≤ 12 := by have := HALL.out; have := HL.out.2; omega
        have hd12 : (devsN x.p.u).length ≤ 12 := by have := HL.out.2; omega
        have hs1 : IntKind.i64.wrap (1 + (k2 : Int)) = 1 + k2 := IntWalk.i64_in _ (by omega)
        have hs2 : IntKind.i64.wrap (1 + (k2 : Int) + (devsN x.p.u).length) = 1 + k2 + (devsN x.p.u).length := IntWalk.i64_in _ (by omega)
        have hs3 : (1 + (k2 : Int) + ((devsN x.p.u).length : Int) == (x.p.u.length : Int)) = true := by have := HALL.out; exact beq_iff_eq.2 (by omega)
        have hs4 : (1 + (k2 : Int) + ((devsN x.p.u).length : Int)) = (x.p.u.length : Int) := by have := HALL.out; omega
        have hs5 : 1 + k2 + (devsN x.p.u).length = x.p.u.length := HALL.out
        have hs6 : decide (1 + (k2 : Int) + ((devsN x.p.u).length : Int) = (x.p.u.length : Int)) = true := decide_eq_true hs4
        have hs7 : wrap64 (1 + (k2 : Int)) = 1 + k2 := by unfold wrap64; omega
        have hs8 : wrap64 (1 + (k2 : Int) + (devsN x.p.u).length) = 1 + k2 + (devsN x.p.u).length := by unfold wrap64; omega
        have HRQ := Lib.hid (fun (wx : World) (h : inE.Sl wx A7 U) => H.right ⟨A7, c7, { x.p with u := U }⟩ wx h false (by
          have hm := HMO.out
          have hd := HUL.out
          first
            | exact ⟨fun _ => hm.2 ⟨by omega, by omega, by omega⟩, fun _ => rfl⟩
            | exact ⟨fun e => (by cases e), fun h => by have := hm.1 h; omega⟩
            | exact ⟨fun e => hm.2 ⟨by omega, by omega, HFU.out.1 e⟩, fun h => HFU.out.2 (hm.1 h).2.2⟩))
        have HKE := Lib.hid (fun (wx : World) (hb : Below w.heap.size w wx) => (by
          have h2 := HKD.out x.p.u.length wx hb
          rw [kind_end] at h2
          exact h2 : Calls Try.prog 8 #[.agg #[.slice x.A x.p.u.length x.c, .int .i64 x.p.q, .int .i64 x.p.r, .int .i64 x.p.b, .int .i64 x.p.l, .int .i64 x.p.w, .int .i64 x.p.c, .int .i64 x.p.k, .int .i64 x.p.i], .int .i64 x.p.u.length] wx fun e w' => e = .returned (.int .i64 0) ∧ Below wx.heap.size wx w'))
        clear HKD HKS HMO HALL hkd hs4 hs5 hs7 hs8
        replace hP8 : pnE.In W.drew n1 x := hP8
        replace hq8 : pnE.In W.drew n6 ⟨A7, c7, { x.p with u := U }⟩ := hq8
        replace hI9 : i4E.In W.drew n3 ⟨0, 1, k2, (devsN x.p.u).length⟩ := hI9
        replace hS9 : inE.Sl W.drew A7 U := hS9
        replace hB9 := hB9.drew
        go_region_held3 (fun w' => (w'.cell? ⟨n1, 0, none⟩ = some (.slice x.A x.p.u.length x.c) ∧ w'.cell? ⟨n1, 1, none⟩ = some (.int .i64 x.p.q) ∧ w'.cell? ⟨n1, 2, none⟩ = some (.int .i64 x.p.r) ∧ w'.cell? ⟨n1, 3, none⟩ = some (.int .i64 x.p.b) ∧ w'.cell? ⟨n1, 4, none⟩ = some (.int .i64 x.p.l) ∧ w'.cell? ⟨n1, 5, none⟩ = some (.int .i64 x.p.w) ∧ w'.cell? ⟨n1, 6, none⟩ = some (.int .i64 x.p.c) ∧ w'.cell? ⟨n1, 7, none⟩ = some (.int .i64 x.p.k) ∧ w'.cell? ⟨n1, 8, none⟩ = some (.int .i64 x.p.i)) ∧ (w'.cell? ⟨n6, 0, none⟩ = some (.slice A7 U.length c7) ∧ w'.cell? ⟨n6, 1, none⟩ = some (.int .i64 x.p.q) ∧ w'.cell? ⟨n6, 2, none⟩ = some (.int .i64 x.p.r) ∧ w'.cell? ⟨n6, 3, none⟩ = some (.int .i64 x.p.b) ∧ w'.cell? ⟨n6, 4, none⟩ = some (.int .i64 x.p.l) ∧ w'.cell? ⟨n6, 5, none⟩ = some (.int .i64 x.p.w) ∧ w'.cell? ⟨n6, 6, none⟩ = some (.int .i64 x.p.c) ∧ w'.cell? ⟨n6, 7, none⟩ = some (.int .i64 x.p.k) ∧ w'.cell? ⟨n6, 8, none⟩ = some (.int .i64 x.p.i)) ∧ (w'.cell? ⟨n3, 0, none⟩ = some (.int .i64 0) ∧ w'.cell? ⟨n3, 1, none⟩ = some (.int .i64 1) ∧ w'.cell? ⟨n3, 2, none⟩ = some (.int .i64 k2) ∧ w'.cell? ⟨n3, 3, none⟩ = some (.int .i64 (devsN x.p.u).length))) (with_reducible exact ⟨pnIn9 hP8, pnIn9 hq8, i4In hI9⟩) (first | (go_at_call 6; (with_reducible refine (awake10_any H _).mono ?_); rintro e w3 ⟨rfl, hb3⟩; have hP8 := hP8.below hb3; have hq8 := hq8.below hb3; have hI9 := hI9.below hb3; have hS9 := hS9.below hb3; have hB9 := hB9.trans (hb3.mono hB9.size)) | (go_at_call 12; (with_reducible refine (HDV.out _ hB9).mono ?_); rintro e w3 ⟨AD, cD, rfl, _, hb3⟩; have hP8 := hP8.below hb3; have hq8 := hq8.below hb3; have hI9 := hI9.below hb3; have hS9 := hS9.below hb3; have hB9 := hB9.trans (hb3.mono hB9.size)) | (go_at_call 5; (with_reducible refine (HRQ.out _ hS9).mono ?_); rintro e w3 ⟨rfl, hb3⟩; have hP8 := hP8.below hb3; have hq8 := hq8.below hb3; have hI9 := hI9.below hb3; have hS9 := hS9.below hb3; have hB9 := hB9.trans (hb3.mono hB9.size)) | (go_at_call 8; (with_reducible refine (HKE.out _ hB9).mono ?_); rintro e w3 ⟨rfl, hb3⟩; have hP8 := hP8.below hb3; have hq8 := hq8.below hb3; have hI9 := hI9.below hb3; have hS9 := hS9.below hb3; have hB9 := hB9.trans (hb3.mono hB9.size)))
        go_wp2_with fail
        go_ret
        exact ⟨rfl, hB9⟩
set_option maxRecDepth 100000 in
set_option maxHeartbeats 4000000 in
theorem kinds_walkB (H : PlanCalls) (x : Pnw) (w : World) (hT : inE.Sl w x.A x.p.u) (hn : x.A = none → x.c = 0) (hR : Pln.Right x.p) (f1 : ¬ x.p.u.length + 1 ≤ 12) :
    Calls Try.prog 4 #[.agg #[.slice x.A x.p.u.length x.c, .int .i64 x.p.q, .int .i64 x.p.r, .int .i64 x.p.b, .int .i64 x.p.l, .int .i64 x.p.w, .int .i64 x.p.c, .int .i64 x.p.k, .int .i64 x.p.i]] w fun e w' => e = .returned (.bool true) ∧ Below w.heap.size w w' := by
  have hP : pnE.In (w.alloc (.cells #[.slice x.A x.p.u.length x.c, .int .i64 x.p.q, .int .i64 x.p.r, .int .i64 x.p.b, .int .i64 x.p.l, .int .i64 x.p.w, .int .i64 x.p.c, .int .i64 x.p.k, .int .i64 x.p.i] 24)) w.heap.size x := El.In.new (E := pnE) w x _ rfl
  have hB := below_alloc (Below.refl w.heap.size w) (.cells #[.slice x.A x.p.u.length x.c, .int .i64 x.p.q, .int .i64 x.p.r, .int .i64 x.p.b, .int .i64 x.p.l, .int .i64 x.p.w, .int .i64 x.p.c, .int .i64 x.p.k, .int .i64 x.p.i] 24)
  have HRT := Lib.hid (fun (wx : World) (hb : Below w.heap.size w wx) => H.right x wx (hT.below hb) true ⟨fun _ => hR, fun _ => rfl⟩)
  have HKD := Lib.hid (fun (n : Int) (wx : World) (hb : Below w.heap.size w wx) => H.kind x n wx (hT.below hb) hR)
  have HKS := Lib.hid (fun (wx : World) (hb : Below w.heap.size w wx) => H.kids x 0 wx (hT.below hb) hR)
  have HDV := Lib.hid (fun (wx : World) (hb : Below w.heap.size w wx) => H.devs x wx (hT.below hb) hR)
  have HT := Lib.hid hT
  have HR := Lib.hid hR
  have HN := Lib.hid hn
  have hlen2 := hR.n2
  have hlen12 := hR.n12
  have HL := Lib.hid (⟨hlen2, hlen12⟩ : 2 ≤ x.p.u.length ∧ x.p.u.length ≤ 12)
  clear hT hR hn
  obtain ⟨p0, p1, p2, p3, p4, p5, p6, p7, p8⟩ := pnIn9 hP
  go_enter Try.func4, Try.ntmps4
  go_wp2_with fail
  clear p0 p1 p2 p3 p4 p5 p6 p7 p8
  generalize w.alloc (.cells #[.slice x.A x.p.u.length x.c, .int .i64 x.p.q, .int .i64 x.p.r, .int .i64 x.p.b, .int .i64 x.p.l, .int .i64 x.p.w, .int .i64 x.p.c, .int .i64 x.p.k, .int .i64 x.p.i] 24) = W0 at *
  obtain ⟨n1, hn1⟩ : ∃ n, w.heap.size = n := ⟨_, rfl⟩
  rw [hn1] at hP ⊢
  have hw1 : w.heap.size ≤ n1 := by omega
  clear hn1
  refine (HRT.out _ hB).mono ?_
  rintro e w1 ⟨rfl, hb1⟩
  replace hP := hP.below hb1
  replace hB := hB.trans (hb1.mono hB.size)
  clear hb1 HRT
  have hI : i4E.In (w1.alloc (.cells #[.int .i64 0, .int .i64 0, .int .i64 0, .int .i64 0] 32)) w1.heap.size ⟨0, 0, 0, 0⟩ := El.In.new (E := i4E) w1 ⟨0, 0, 0, 0⟩ _ rfl
  go_wp2_with fail
  have hba := below_alloc (Below.refl w1.heap.size w1) (.cells #[.int .i64 0, .int .i64 0, .int .i64 0, .int .i64 0] 32)
  replace hP := hP.below hba
  have hw3 : w.heap.size ≤ w1.heap.size := hB.size
  replace hB := hB.trans (hba.mono hB.size)
  have hn13 : n1 ≠ w1.heap.size := fun e => by
    have h1 := hP.cell 0
    have h2 := hI.cell 0
    rw [e] at h1
    rw [h1] at h2
    cases h2
  clear hba
  generalize w1.alloc (.cells #[.int .i64 0, .int .i64 0, .int .i64 0, .int .i64 0] 32) = W1 at *
  generalize w1.heap.size = n3 at *
  go_loopw [4] (fun y wr => ∃ i : Nat, i ≤ x.p.u.length ∧ y = .int .i64 i ∧ pnE.In wr n1 x ∧ i4E.In wr n3 ⟨0, cntK x.p.u 1 i, cntK x.p.u 2 i, cntK x.p.u 3 i⟩ ∧ Below w.heap.size w wr) (fun y _ => x.p.u.length - (intOf y).toNat)
  case atStart => exact ⟨0, Nat.zero_le _, rfl, hP, hI, hB⟩
  case round =>
    clear hP hI hB
    obtain ⟨i, hi, rfl, hP, hI, hB⟩ := hrel
    obtain ⟨p0, p1, p2, p3, p4, p5, p6, p7, p8⟩ := pnIn9 hP
    by_cases hil : i < x.p.u.length
    · have C := HKD.out i wr hB
      have hkin := kind_in hil
      have hc1 := cntK_next x.p.u 1 i
      have hc2 := cntK_next x.p.u 2 i
      have hc3 := cntK_next x.p.u 3 i
      have hb1 := cntK_le x.p.u 1 i
      have hb2 := cntK_le x.p.u 2 i
      have hb3 := cntK_le x.p.u 3 i
      obtain ⟨k, hk⟩ : ∃ k, kindL x.p.u i = k := ⟨_, rfl⟩
      rw [hk] at C hkin hc1 hc2 hc3
      have HC := Lib.hid C
      have HL1 := HL.out.2
      clear C hk
      generalize cntK x.p.u 1 i = a1 at *
      generalize cntK x.p.u 2 i = a2 at *
      generalize cntK x.p.u 3 i = a3 at *
      rcases (show k = 1 ∨ k = 2 ∨ k = 3 by omega) with rfl | rfl | rfl
      · rw [if_pos rfl] at hc1
        rw [if_neg (by decide)] at hc2 hc3
        have HX1 := Lib.hid hc1
        have HX2 := Lib.hid hc2
        have HX3 := Lib.hid hc3
        clear hc1 hc2 hc3 hkin
        go_wp2_with fail
        clear p0 p1 p2 p3 p4 p5 p6 p7 p8
        refine HC.out.mono ?_
        rintro e w5 ⟨rfl, hb5⟩
        replace hP := hP.below hb5
        replace hI := hI.below hb5
        replace hB := hB.trans (hb5.mono hB.size)
        clear hb5 HC
        obtain ⟨q0, q1, q2, q3⟩ := i4In hI
        have qf := hI.frozen
        go_wp2_with fail
        exact ⟨⟨i + 1, by omega, by go_num, hP.other n3 1 _ hn13, (by rw [HX1.out, HX2.out, HX3.out]; exact hI.put _ 1 _ (by simp [i4E])), hB.grown (by_cellZ w5 n3 1 _) hB.size (fun k e => by have := Option.some.inj e; omega)⟩, by simp [intOf]; omega⟩
      · rw [if_pos rfl] at hc2
        rw [if_neg (by decide)] at hc1 hc3
        have HX1 := Lib.hid hc1
        have HX2 := Lib.hid hc2
        have HX3 := Lib.hid hc3
        clear hc1 hc2 hc3 hkin
        go_wp2_with fail
        clear p0 p1 p2 p3 p4 p5 p6 p7 p8
        refine HC.out.mono ?_
        rintro e w5 ⟨rfl, hb5⟩
        replace hP := hP.below hb5
        replace hI := hI.below hb5
        replace hB := hB.trans (hb5.mono hB.size)
        clear hb5 HC
        obtain ⟨q0, q1, q2, q3⟩ := i4In hI
        have qf := hI.frozen
        go_wp2_with fail
        exact ⟨⟨i + 1, by omega, by go_num, hP.other n3 2 _ hn13, (by rw [HX1.out, HX2.out, HX3.out]; exact hI.put _ 2 _ (by simp [i4E])), hB.grown (by_cellZ w5 n3 2 _) hB.size (fun k e => by have := Option.some.inj e; omega)⟩, by simp [intOf]; omega⟩
      · rw [if_pos rfl] at hc3
        rw [if_neg (by decide)] at hc1 hc2
        have HX1 := Lib.hid hc1
        have HX2 := Lib.hid hc2
        have HX3 := Lib.hid hc3
        clear hc1 hc2 hc3 hkin
        go_wp2_with fail
        clear p0 p1 p2 p3 p4 p5 p6 p7 p8
        refine HC.out.mono ?_
        rintro e w5 ⟨rfl, hb5⟩
        replace hP := hP.below hb5
        replace hI := hI.below hb5
        replace hB := hB.trans (hb5.mono hB.size)
        clear hb5 HC
        obtain ⟨q0, q1, q2, q3⟩ := i4In hI
        have qf := hI.frozen
        go_wp2_with fail
        exact ⟨⟨i + 1, by omega, by go_num, hP.other n3 3 _ hn13, (by rw [HX1.out, HX2.out, HX3.out]; exact hI.put _ 3 _ (by simp [i4E])), hB.grown (by_cellZ w5 n3 3 _) hB.size (fun k e => by have := Option.some.inj e; omega)⟩, by simp [intOf]; omega⟩
    · obtain rfl : i = x.p.u.length := by omega
      have hc1 := cntK_one x.p.u.length (by have := HL.out.1; omega) (Nat.le_refl _)
      have hall := cntK_all x.p.u.length (Nat.le_refl _)
      rw [hc1, cntK_devs] at hall
      rw [hc1, cntK_devs] at hI
      clear hc1
      generalize cntK x.p.u 2 x.p.u.length = k2 at *
      have HALL := Lib.hid hall
      clear hall
      have hq1 : pnE.In (wr.alloc (.cells #[.slice x.A x.p.u.length x.c, .int .i64 x.p.q, .int .i64 x.p.r, .int .i64 x.p.b, .int .i64 x.p.l, .int .i64 x.p.w, .int .i64 x.p.c, .int .i64 x.p.k, .int .i64 x.p.i] 24)) wr.heap.size x := El.In.new (E := pnE) wr x _ rfl
      have hO1 := El.Own.empty (E := inE) (wr.alloc (.cells #[.slice x.A x.p.u.length x.c, .int .i64 x.p.q, .int .i64 x.p.r, .int .i64 x.p.b, .int .i64 x.p.l, .int .i64 x.p.w, .int .i64 x.p.c, .int .i64 x.p.k, .int .i64 x.p.i] 24)) (wr.heap.size + 1) (by rw [alloc_size]; omega)
      rw [alloc_size] at hO1
      have hb1 := below_alloc (below_alloc (Below.refl wr.heap.size wr) (.cells #[.slice x.A x.p.u.length x.c, .int .i64 x.p.q, .int .i64 x.p.r, .int .i64 x.p.b, .int .i64 x.p.l, .int .i64 x.p.w, .int .i64 x.p.c, .int .i64 x.p.k, .int .i64 x.p.i] 24)) (.cells #[] 3)
      have hTu : inE.Sl ((wr.alloc (.cells #[.slice x.A x.p.u.length x.c, .int .i64 x.p.q, .int .i64 x.p.r, .int .i64 x.p.b, .int .i64 x.p.l, .int .i64 x.p.w, .int .i64 x.p.c, .int .i64 x.p.k, .int .i64 x.p.i] 24)).alloc (.cells #[] 3)) x.A x.p.u := HT.out.below (hB.trans (hb1.mono hB.size))
      have hsz1 : wr.heap.size + 1 ≤ ((wr.alloc (.cells #[.slice x.A x.p.u.length x.c, .int .i64 x.p.q, .int .i64 x.p.r, .int .i64 x.p.b, .int .i64 x.p.l, .int .i64 x.p.w, .int .i64 x.p.c, .int .i64 x.p.k, .int .i64 x.p.i] 24)).alloc (.cells #[] 3)).heap.size := by rw [alloc_size, alloc_size]; omega
      have hl12 := HL.out.2
      have k0 := (pnIn9 (hP.below hb1)).1
      have hwr := hB.size
      have hn6l := hq1.lt
      have hn16 : n1 ≠ wr.heap.size := by have := hP.lt; omega
      have hn36 : n3 ≠ wr.heap.size := by have := hI.lt; omega
      have hl3 := hI.lt
      have hl1 := hP.lt
      go_wp2_with (first
        | (at_builtin; refine El.wpList_app inInn rfl _ _ rfl (wr.heap.size + 1) (.slice (some ⟨wr.heap.size + 1, 0, none⟩) 0 0) [] x.p.u rfl hO1 x.A x.p.u.length x.c rfl rfl hTu HN.out (by simp; omega) hsz1 ?_; intro v5 w5 hO5 hg5 _
           have hO5' : inE.Own w5 (wr.heap.size + 1) v5 x.p.u := hO5
           have hP5 := (hP.below hb1).keep hg5 (fun e => by have h := (hO1.lt n1 e.symm).1; omega)
           have hI5 := (hI.below hb1).keep hg5 (fun e => by have h := (hO1.lt n3 e.symm).1; omega)
           have hq5 := (hq1.alloc (.cells #[] 3)).keep hg5 (fun e => by have h := (hO1.lt wr.heap.size e.symm).1; omega)
           have hb5 := hb1.grown hg5 hb1.size (fun k e => by have := (hO1.lt k e).1; omega)
           have hsz5 : wr.heap.size + 1 ≤ w5.heap.size := Nat.le_trans hsz1 hg5.size
           have HUU := Lib.hid (hB.trans (hb5.mono hB.size))
           have hba := below_alloc (Below.refl w5.heap.size w5) (.cells #[.int .i64 0] 3)
           have hO6 := hO5'.below hba
           have hE6 : inE.Sl (w5.alloc (.cells #[.int .i64 0] 3)) (some ⟨w5.heap.size, 0, none⟩) [0] := El.Sl.row (E := inE) w5 [0] #[.int .i64 0] rfl
           have hP6 := hP5.below hba
           have hI6 := hI5.below hba
           have hq6 := hq5.below hba
           have hB6 := HUU.out.trans (hba.mono HUU.out.size)
           have hsz6 : wr.heap.size + 1 ≤ (w5.alloc (.cells #[.int .i64 0] 3)).heap.size := by rw [alloc_size]; omega
           clear hO5 hO1 hTu hsz1 k0 hg5 hb1 hq1 hO5' hP5 hI5 hq5 hb5 HUU hba hB hP hI)
        | (at_builtin; refine El.wpList_app inInn rfl _ _ rfl (wr.heap.size + 1) _ x.p.u [0] rfl hO6 (some ⟨w5.heap.size, 0, none⟩) 1 1 rfl rfl hE6 (fun e => by cases e) (by have : [(0 : Int)].length = 1 := rfl; omega) hsz6 ?_; intro v7 w7 hO7 hg7 _
           have hP7 := hP6.keep hg7 (fun e => by have h := (hO6.lt n1 e.symm).1; omega)
           have hI7 := hI6.keep hg7 (fun e => by have h := (hO6.lt n3 e.symm).1; omega)
           have hq7 := hq6.keep hg7 (fun e => by have h := (hO6.lt wr.heap.size e.symm).1; omega)
           have hB7 := hB6.grown hg7 hB6.size (fun k e => by have := (hO6.lt k e).1; omega)
           have qc := hq7.cell 0
           have qf := hq7.frozen
           have hUl : (x.p.u ++ [0]).length = x.p.u.length + 1 := more_len _
           have hmore := HR.out.more
           have hlt7 := fun a (e : v7 = .slice (some a) (x.p.u ++ [0]).length 0) => a
           obtain ⟨A7, c7, hv7, hS7, hn7, hc7⟩ := hO7.sl
           have hfr7 : ∀ a, A7 = some a → a.block ≠ wr.heap.size := fun a e h => by
             have h1 := (hO7.lt a.block (by rw [hv7, e]; rfl)).1
             omega
           clear hlt7 hO7
           obtain ⟨U, hU⟩ : ∃ U, x.p.u ++ [0] = U := ⟨_, rfl⟩
           rw [hU] at hv7 hS7 hc7 hUl hmore
           subst hv7
           have HU := Lib.hid hU
           have HUL := Lib.hid hUl
           have HMO := Lib.hid hmore
           have HN7 := Lib.hid (⟨hn7, hc7⟩ : (A7 = none → c7 = 0) ∧ U.length ≤ c7)
           have hg8 := by_cellZ w7 wr.heap.size 0 (.slice A7 U.length c7)
           have hP8 := hP7.keep hg8 (fun e => hn16 (Option.some.inj e))
           have hI8 := hI7.keep hg8 (fun e => hn36 (Option.some.inj e))
           have hq8 : pnE.In (w7.setCell ⟨wr.heap.size, 0, none⟩ (.slice A7 U.length c7)) wr.heap.size ⟨A7, c7, { x.p with u := U }⟩ := hq7.put _ 0 _ rfl
           have hB8 := hB7.grown hg8 hB7.size (fun k e => by have := Option.some.inj e; omega)
           have hS8 : inE.Sl (w7.setCell ⟨wr.heap.size, 0, none⟩ (.slice A7 U.length c7)) A7 U := hS7.keep hg8 (fun a e h => hfr7 a e (Option.some.inj h))
           have HS8 := Lib.hid hS8
           have HB8 := Lib.hid hB8
           have hd1 : 12 < U.length := by have := HUL.out; omega
           obtain ⟨p0, p1, p2, p3, p4, p5, p6, p7, p8⟩ := pnIn9 hP8
           obtain ⟨i0, i1, i2, i3⟩ := i4In hI8
           clear hU hUl hmore hn7 hc7 hg7 hO6 hP6 hI6 hq6 hB6 hE6 hsz6 hP7 hI7 hq7 hB7 hS7 hfr7 hg8 hS8 hB8)
        | fail)
      generalize wr.heap.size = n6 at *
      generalize w7.setCell ⟨n6, 0, none⟩ (.slice A7 U.length c7) = W at *
      clear p0 p1 p2 p3 p4 p5 p6 p7 p8 i0 i1 i2 i3
      have hS9 := HS8.out
      have hB9 := HB8.out
      have hI9 : i4E.In W n3 ⟨0, 1, k2, (devsN x.p.u).length⟩ := hI8
      clear HS8 HB8 hI8
      have hkd := cntK_le x.p.u 3 x.p.u.length
      rw [cntK_devs] at hkd
      have hk2 : k2 ≤ 12 := by have := HALL.out; have := HL.out.2; omega
      have hd12 : (devsN x.p.u).length ≤ 12 := by have := HL.out.2; omega
      have hs1 : IntKind.i64.wrap (1 + (k2 : Int)) = 1 + k2 := IntWalk.i64_in _ (by omega)
      have hs2 : IntKind.i64.wrap (1 + (k2 : Int) + (devsN x.p.u).length) = 1 + k2 + (devsN x.p.u).length := IntWalk.i64_in _ (by omega)
      have hs3 : (1 + (k2 : Int) + ((devsN x.p.u).length : Int) == (x.p.u.length : Int)) = true := by have := HALL.out; exact beq_iff_eq.2 (by omega)
      have hs4 : (1 + (k2 : Int) + ((devsN x.p.u).length : Int)) = (x.p.u.length : Int) := by have := HALL.out; omega
      have hs5 : 1 + k2 + (devsN x.p.u).length = x.p.u.length := HALL.out
      have hs6 : decide (1 + (k2 : Int) + ((devsN x.p.u).length : Int) = (x.p.u.length : Int)) = true := decide_eq_true hs4
      have hs7 : wrap64 (1 + (k2 : Int)) = 1 + k2 := by unfold wrap64; omega
      have hs8 : wrap64 (1 + (k2 : Int) + (devsN x.p.u).length) = 1 + k2 + (devsN x.p.u).length := by unfold wrap64; omega
      have HRQ := Lib.hid (fun (wx : World) (h : inE.Sl wx A7 U) => H.right ⟨A7, c7, { x.p with u := U }⟩ wx h false (by
        have hm := HMO.out
        have hd := HUL.out
        first
          | exact ⟨fun _ => hm.2 ⟨by omega, by omega, by omega⟩, fun _ => rfl⟩
          | exact ⟨fun e => (by cases e), fun h => by have := hm.1 h; omega⟩
          | exact ⟨fun e => hm.2 ⟨by omega, by omega, HFU.out.1 e⟩, fun h => HFU.out.2 (hm.1 h).2.2⟩))
      have HKE := Lib.hid (fun (wx : World) (hb : Below w.heap.size w wx) => (by
        have h2 := HKD.out x.p.u.length wx hb
        rw [kind_end] at h2
        exact h2 : Calls Try.prog 8 #[.agg #[.slice x.A x.p.u.length x.c, .int .i64 x.p.q, .int .i64 x.p.r, .int .i64 x.p.b, .int .i64 x.p.l, .int .i64 x.p.w, .int .i64 x.p.c, .int .i64 x.p.k, .int .i64 x.p.i], .int .i64 x.p.u.length] wx fun e w' => e = .returned (.int .i64 0) ∧ Below wx.heap.size wx w'))
      clear HKD HKS HMO HALL hkd hs4 hs5 hs7 hs8
      replace hP8 : pnE.In W.drew n1 x := hP8
      replace hq8 : pnE.In W.drew n6 ⟨A7, c7, { x.p with u := U }⟩ := hq8
      replace hI9 : i4E.In W.drew n3 ⟨0, 1, k2, (devsN x.p.u).length⟩ := hI9
      replace hS9 : inE.Sl W.drew A7 U := hS9
      replace hB9 := hB9.drew
      go_region_held3 (fun w' => (w'.cell? ⟨n1, 0, none⟩ = some (.slice x.A x.p.u.length x.c) ∧ w'.cell? ⟨n1, 1, none⟩ = some (.int .i64 x.p.q) ∧ w'.cell? ⟨n1, 2, none⟩ = some (.int .i64 x.p.r) ∧ w'.cell? ⟨n1, 3, none⟩ = some (.int .i64 x.p.b) ∧ w'.cell? ⟨n1, 4, none⟩ = some (.int .i64 x.p.l) ∧ w'.cell? ⟨n1, 5, none⟩ = some (.int .i64 x.p.w) ∧ w'.cell? ⟨n1, 6, none⟩ = some (.int .i64 x.p.c) ∧ w'.cell? ⟨n1, 7, none⟩ = some (.int .i64 x.p.k) ∧ w'.cell? ⟨n1, 8, none⟩ = some (.int .i64 x.p.i)) ∧ (w'.cell? ⟨n6, 0, none⟩ = some (.slice A7 U.length c7) ∧ w'.cell? ⟨n6, 1, none⟩ = some (.int .i64 x.p.q) ∧ w'.cell? ⟨n6, 2, none⟩ = some (.int .i64 x.p.r) ∧ w'.cell? ⟨n6, 3, none⟩ = some (.int .i64 x.p.b) ∧ w'.cell? ⟨n6, 4, none⟩ = some (.int .i64 x.p.l) ∧ w'.cell? ⟨n6, 5, none⟩ = some (.int .i64 x.p.w) ∧ w'.cell? ⟨n6, 6, none⟩ = some (.int .i64 x.p.c) ∧ w'.cell? ⟨n6, 7, none⟩ = some (.int .i64 x.p.k) ∧ w'.cell? ⟨n6, 8, none⟩ = some (.int .i64 x.p.i)) ∧ (w'.cell? ⟨n3, 0, none⟩ = some (.int .i64 0) ∧ w'.cell? ⟨n3, 1, none⟩ = some (.int .i64 1) ∧ w'.cell? ⟨n3, 2, none⟩ = some (.int .i64 k2) ∧ w'.cell? ⟨n3, 3, none⟩ = some (.int .i64 (devsN x.p.u).length))) (with_reducible exact ⟨pnIn9 hP8, pnIn9 hq8, i4In hI9⟩) (first | (go_at_call 6; (with_reducible refine (awake10_any H _).mono ?_); rintro e w3 ⟨rfl, hb3⟩; have hP8 := hP8.below hb3; have hq8 := hq8.below hb3; have hI9 := hI9.below hb3; have hS9 := hS9.below hb3; have hB9 := hB9.trans (hb3.mono hB9.size)) | (go_at_call 12; (with_reducible refine (HDV.out _ hB9).mono ?_); rintro e w3 ⟨AD, cD, rfl, _, hb3⟩; have hP8 := hP8.below hb3; have hq8 := hq8.below hb3; have hI9 := hI9.below hb3; have hS9 := hS9.below hb3; have hB9 := hB9.trans (hb3.mono hB9.size)) | (go_at_call 5; (with_reducible refine (HRQ.out _ hS9).mono ?_); rintro e w3 ⟨rfl, hb3⟩; have hP8 := hP8.below hb3; have hq8 := hq8.below hb3; have hI9 := hI9.below hb3; have hS9 := hS9.below hb3; have hB9 := hB9.trans (hb3.mono hB9.size)) | (go_at_call 8; (with_reducible refine (HKE.out _ hB9).mono ?_); rintro e w3 ⟨rfl, hb3⟩; have hP8 := hP8.below hb3; have hq8 := hq8.below hb3; have hI9 := hI9.below hb3; have hS9 := hS9.below hb3; have hB9 := hB9.trans (hb3.mono hB9.size)))
      go_wp2_with fail
      go_ret
      exact ⟨rfl, hB9⟩
theorem kinds_walk (H : PlanCalls) (x : Pnw) (w : World) (hT : inE.Sl w x.A x.p.u) (hn : x.A = none → x.c = 0) (hR : Pln.Right x.p) :
    Calls Try.prog 4 #[.agg #[.slice x.A x.p.u.length x.c, .int .i64 x.p.q, .int .i64 x.p.r, .int .i64 x.p.b, .int .i64 x.p.l, .int .i64 x.p.w, .int .i64 x.p.c, .int .i64 x.p.k, .int .i64 x.p.i]] w fun e w' => e = .returned (.bool true) ∧ Below w.heap.size w w' := by
  by_cases f1 : x.p.u.length + 1 ≤ 12
  · exact kinds_walkA H x w hT hn hR f1
  · exact kinds_walkB H x w hT hn hR f1
end Go.Proofs.Ytmmfjmhemknpgaa

/- A plan among the arguments, opened. -/
namespace Go.Proofs.Ytmmfjmhemknpgaa
open Go.ChangeShapes Go.WideShapes Go.ChangeAt Go.RowKit Go.Deep Pln

theorem cellsPln : Try.prog.cellsOf 24 = 9 := by kernel_rfl
theorem cellsIns : Try.prog.cellsOf 22 = 1 := by kernel_rfl
theorem cellsI : Try.prog.cellsOf 3 = 1 := by kernel_rfl
set_option maxRecDepth 100000 in
/-- Nine cells that read as a plan. -/
theorem read_plan {H : Type} {enc : TypeId × Value → H} {W : World} {fuel : Nat} {cs : List Value} {x : DataW H × List MemPlace}
    (h : DataW.trod enc Try.prog W 0 (fun _ => true) true fuel 24 cs = some x) : ∃ x : Pnw, cs = pnE.c x ∧ inE.Sl W x.A x.p.u ∧ (x.A = none → x.c = 0) := by
  obtain ⟨xs, n, _, _, hl, hlen, hf⟩ := DataW.trod_struct Try.underlying24 h
  have hl9 : cs.length = 9 := hl.trans cellsPln
  have hl3 : xs.length = 9 := hlen
  match cs, hl9, xs, hl3 with
  | [c0, c1, c2, c3, c4, c5, c6, c7, c8], _, [y0, y1, y2, y3, y4, y5, y6, y7, y8], _ =>
    have h0 := hf 0 _ rfl
    have h1 := hf 1 _ rfl
    have h2 := hf 2 _ rfl
    have h3 := hf 3 _ rfl
    have h4 := hf 4 _ rfl
    have h5 := hf 5 _ rfl
    have h6 := hf 6 _ rfl
    have h7 := hf 7 _ rfl
    have h8 := hf 8 _ rfl
    simp [cellsIns, cellsI] at h0 h1 h2 h3 h4 h5 h6 h7 h8
    obtain ⟨A, c, u, e0, v0, _⟩ := open_cells inE (fun _ => True) Try.underlying22 cellsI (fun h => by
      obtain ⟨a, e, _, _⟩ := DataW.trod_int Try.underlying3 h
      exact ⟨a, e, trivial⟩) h0
    obtain ⟨q, e1, _, _⟩ := DataW.trod_int Try.underlying3 h1
    obtain ⟨r, e2, _, _⟩ := DataW.trod_int Try.underlying3 h2
    obtain ⟨b, e3, _, _⟩ := DataW.trod_int Try.underlying3 h3
    obtain ⟨l, e4, _, _⟩ := DataW.trod_int Try.underlying3 h4
    obtain ⟨w, e5, _, _⟩ := DataW.trod_int Try.underlying3 h5
    obtain ⟨cc, e6, _, _⟩ := DataW.trod_int Try.underlying3 h6
    obtain ⟨k, e7, _, _⟩ := DataW.trod_int Try.underlying3 h7
    obtain ⟨i, e8, _, _⟩ := DataW.trod_int Try.underlying3 h8
    simp at e0 e1 e2 e3 e4 e5 e6 e7 e8
    subst e0 e1 e2 e3 e4 e5 e6 e7 e8
    exact ⟨⟨A, c, ⟨u, q, r, b, l, w, cc, k, i⟩⟩, rfl, v0.1, v0.2.1⟩
set_option maxRecDepth 100000 in
theorem open_plan {H : Type} {enc : TypeId × Value → H} {W : World} {base : Nat} {v : Value} {d : DataW H} {ps : List MemPlace}
    (hv : Value.okWide Try.prog W .any base 24 v) (h : DataW.Trod enc Try.prog W 0 (fun _ => true) true 24 v d ps) : ∃ x : Pnw, v = .agg #[.slice x.A x.p.u.length x.c, .int .i64 x.p.q, .int .i64 x.p.r, .int .i64 x.p.b, .int .i64 x.p.l, .int .i64 x.p.w, .int .i64 x.p.c, .int .i64 x.p.k, .int .i64 x.p.i] ∧ inE.Sl W x.A x.p.u ∧ (x.A = none → x.c = 0) := by
  obtain ⟨cs, rfl, _⟩ := okWide_struct Try.underlying24 hv
  obtain ⟨fuel, hf⟩ := h
  obtain ⟨x, e, hw⟩ := read_plan hf
  refine ⟨x, ?_, hw⟩
  obtain ⟨l⟩ := cs
  simp [Value.cells] at e
  rw [e]
  rfl
end Go.Proofs.Ytmmfjmhemknpgaa

/- Lists of ints in a row of the call's own: a cell read, a cell written. -/
namespace Go.Proofs.Ytmmfjmhemknpgaa
open Go.RowKit Go.Deep Pln

theorem by_cellG (w : World) (b i : Nat) (v : Value) : w.grownBy (w.setCell ⟨b, i, none⟩ v) (some b) := ⟨rfl, rfl, rfl, by simp [World.setCell], fun k _ hk => Below.heap_setCell w ⟨b, i, none⟩ v k (fun e => hk (by rw [e]))⟩
theorem inInnT : inE.Inn Try.prog 22 := El.inn_of (z := .int .i64 0) (bytes := 8) Try.underlying22 (by kernel_rfl) rfl (by decide)
theorem inZero : ∃ i z, Try.prog.info? inE.e = some i ∧ i.zero = some z ∧ z.cells.toList = inE.c (0 : Int) := by
  obtain ⟨i, hi, hz, _, _⟩ := info_parts (show (Try.prog.info? 3).map (fun i => (i.zero, i.size, i.bytes)) = some (some (.int .i64 0), 1, 8) by kernel_rfl)
  exact ⟨i, _, hi, hz, rfl⟩
theorem inCells : ∀ (l : List Int) (j : Nat) (h : j < l.length), (inE.cells l)[j]? = some (.int .i64 l[j])
  | x :: l, 0, _ => rfl
  | x :: l, j + 1, h => by
    have := inCells l j (by simpa using h)
    show (inE.c x ++ inE.cells l)[j + 1]? = _
    rw [List.getElem?_append_right (by rw [inE.len]; show 1 ≤ j + 1; omega), inE.len]
    exact this
theorem inSet (l : List Int) (j : Nat) (v : Int) : inE.cells (l.set j v) = (inE.cells l).set j (.int .i64 v) := by
  induction l generalizing j with
  | nil => rfl
  | cons x l ih =>
    cases j with
    | zero => rfl
    | succ j =>
      show inE.c x ++ inE.cells (l.set j v) = (inE.c x ++ inE.cells l).set (j + 1) _
      rw [ih]; rfl
theorem inOwn_cells {w : World} {B g cap : Nat} {l : List Int} (h : inE.Own w B (.slice (some ⟨g, 0, none⟩) l.length cap) l) : B ≤ g ∧ (∀ j (hj : j < l.length), w.cell? ⟨g, j, none⟩ = some (.int .i64 l[j])) ∧ (∀ j, w.frozen? ⟨g, j, none⟩ = false) ∧ g < w.heap.size := by
  have hlt := h.lt g rfl
  have hc := World.ownsRow.cells h (g := g) rfl
  refine ⟨hlt.1, fun j hj => ?_, fun j => ?_, hlt.2⟩
  · have := hc j _ (inCells l j hj)
    rw [Addr.add_lit, Nat.zero_add] at this
    exact this
  · unfold El.Own at h
    rcases h.2 with ⟨e, _⟩ | ⟨g', _, cur, e, _, hg, _⟩
    · cases e
    · injection e with e1
      have : g' = g := by injection e1 with e1; injection e1 with e1; exact e1.symm
      subst this
      simp [World.frozen?, hg]
theorem inOwn_put {w : World} {B g cap : Nat} {l : List Int} (h : inE.Own w B (.slice (some ⟨g, 0, none⟩) l.length cap) l) (j : Nat) (hj : j < l.length) (v : Int) : inE.Own (w.setCell ⟨g, j, none⟩ (.int .i64 v)) B (.slice (some ⟨g, 0, none⟩) l.length cap) (l.set j v) := by
  unfold El.Own at h ⊢
  rcases h.2 with ⟨e, _⟩ | ⟨g', cap', cur, e, hb, hg, hnc, hcm, hcs, htk⟩
  · cases e
  · injection e with e1 _ e3
    have : g' = g := by injection e1 with e1; injection e1 with e1; exact e1.symm
    subst this e3
    refine ⟨by rw [El.cells_len], .inr ⟨g', cap, cur.setIfInBounds j (.int .i64 v), by rw [List.length_set], hb, ?_, by rw [List.length_set]; exact hnc, hcm, by rw [Array.size_setIfInBounds]; exact hcs, ?_⟩⟩
    · simp [World.setCell, Array.getElem?_modify, hg]
    · rw [List.length_set, inSet, ← htk, Array.toList_setIfInBounds, List.take_set]

theorem inAt1 {w : World} {b o : Nat} {v : Int} (h : inE.At w b o v) : w.cell? ⟨b, o, none⟩ = some (.int .i64 v) := h 0 _ rfl
theorem slCell {w : World} {b off : Nat} {l : List Int} (h : inE.Sl w (some ⟨b, off, none⟩) l) (j : Nat) (hj : j < l.length) : w.cell? ⟨b, off + j, none⟩ = some (.int .i64 l[j]) := by
  obtain ⟨b', off', e, _, hc⟩ := h (by omega)
  cases e
  have := hc j hj 0 _ rfl
  rw [show inE.k = 1 from rfl, Nat.mul_one] at this
  exact this
theorem slCell0 {w : World} {b : Nat} {l : List Int} (h : inE.Sl w (some ⟨b, 0, none⟩) l) (j : Nat) (hj : j < l.length) : w.cell? ⟨b, j, none⟩ = some (.int .i64 l[j]) := by
  have := slCell h j hj
  rw [Nat.zero_add] at this; exact this
theorem getD_at {u : List Int} {i : Nat} (h : i < u.length) : u.getD i 0 = u[i] := by simp [h]
end Go.Proofs.Ytmmfjmhemknpgaa

/- How the program counts: depths and fans, node by node. No call in it. -/
namespace Pln

/-- A list of parents that may be. -/
structure Shp (u : List Int) : Prop where
  n2 : 2 ≤ u.length
  n12 : u.length ≤ 12
  up0 : u.getD 0 0 = -1
  par : Par u
theorem Right.shp {p : Pn} (h : Right p) : Shp p.u := ⟨h.n2, h.n12, h.up0, h.par⟩
theorem Shp.neg {u : List Int} (h : Shp u) : u.getD 0 0 < 0 := by rw [h.up0]; decide
theorem deep_bd {u : List Int} (hp : Par u) : ∀ (m i : Nat), i ≤ m → i < u.length → deepL u i ≤ i
  | m, 0, _, _ => Nat.le_of_eq (deep_zero u)
  | m, i + 1, hm, hi => by
    obtain ⟨h1, h2⟩ := hp (i + 1) (by omega) hi
    obtain ⟨j, hj⟩ : ∃ j : Nat, u.getD (i + 1) 0 = j := ⟨(u.getD (i + 1) 0).toNat, by omega⟩
    rw [deep_kid hp (i := j) (by omega) hi hj]
    cases m with
    | zero => omega
    | succ m => have := deep_bd hp m j (by omega) (by omega); omega

/-- The depths of the first k nodes; noughts behind them. -/
def depsL (u : List Int) (k : Nat) : List Int := (List.range u.length).map fun i => if i < k then ((deepL u (i : Int) : Nat) : Int) else 0
theorem depsL_len (u : List Int) (k : Nat) : (depsL u k).length = u.length := by unfold depsL; simp
theorem depsL_get {u : List Int} {k j : Nat} (h : j < (depsL u k).length) : (depsL u k)[j] = if j < k then ((deepL u (j : Int) : Nat) : Int) else 0 := by simp only [depsL, List.getElem_map, List.getElem_range]
theorem depsL_start (u : List Int) : depsL u 0 = List.replicate u.length 0 := by
  apply List.ext_getElem
  · rw [depsL_len, List.length_replicate]
  · intro j h1 h2
    rw [depsL_get, List.getElem_replicate, if_neg (by omega)]
theorem depsL_zero (u : List Int) : depsL u 1 = depsL u 0 := by
  apply List.ext_getElem
  · rw [depsL_len, depsL_len]
  · intro j h1 h2
    rw [depsL_get, depsL_get, if_neg (show ¬ j < 0 by omega)]
    by_cases h : j < 1
    · obtain rfl : j = 0 := by omega
      rw [if_pos h, show deepL u ((0 : Nat) : Int) = 0 from deep_zero u]; rfl
    · rw [if_neg h]
theorem depsL_up {u : List Int} {i j : Nat} (hj : j < i) (v : Int) (h : j < ((depsL u i).set i v).length) : ((depsL u i).set i v)[j] = deepL u j := by
  rw [List.getElem_set_ne (by omega), depsL_get, if_pos hj]
theorem depsL_step {u : List Int} (hp : Par u) {i j : Nat} (h0 : 0 < i) (hi : i < u.length) (hj : u.getD i 0 = j) : ((depsL u i).set i 1).set i (1 + (deepL u j : Int)) = depsL u (i + 1) := by
  rw [List.set_set]
  apply List.ext_getElem
  · rw [List.length_set, depsL_len, depsL_len]
  · intro k h1 h2
    rw [List.getElem_set, depsL_get, depsL_get]
    by_cases e : i = k
    · subst e
      rw [if_pos rfl, if_pos (by omega), deep_kid hp (i := j) h0 hi hj]; omega
    · rw [if_neg e]
      by_cases e2 : k < i
      · rw [if_pos e2, if_pos (by omega)]
      · rw [if_neg e2, if_neg (by omega)]
theorem depsL_all {u : List Int} {j : Nat} (hj : j < u.length) (h : j < (depsL u u.length).length) : (depsL u u.length)[j] = deepL u j := by rw [depsL_get, if_pos hj]

/-- Of the first k nodes: those whose Up this is. -/
def kidsK (u : List Int) (k : Nat) (n : Int) : List Nat := (List.range k).filter fun i => decide (0 < i) && decide (u.getD i 0 = n)
theorem kidsK_all (u : List Int) (n : Int) : kidsK u u.length n = kidsN u n := rfl
theorem kidsK_le (u : List Int) (k : Nat) (n : Int) : (kidsK u k n).length ≤ k := by
  unfold kidsK
  exact Nat.le_trans (List.length_filter_le _ _) (by simp)
theorem kidsK_yes {u : List Int} {k : Nat} {n : Int} (h0 : 0 < k) (h : u.getD k 0 = n) : kidsK u (k + 1) n = kidsK u k n ++ [k] := by
  unfold kidsK
  rw [List.range_succ, List.filter_append, List.filter_cons, if_pos (by rw [Bool.and_eq_true, decide_eq_true_iff, decide_eq_true_iff]; exact ⟨h0, h⟩)]; rfl
theorem kidsK_no {u : List Int} {k : Nat} {n : Int} (h : ¬ (0 < k ∧ u.getD k 0 = n)) : kidsK u (k + 1) n = kidsK u k n := by
  unfold kidsK
  rw [List.range_succ, List.filter_append, List.filter_cons, if_neg (by rw [Bool.and_eq_true, decide_eq_true_iff, decide_eq_true_iff]; exact h)]
  simp
/-- How many kids among the first k each node has. -/
def fansL (u : List Int) (k : Nat) : List Int := (List.range u.length).map fun (j : Nat) => (((kidsK u k (j : Int)).length : Nat) : Int)
theorem fansL_len (u : List Int) (k : Nat) : (fansL u k).length = u.length := by unfold fansL; simp
theorem fansL_get {u : List Int} {k j : Nat} (h : j < (fansL u k).length) : (fansL u k)[j] = (((kidsK u k (j : Int)).length : Nat) : Int) := by simp only [fansL, List.getElem_map, List.getElem_range]
theorem fansL_start (u : List Int) : fansL u 0 = List.replicate u.length 0 := by
  apply List.ext_getElem
  · rw [fansL_len, List.length_replicate]
  · intro j h1 h2
    rw [fansL_get, List.getElem_replicate]; rfl
theorem fansL_zero (u : List Int) : fansL u 1 = fansL u 0 := by
  apply List.ext_getElem
  · rw [fansL_len, fansL_len]
  · intro j h1 h2
    rw [fansL_get, fansL_get, kidsK_no (k := 0) (by omega)]
theorem fansL_step {u : List Int} {i j : Nat} (h0 : 0 < i) (hj : u.getD i 0 = j) : (fansL u i).set j (((kidsK u i (j : Int)).length : Int) + 1) = fansL u (i + 1) := by
  apply List.ext_getElem
  · rw [List.length_set, fansL_len, fansL_len]
  · intro k h1 h2
    rw [List.getElem_set, fansL_get, fansL_get]
    by_cases e : j = k
    · subst e
      rw [if_pos rfl, kidsK_yes h0 hj, List.length_append, List.length_singleton]; omega
    · rw [if_neg e, kidsK_no (by omega)]
theorem fansL_all {u : List Int} {j : Nat} (h : j < (fansL u u.length).length) : (fansL u u.length)[j] = (((kidsN u (j : Int)).length : Nat) : Int) := fansL_get h

/-- Of the first k nodes: the devices. -/
def devsK (u : List Int) (k : Nat) : List Nat := (List.range k).filter fun i => decide (kindL u (i : Int) = 3)
theorem devsK_all (u : List Int) : devsK u u.length = devsN u := rfl
theorem devsK_le (u : List Int) (k : Nat) : (devsK u k).length ≤ k := by
  unfold devsK
  exact Nat.le_trans (List.length_filter_le _ _) (by simp)
theorem devsK_yes {u : List Int} {k : Nat} (h0 : 0 < k) (hk : k < u.length) (h : (kidsN u k).length = 0) : devsK u (k + 1) = devsK u k ++ [k] := by
  unfold devsK
  rw [List.range_succ, List.filter_append, List.filter_cons, if_pos (by rw [decide_eq_true_iff, kind_of h0 hk, if_pos h])]; rfl
theorem devsK_no {u : List Int} {k : Nat} (hk : k < u.length) (h : ¬ (0 < k ∧ (kidsN u k).length = 0)) : devsK u (k + 1) = devsK u k := by
  unfold devsK
  have hn : ¬ kindL u (k : Int) = 3 := by
    by_cases h0 : k = 0
    · subst h0
      rw [show kindL u ((0 : Nat) : Int) = 1 from kind_root hk]; decide
    · rw [kind_of (by omega) hk, if_neg (by omega)]; decide
  rw [List.range_succ, List.filter_append, List.filter_cons, if_neg (by rw [decide_eq_true_iff]; exact hn)]
  simp

/-- The greatest depth of the first k nodes. -/
def deepK (u : List Int) (k : Nat) : Nat := (List.range k).foldl (fun (m i : Nat) => max m (deepL u (i : Int))) 0
theorem deepK_all (u : List Int) : deepK u u.length = deepest u := rfl
theorem deepK_next (u : List Int) (k : Nat) : deepK u (k + 1) = max (deepK u k) (deepL u (k : Int)) := by
  unfold deepK
  rw [List.range_succ, List.foldl_append]; rfl
theorem deepK_le {u : List Int} (hp : Par u) {k : Nat} (hk : k ≤ u.length) : deepK u k ≤ u.length := foldl_max_bd (fun i : Nat => deepL u (i : Int)) u.length _ 0 (Nat.zero_le _) fun i hi => by
  have := deep_bd hp i i (Nat.le_refl _) (by have := List.mem_range.1 hi; omega)
  have := List.mem_range.1 hi
  show deepL u (i : Int) ≤ _
  omega

/-- Who is below whom, a step. -/
theorem below_neg {u : List Int} {n top : Int} (h : ¬ (0 ≤ n ∧ n < u.length)) : belowU u n top = false := by
  unfold belowU belowF
  rw [if_neg h]
theorem below_at {u : List Int} {n : Int} (h : 0 ≤ n ∧ n < u.length) : belowU u n n = true := by
  unfold belowU belowF
  rw [if_pos h, if_pos rfl]
theorem below_next {u : List Int} (h : Shp u) {j : Nat} (hj : j < u.length) {top : Int} (hne : (j : Int) ≠ top) : belowU u j top = belowU u (u.getD j 0) top := by
  by_cases h0 : j = 0
  · subst h0
    rw [h.up0, below_neg (n := -1) (by omega)]
    unfold belowU belowF
    have e0 : ((0 : Nat) : Int).toNat = 0 := rfl
    have e1 : (0 : Int) ≤ ((0 : Nat) : Int) ∧ ((0 : Nat) : Int) < (u.length : Int) := ⟨by omega, by omega⟩
    have e2 : ¬ ((0 : Nat) : Int) ≤ u.getD 0 0 := by rw [h.up0]; decide
    rw [if_pos e1, if_neg hne, e0, if_neg e2, h.up0]
    obtain ⟨f, hf⟩ : ∃ f, u.length = f + 1 := ⟨u.length - 1, by have := h.n2; omega⟩
    rw [hf]
    unfold belowF
    rw [if_neg (by omega)]
  · exact below_up h.par h.neg (by omega) hj hne
theorem up_lt {u : List Int} (h : Shp u) {j : Nat} (hj : j < u.length) : u.getD j 0 < j ∧ -1 ≤ u.getD j 0 := by
  by_cases h0 : j = 0
  · subst h0
    rw [h.up0]; decide
  · have := h.par j (by omega) hj
    omega

/-- Each node's Up is as it must be. -/
def upAt (u : List Int) (i : Nat) : Prop := if i = 0 then u.getD 0 0 = -1 else 0 ≤ u.getD i 0 ∧ u.getD i 0 ≤ (i : Int) - 1
theorem ups_iff {u : List Int} (h : 2 ≤ u.length) : (∀ i, i < u.length → upAt u i) ↔ u.getD 0 0 = -1 ∧ Par u := by
  constructor
  · intro g
    refine ⟨by have := g 0 (by omega); simpa [upAt] using this, fun i h0 hi => ?_⟩
    have := g i hi
    unfold upAt at this
    rw [if_neg (by omega)] at this
    omega
  · rintro ⟨g1, g2⟩ i hi
    unfold upAt
    by_cases e : i = 0
    · rw [if_pos e]; exact g1
    · rw [if_neg e]
      have := g2 i (by omega) hi
      omega

/-- What makes a plan's nodes right, and its numbers. -/
structure ShR (u : List Int) : Prop extends Shp u where
  deep : deepest u ≤ 4
  kids : ∀ i : Nat, i < u.length → (kidsN u i).length ≤ 4
  devs : (devsN u).length ≤ 8
structure NumR (p : Pn) : Prop where
  q : 1 ≤ p.q ∧ p.q ≤ 8
  r : 1 ≤ p.r ∧ p.r ≤ 16
  b : 1 ≤ p.b ∧ p.b ≤ 8
  w : 1 ≤ p.w ∧ p.w ≤ 8
  c : 16 ≤ p.c ∧ p.c ≤ 256
  k : 1 ≤ p.k ∧ p.k ≤ 16
  i : 3 ≤ p.i ∧ p.i ≤ 64
  l : 2 * (deepest p.u : Int) * (p.w + 2) + 1 ≤ p.l ∧ p.l ≤ 1000
theorem right_iff {p : Pn} : Right p ↔ ShR p.u ∧ NumR p := by
  constructor
  · intro h
    exact ⟨{ toShp := h.shp, deep := deepest_le h.deep, kids := h.kids, devs := h.devs }, ⟨h.q, h.r, h.b, h.w, h.c, h.k, h.i, by have := h.l; omega, h.l.2⟩⟩
  · rintro ⟨a, b⟩
    exact { n2 := a.n2, n12 := a.n12, up0 := a.up0, par := a.par, deep := fun i hi => Nat.le_trans (deep_le hi) a.deep, kids := a.kids, devs := a.devs, q := b.q, r := b.r, b := b.b, w := b.w, c := b.c, k := b.k, i := b.i, l := ⟨by have := b.l; omega, b.l.2⟩ }
end Pln

/- The program's ways through the parents: within, isNode, depths, fans. -/
namespace Go.Proofs.Ytmmfjmhemknpgaa
open Go.RowKit Go.Deep Pln

theorem pWithin_any (n a b : Int) (bv : Bool) (hbv : bv = true ↔ a ≤ n ∧ n ≤ b) (w : World) : Calls Try.prog 20 #[.int .i64 n, .int .i64 a, .int .i64 b] w fun e w' => e = .returned (.bool bv) ∧ w' = w := by
  go_enter Try.func20, Try.ntmps20
  by_cases h1 : a ≤ n
  · by_cases h2 : n ≤ b
    · obtain rfl : bv = true := hbv.2 ⟨h1, h2⟩
      clear hbv
      go_wp2; go_ret
      exact ⟨rfl, rfl⟩
    · obtain rfl : bv = false := by cases bv with
        | false => rfl
        | true => exact absurd (hbv.1 rfl).2 h2
      clear hbv
      go_wp2; go_ret
      exact ⟨rfl, rfl⟩
  · obtain rfl : bv = false := by cases bv with
      | false => rfl
      | true => exact absurd (hbv.1 rfl).1 h1
    clear hbv
    go_wp2; go_ret
    exact ⟨rfl, rfl⟩

theorem isNode_any (x : Pnw) (n : Int) (bv : Bool) (hbv : bv = true ↔ 0 ≤ n ∧ n < x.p.u.length) (w : World) : Calls Try.prog 17 #[.agg #[.slice x.A x.p.u.length x.c, .int .i64 x.p.q, .int .i64 x.p.r, .int .i64 x.p.b, .int .i64 x.p.l, .int .i64 x.p.w, .int .i64 x.p.c, .int .i64 x.p.k, .int .i64 x.p.i], .int .i64 n] w fun e w' => e = .returned (.bool bv) ∧ Below w.heap.size w w' := by
  have hP : pnE.In (w.alloc (.cells #[.slice x.A x.p.u.length x.c, .int .i64 x.p.q, .int .i64 x.p.r, .int .i64 x.p.b, .int .i64 x.p.l, .int .i64 x.p.w, .int .i64 x.p.c, .int .i64 x.p.k, .int .i64 x.p.i] 24)) w.heap.size x := El.In.new (E := pnE) w x _ rfl
  have hB := below_alloc (Below.refl w.heap.size w) (.cells #[.slice x.A x.p.u.length x.c, .int .i64 x.p.q, .int .i64 x.p.r, .int .i64 x.p.b, .int .i64 x.p.l, .int .i64 x.p.w, .int .i64 x.p.c, .int .i64 x.p.k, .int .i64 x.p.i] 24)
  have p0 := (pnIn9 hP).1
  clear hP
  go_enter Try.func17, Try.ntmps17
  by_cases h1 : 0 ≤ n
  · by_cases h2 : n < x.p.u.length
    · obtain rfl : bv = true := hbv.2 ⟨h1, h2⟩
      clear hbv
      go_wp2; go_ret
      exact ⟨rfl, hB⟩
    · obtain rfl : bv = false := by cases bv with
        | false => rfl
        | true => exact absurd (hbv.1 rfl).2 h2
      clear hbv
      go_wp2; go_ret
      exact ⟨rfl, hB⟩
  · obtain rfl : bv = false := by cases bv with
      | false => rfl
      | true => exact absurd (hbv.1 rfl).1 h1
    clear hbv
    go_wp2; go_ret
    exact ⟨rfl, hB⟩

set_option maxRecDepth 100000 in
set_option maxHeartbeats 2000000 in
theorem depths_any (x : Pnw) (w : World) (hT : inE.Sl w x.A x.p.u) (hR : Shp x.p.u) : Calls Try.prog 19 #[.agg #[.slice x.A x.p.u.length x.c, .int .i64 x.p.q, .int .i64 x.p.r, .int .i64 x.p.b, .int .i64 x.p.l, .int .i64 x.p.w, .int .i64 x.p.c, .int .i64 x.p.k, .int .i64 x.p.i]] w fun e w' => ∃ g, e = .returned (.slice (some ⟨g, 0, none⟩) x.p.u.length x.p.u.length) ∧ inE.Sl w' (some ⟨g, 0, none⟩) (depsL x.p.u x.p.u.length) ∧ g < w'.heap.size ∧ Below w.heap.size w w' := by
  have hP : pnE.In (w.alloc (.cells #[.slice x.A x.p.u.length x.c, .int .i64 x.p.q, .int .i64 x.p.r, .int .i64 x.p.b, .int .i64 x.p.l, .int .i64 x.p.w, .int .i64 x.p.c, .int .i64 x.p.k, .int .i64 x.p.i] 24)) w.heap.size x := El.In.new (E := pnE) w x _ rfl
  have hB := below_alloc (Below.refl w.heap.size w) (.cells #[.slice x.A x.p.u.length x.c, .int .i64 x.p.q, .int .i64 x.p.r, .int .i64 x.p.b, .int .i64 x.p.l, .int .i64 x.p.w, .int .i64 x.p.c, .int .i64 x.p.k, .int .i64 x.p.i] 24)
  obtain ⟨b, off, hA, hbw, hc⟩ := hT (by have := hR.n2; omega)
  have HS := Lib.hid (fun (i : Nat) (hi : i < x.p.u.length) (wx : World) (hb : Below w.heap.size w wx) => (by
    have h2 := ((hc i hi).below hb hbw)
    rw [show inE.k = 1 from rfl, Nat.mul_one, ← getD_at hi] at h2
    exact inAt1 h2 : wx.cell? ⟨b, off + i, none⟩ = some (.int .i64 (x.p.u.getD i 0))))
  have HR := Lib.hid hR
  have HL := Lib.hid (⟨hR.n2, hR.n12⟩ : 2 ≤ x.p.u.length ∧ x.p.u.length ≤ 12)
  have HZ := Lib.hid (depsL_zero x.p.u)
  have hst := depsL_start x.p.u
  clear hT hc hR
  have hl12 := HL.out.2
  have hBs := hB.size
  have p0 := (pnIn9 hP).1
  rw [hA] at p0
  have HA := Lib.hid hA
  clear hA
  go_enter Try.func19, Try.ntmps19
  go_wp2_with (first | (at_make; refine El.wpList_make inInnT (0 : Int) inZero rfl _ _ rfl w.heap.size x.p.u.length x.p.u.length rfl rfl (by omega) (Nat.le_refl _) hBs ?_; intro w2 hO hg2 hg2s; have hP2 := hP.keep hg2 (by simp); have p02 := (pnIn9 hP2).1; rw [HA.out] at p02) | fail)
  clear p0 p02
  rw [← hst, alloc_size] at hO
  replace hB := hB.grown hg2 hB.size (fun k e => by cases e)
  obtain ⟨g, hg⟩ : ∃ g, w.heap.size + 1 = g := ⟨_, rfl⟩
  rw [hg] at hO ⊢
  obtain ⟨n1, hn1⟩ : ∃ n, w.heap.size = n := ⟨_, rfl⟩
  rw [hn1] at hP2 ⊢
  have hn1g : n1 ≠ g := by omega
  have hwn1 : w.heap.size ≤ n1 := by omega
  clear hg2 hg2s hBs hst hP hg hn1
  go_loopw [13] (fun y wr => ∃ i : Nat, i ≤ x.p.u.length ∧ y = .int .i64 i ∧ pnE.In wr n1 x ∧ inE.Own wr w.heap.size (.slice (some ⟨g, 0, none⟩) x.p.u.length x.p.u.length) (depsL x.p.u i) ∧ Below w.heap.size w wr) (fun y _ => x.p.u.length - (intOf y).toNat)
  case atStart => exact ⟨0, Nat.zero_le _, rfl, hP2, hO, hB⟩
  case round =>
    clear hP2 hO hB
    obtain ⟨i, hi, rfl, hP, hO, hB⟩ := hrel
    by_cases hil : i < x.p.u.length
    · have s0 := HS.out i hil wr hB
      by_cases h0 : i = 0
      · subst h0
        rw [HR.out.up0, Nat.add_zero] at s0
        go_wp2_with fail
        exact ⟨⟨1, by omega, by go_num, hP, by rw [HZ.out]; exact hO, hB⟩, by simp [intOf]; omega⟩
      · obtain ⟨hu0, hui⟩ := HR.out.par i (by omega) hil
        obtain ⟨j, hj⟩ : ∃ j : Nat, x.p.u.getD i 0 = j := ⟨(x.p.u.getD i 0).toNat, by omega⟩
        have HST := Lib.hid (depsL_step HR.out.par (by omega) hil hj)
        have HUP := Lib.hid (fun h => depsL_up (u := x.p.u) (i := i) (j := j) (by omega) (1 : Int) h)
        have hdj := deep_bd HR.out.par j j (Nat.le_refl _) (by omega)
        have HN := Lib.hid (fun (wx : World) => isNode_any x j true ⟨fun _ => ⟨by omega, by omega⟩, fun _ => rfl⟩ wx)
        rw [hj] at s0 hui
        have hji : j < i := by omega
        have hlc := depsL_len x.p.u i
        have hO' : inE.Own wr w.heap.size (.slice (some ⟨g, 0, none⟩) (depsL x.p.u i).length x.p.u.length) (depsL x.p.u i) := by rw [hlc]; exact hO
        obtain ⟨_, hcc, hcf, hgw⟩ := inOwn_cells hO'
        have c0 := hcc i (by rw [hlc]; exact hil)
        have cf := hcf i
        have hO2 := inOwn_put hO' i (by rw [hlc]; exact hil) 1
        have hgi := by_cellG wr g i (.int .i64 1)
        have hP2 := hP.keep hgi (fun e => hn1g (Option.some.inj e))
        have hB2 := hB.grown hgi hB.size (fun k e => by have := Option.some.inj e; have := (hO.lt g rfl).1; omega)
        obtain ⟨p0, p1, p2, p3, p4, p5, p6, p7, p8⟩ := pnIn9 hP2
        clear hj hu0 hui hO hO' hP hB hcc hcf hgi hgw
        have e1 : ((i : Int) == 0) = false := beq_eq_false_iff_ne.2 (by omega)
        have e2 : decide ((i : Int) ≤ (j : Int)) = false := decide_eq_false (by omega)
        have e3 : decide (i ≤ j) = false := decide_eq_false (by omega)
        go_wp2_with fail
        clear s0 c0 cf p0 p1 p2 p3 p4 p5 p6 p7 p8 e1 e2 e3
        refine (HN.out _).mono ?_
        rintro e w3 ⟨rfl, hb3⟩
        have hl2 : ((depsL x.p.u i).set i 1).length = x.p.u.length := by rw [List.length_set, hlc]
        replace hP := hP2.below hb3
        replace hO := hO2.below hb3
        replace hB := hB2.trans (hb3.mono hB2.size)
        rw [hlc, ← hl2] at hO
        clear hP2 hO2 hB2 hb3 HN
        obtain ⟨_, hcc, hcf, hgw⟩ := inOwn_cells hO
        have c1 := hcc i (by rw [hl2]; exact hil)
        rw [List.getElem_set_self] at c1
        have c2 := hcc j (by rw [hl2]; omega)
        rw [HUP.out] at c2
        have cf := hcf i
        have hO3 := inOwn_put hO i (by rw [hl2]; exact hil) (1 + (deepL x.p.u j : Int))
        rw [HST.out, hl2] at hO3
        generalize deepL x.p.u (j : Int) = d at *
        have hd : IntKind.i64.wrap (1 + (d : Int)) = 1 + (d : Int) := by rw [IntKind.wrap_i64]; omega
        have hgi := by_cellG w3 g i (.int .i64 (1 + (d : Int)))
        have hP3 := hP.keep hgi (fun e => hn1g (Option.some.inj e))
        have hB3 := hB.grown hgi hB.size (fun k e => by have := Option.some.inj e; have := (hO.lt g rfl).1; omega)
        clear hO hP hB hcc hcf hl2 hlc HUP HST hgi
        go_wp2_with fail
        go_region
        go_wp2_with fail
        exact ⟨⟨i + 1, by omega, by go_num, hP3, hO3, hB3.drew⟩, by simp [intOf]; omega⟩
    · obtain rfl : i = x.p.u.length := by omega
      have hS : inE.Sl wr (some ⟨g, 0, none⟩) (depsL x.p.u x.p.u.length) := by
        obtain ⟨A', c', hv, h, _⟩ := hO.sl
        injection hv with h1
        subst h1; exact h
      have hg := (hO.lt g rfl).2
      clear hO hP
      go_wp2_with fail
      go_ret
      exact ⟨g, rfl, hS, hg, hB⟩

set_option maxRecDepth 100000 in
set_option maxHeartbeats 2000000 in
theorem fans_any (x : Pnw) (w : World) (hT : inE.Sl w x.A x.p.u) (hR : Shp x.p.u) : Calls Try.prog 18 #[.agg #[.slice x.A x.p.u.length x.c, .int .i64 x.p.q, .int .i64 x.p.r, .int .i64 x.p.b, .int .i64 x.p.l, .int .i64 x.p.w, .int .i64 x.p.c, .int .i64 x.p.k, .int .i64 x.p.i]] w fun e w' => ∃ g, e = .returned (.slice (some ⟨g, 0, none⟩) x.p.u.length x.p.u.length) ∧ inE.Sl w' (some ⟨g, 0, none⟩) (fansL x.p.u x.p.u.length) ∧ g < w'.heap.size ∧ Below w.heap.size w w' := by
  have hP : pnE.In (w.alloc (.cells #[.slice x.A x.p.u.length x.c, .int .i64 x.p.q, .int .i64 x.p.r, .int .i64 x.p.b, .int .i64 x.p.l, .int .i64 x.p.w, .int .i64 x.p.c, .int .i64 x.p.k, .int .i64 x.p.i] 24)) w.heap.size x := El.In.new (E := pnE) w x _ rfl
  have hB := below_alloc (Below.refl w.heap.size w) (.cells #[.slice x.A x.p.u.length x.c, .int .i64 x.p.q, .int .i64 x.p.r, .int .i64 x.p.b, .int .i64 x.p.l, .int .i64 x.p.w, .int .i64 x.p.c, .int .i64 x.p.k, .int .i64 x.p.i] 24)
  obtain ⟨b, off, hA, hbw, hc⟩ := hT (by have := hR.n2; omega)
  have HS := Lib.hid (fun (i : Nat) (hi : i < x.p.u.length) (wx : World) (hb : Below w.heap.size w wx) => (by
    have h2 := ((hc i hi).below hb hbw)
    rw [show inE.k = 1 from rfl, Nat.mul_one, ← getD_at hi] at h2
    exact inAt1 h2 : wx.cell? ⟨b, off + i, none⟩ = some (.int .i64 (x.p.u.getD i 0))))
  have HR := Lib.hid hR
  have HL := Lib.hid (⟨hR.n2, hR.n12⟩ : 2 ≤ x.p.u.length ∧ x.p.u.length ≤ 12)
  have HZ := Lib.hid (fansL_zero x.p.u)
  have hst := fansL_start x.p.u
  clear hT hc hR
  have hl12 := HL.out.2
  have hBs := hB.size
  have p0 := (pnIn9 hP).1
  rw [hA] at p0
  have HA := Lib.hid hA
  clear hA
  go_enter Try.func18, Try.ntmps18
  go_wp2_with (first | (at_make; refine El.wpList_make inInnT (0 : Int) inZero rfl _ _ rfl w.heap.size x.p.u.length x.p.u.length rfl rfl (by omega) (Nat.le_refl _) hBs ?_; intro w2 hO hg2 hg2s; have hP2 := hP.keep hg2 (by simp); have p02 := (pnIn9 hP2).1; rw [HA.out] at p02) | fail)
  clear p0 p02
  rw [← hst, alloc_size] at hO
  replace hB := hB.grown hg2 hB.size (fun k e => by cases e)
  obtain ⟨g, hg⟩ : ∃ g, w.heap.size + 1 = g := ⟨_, rfl⟩
  rw [hg] at hO ⊢
  obtain ⟨n1, hn1⟩ : ∃ n, w.heap.size = n := ⟨_, rfl⟩
  rw [hn1] at hP2 ⊢
  have hn1g : n1 ≠ g := by omega
  have hwn1 : w.heap.size ≤ n1 := by omega
  clear hg2 hg2s hBs hst hP hg hn1
  go_loopw [13] (fun y wr => ∃ i : Nat, i ≤ x.p.u.length ∧ y = .int .i64 i ∧ pnE.In wr n1 x ∧ inE.Own wr w.heap.size (.slice (some ⟨g, 0, none⟩) x.p.u.length x.p.u.length) (fansL x.p.u i) ∧ Below w.heap.size w wr) (fun y _ => x.p.u.length - (intOf y).toNat)
  case atStart => exact ⟨0, Nat.zero_le _, rfl, hP2, hO, hB⟩
  case round =>
    clear hP2 hO hB
    obtain ⟨i, hi, rfl, hP, hO, hB⟩ := hrel
    by_cases hil : i < x.p.u.length
    · have s0 := HS.out i hil wr hB
      by_cases h0 : i = 0
      · subst h0
        rw [HR.out.up0, Nat.add_zero] at s0
        go_wp2_with fail
        exact ⟨⟨1, by omega, by go_num, hP, by rw [HZ.out]; exact hO, hB⟩, by simp [intOf]; omega⟩
      · obtain ⟨hu0, hui⟩ := HR.out.par i (by omega) hil
        obtain ⟨j, hj⟩ : ∃ j : Nat, x.p.u.getD i 0 = j := ⟨(x.p.u.getD i 0).toNat, by omega⟩
        have HST := Lib.hid (fansL_step (u := x.p.u) (i := i) (j := j) (by omega) hj)
        have hkl := kidsK_le x.p.u i (j : Int)
        have HN := Lib.hid (fun (wx : World) => isNode_any x j true ⟨fun _ => ⟨by omega, by omega⟩, fun _ => rfl⟩ wx)
        rw [hj] at s0 hui
        have hji : j < i := by omega
        have hlc := fansL_len x.p.u i
        obtain ⟨p0, p1, p2, p3, p4, p5, p6, p7, p8⟩ := pnIn9 hP
        have e1 : ((i : Int) == 0) = false := beq_eq_false_iff_ne.2 (by omega)
        have e2 : ((i : Int) != 0) = true := by simp; omega
        clear hj hu0 hui
        go_wp2_with fail
        clear s0 p0 p1 p2 p3 p4 p5 p6 p7 p8 e1 e2
        refine (HN.out _).mono ?_
        rintro e w3 ⟨rfl, hb3⟩
        replace hP := hP.below hb3
        replace hO := hO.below hb3
        replace hB := hB.trans (hb3.mono hB.size)
        rw [← hlc] at hO
        clear hb3 HN
        obtain ⟨_, hcc, hcf, hgw⟩ := inOwn_cells hO
        have c2 := hcc j (by rw [hlc]; omega)
        rw [fansL_get] at c2
        have cf := hcf j
        have hO3 := inOwn_put hO j (by rw [hlc]; omega) (((kidsK x.p.u i (j : Int)).length : Int) + 1)
        rw [HST.out, hlc] at hO3
        generalize (kidsK x.p.u i (j : Int)).length = d at *
        have hd : IntKind.i64.wrap ((d : Int) + 1) = (d : Int) + 1 := by rw [IntKind.wrap_i64]; omega
        have hgi := by_cellG w3 g j (.int .i64 ((d : Int) + 1))
        have hP3 := hP.keep hgi (fun e => hn1g (Option.some.inj e))
        have hB3 := hB.grown hgi hB.size (fun k e => by have := Option.some.inj e; have := (hO.lt g rfl).1; omega)
        clear hO hP hB hcc hcf hlc HST hgi
        go_wp2_with fail
        exact ⟨⟨i + 1, by omega, by go_num, hP3, hO3, hB3⟩, by simp [intOf]; omega⟩
    · obtain rfl : i = x.p.u.length := by omega
      have hS : inE.Sl wr (some ⟨g, 0, none⟩) (fansL x.p.u x.p.u.length) := by
        obtain ⟨A', c', hv, h, _⟩ := hO.sl
        injection hv with h1
        subst h1; exact h
      have hg := (hO.lt g rfl).2
      clear hO hP
      go_wp2_with fail
      go_ret
      exact ⟨g, rfl, hS, hg, hB⟩
end Go.Proofs.Ytmmfjmhemknpgaa

/- The program's answers of a list of parents that may be: Kids, Devices, Deep, Deepest, Kind, Below, Window. -/
namespace Go.Proofs.Ytmmfjmhemknpgaa
open Go.RowKit Go.Deep Pln

set_option maxRecDepth 100000 in
theorem pDeep_any (x : Pnw) (n : Int) (w : World) (hT : inE.Sl w x.A x.p.u) (hR : Shp x.p.u) : Calls Try.prog 10 #[.agg #[.slice x.A x.p.u.length x.c, .int .i64 x.p.q, .int .i64 x.p.r, .int .i64 x.p.b, .int .i64 x.p.l, .int .i64 x.p.w, .int .i64 x.p.c, .int .i64 x.p.k, .int .i64 x.p.i], .int .i64 n] w fun e w' => e = .returned (.int .i64 (deepL x.p.u n)) ∧ Below w.heap.size w w' := by
  have hP : pnE.In (w.alloc (.cells #[.slice x.A x.p.u.length x.c, .int .i64 x.p.q, .int .i64 x.p.r, .int .i64 x.p.b, .int .i64 x.p.l, .int .i64 x.p.w, .int .i64 x.p.c, .int .i64 x.p.k, .int .i64 x.p.i] 24)) w.heap.size x := El.In.new (E := pnE) w x _ rfl
  have hB := below_alloc (Below.refl w.heap.size w) (.cells #[.slice x.A x.p.u.length x.c, .int .i64 x.p.q, .int .i64 x.p.r, .int .i64 x.p.b, .int .i64 x.p.l, .int .i64 x.p.w, .int .i64 x.p.c, .int .i64 x.p.k, .int .i64 x.p.i] 24)
  obtain ⟨p0, p1, p2, p3, p4, p5, p6, p7, p8⟩ := pnIn9 hP
  by_cases hn : 0 ≤ n ∧ n < x.p.u.length
  · have HN := Lib.hid (fun (wx : World) => isNode_any x n true ⟨fun _ => hn, fun _ => rfl⟩ wx)
    obtain ⟨j, rfl⟩ : ∃ j : Nat, n = j := ⟨n.toNat, by omega⟩
    have hjl : j < x.p.u.length := by omega
    clear hn
    go_enter Try.func10, Try.ntmps10
    go_wp2_with fail
    clear p0 p1 p2 p3 p4 p5 p6 p7 p8
    refine (HN.out _).mono ?_
    rintro e w1 ⟨rfl, hb1⟩
    replace hP := hP.below hb1
    replace hB := hB.trans (hb1.mono hB.size)
    clear hb1
    obtain ⟨p0, p1, p2, p3, p4, p5, p6, p7, p8⟩ := pnIn9 hP
    go_wp2_with fail
    clear p0 p1 p2 p3 p4 p5 p6 p7 p8
    refine (depths_any x _ (hT.below hB) hR).mono ?_
    rintro e w2 ⟨g, rfl, hS, _, hb2⟩
    have hlc := depsL_len x.p.u x.p.u.length
    have c0 := slCell0 hS j (by rw [hlc]; exact hjl)
    rw [depsL_all hjl] at c0
    clear hlc
    go_wp2_with fail
    go_ret
    exact ⟨rfl, hB.trans (hb2.mono hB.size)⟩
  · have HN := Lib.hid (fun (wx : World) => isNode_any x n false ⟨fun h => (by cases h), fun h => absurd h hn⟩ wx)
    have hd : deepL x.p.u n = 0 := by
      unfold deepL
      obtain ⟨f, hf⟩ : ∃ f, x.p.u.length = f + 1 := ⟨x.p.u.length - 1, by have := hR.n2; omega⟩
      rw [hf]
      unfold deepF
      rw [if_neg (by omega)]
    rw [hd]
    clear hd hn
    go_enter Try.func10, Try.ntmps10
    go_wp2_with fail
    refine (HN.out _).mono ?_
    rintro e w1 ⟨rfl, hb1⟩
    clear p0 p1 p2 p3 p4 p5 p6 p7 p8
    go_wp2_with fail
    go_ret
    exact ⟨rfl, hB.trans (hb1.mono hB.size)⟩

set_option maxRecDepth 100000 in
theorem pKind_any (x : Pnw) (n : Int) (w : World) (hT : inE.Sl w x.A x.p.u) (hR : Shp x.p.u) : Calls Try.prog 8 #[.agg #[.slice x.A x.p.u.length x.c, .int .i64 x.p.q, .int .i64 x.p.r, .int .i64 x.p.b, .int .i64 x.p.l, .int .i64 x.p.w, .int .i64 x.p.c, .int .i64 x.p.k, .int .i64 x.p.i], .int .i64 n] w fun e w' => e = .returned (.int .i64 (kindL x.p.u n)) ∧ Below w.heap.size w w' := by
  have hP : pnE.In (w.alloc (.cells #[.slice x.A x.p.u.length x.c, .int .i64 x.p.q, .int .i64 x.p.r, .int .i64 x.p.b, .int .i64 x.p.l, .int .i64 x.p.w, .int .i64 x.p.c, .int .i64 x.p.k, .int .i64 x.p.i] 24)) w.heap.size x := El.In.new (E := pnE) w x _ rfl
  have hB := below_alloc (Below.refl w.heap.size w) (.cells #[.slice x.A x.p.u.length x.c, .int .i64 x.p.q, .int .i64 x.p.r, .int .i64 x.p.b, .int .i64 x.p.l, .int .i64 x.p.w, .int .i64 x.p.c, .int .i64 x.p.k, .int .i64 x.p.i] 24)
  obtain ⟨p0, p1, p2, p3, p4, p5, p6, p7, p8⟩ := pnIn9 hP
  by_cases hn : 0 ≤ n ∧ n < x.p.u.length
  · have HN := Lib.hid (fun (wx : World) => isNode_any x n true ⟨fun _ => hn, fun _ => rfl⟩ wx)
    obtain ⟨j, rfl⟩ : ∃ j : Nat, n = j := ⟨n.toNat, by omega⟩
    have hjl : j < x.p.u.length := by omega
    clear hn
    by_cases h0 : j = 0
    · subst h0
      rw [show kindL x.p.u ((0 : Nat) : Int) = 1 from kind_root hjl]
      go_enter Try.func8, Try.ntmps8
      go_wp2_with fail
      refine (HN.out _).mono ?_
      rintro e w1 ⟨rfl, hb1⟩
      clear p0 p1 p2 p3 p4 p5 p6 p7 p8
      go_wp2_with fail
      go_ret
      exact ⟨rfl, hB.trans (hb1.mono hB.size)⟩
    · obtain ⟨kv, hkv⟩ : ∃ kv, kindL x.p.u (j : Int) = kv := ⟨_, rfl⟩
      rw [hkv]
      rw [kind_of (by omega) hjl] at hkv
      have HV := Lib.hid hkv
      clear hkv
      go_enter Try.func8, Try.ntmps8
      go_wp2_with fail
      clear p0 p1 p2 p3 p4 p5 p6 p7 p8
      refine (HN.out _).mono ?_
      rintro e w1 ⟨rfl, hb1⟩
      replace hP := hP.below hb1
      replace hB := hB.trans (hb1.mono hB.size)
      clear hb1
      obtain ⟨p0, p1, p2, p3, p4, p5, p6, p7, p8⟩ := pnIn9 hP
      have e1 : ((j : Int) == 0) = false := beq_eq_false_iff_ne.2 (by omega)
      go_wp2_with fail
      clear p0 p1 p2 p3 p4 p5 p6 p7 p8
      refine (fans_any x _ (hT.below hB) hR).mono ?_
      rintro e w2 ⟨g, rfl, hS, _, hb2⟩
      replace hB := hB.trans (hb2.mono hB.size)
      have hlc := fansL_len x.p.u x.p.u.length
      have c0 := slCell0 hS j (by rw [hlc]; exact hjl)
      rw [fansL_all] at c0
      clear hlc hS hb2
      generalize (kidsN x.p.u (j : Int)).length = d at *
      by_cases hd : d = 0
      · subst hd
        obtain rfl : (3 : Int) = kv := HV.out
        clear HV
        go_wp2_with fail
        go_ret
        exact ⟨rfl, hB⟩
      · obtain rfl : (2 : Int) = kv := by rw [← HV.out, if_neg hd]
        clear HV
        have e2 : ((d : Int) == 0) = false := beq_eq_false_iff_ne.2 (by omega)
        go_wp2_with fail
        go_ret
        exact ⟨rfl, hB⟩
  · have HN := Lib.hid (fun (wx : World) => isNode_any x n false ⟨fun h => (by cases h), fun h => absurd h hn⟩ wx)
    have hd : kindL x.p.u n = 0 := by
      unfold kindL
      rw [if_pos (by omega)]
    rw [hd]
    clear hd hn
    go_enter Try.func8, Try.ntmps8
    go_wp2_with fail
    refine (HN.out _).mono ?_
    rintro e w1 ⟨rfl, hb1⟩
    clear p0 p1 p2 p3 p4 p5 p6 p7 p8
    go_wp2_with fail
    go_ret
    exact ⟨rfl, hB.trans (hb1.mono hB.size)⟩

set_option maxRecDepth 100000 in
set_option maxHeartbeats 2000000 in
theorem pDeepest_any (x : Pnw) (w : World) (hT : inE.Sl w x.A x.p.u) (hR : Shp x.p.u) : Calls Try.prog 11 #[.agg #[.slice x.A x.p.u.length x.c, .int .i64 x.p.q, .int .i64 x.p.r, .int .i64 x.p.b, .int .i64 x.p.l, .int .i64 x.p.w, .int .i64 x.p.c, .int .i64 x.p.k, .int .i64 x.p.i]] w fun e w' => e = .returned (.int .i64 (deepest x.p.u)) ∧ Below w.heap.size w w' := by
  have hP : pnE.In (w.alloc (.cells #[.slice x.A x.p.u.length x.c, .int .i64 x.p.q, .int .i64 x.p.r, .int .i64 x.p.b, .int .i64 x.p.l, .int .i64 x.p.w, .int .i64 x.p.c, .int .i64 x.p.k, .int .i64 x.p.i] 24)) w.heap.size x := El.In.new (E := pnE) w x _ rfl
  have hB := below_alloc (Below.refl w.heap.size w) (.cells #[.slice x.A x.p.u.length x.c, .int .i64 x.p.q, .int .i64 x.p.r, .int .i64 x.p.b, .int .i64 x.p.l, .int .i64 x.p.w, .int .i64 x.p.c, .int .i64 x.p.k, .int .i64 x.p.i] 24)
  obtain ⟨p0, p1, p2, p3, p4, p5, p6, p7, p8⟩ := pnIn9 hP
  go_enter Try.func11, Try.ntmps11
  go_wp2_with fail
  clear p0 p1 p2 p3 p4 p5 p6 p7 p8
  refine (depths_any x _ (hT.below hB) hR).mono ?_
  rintro e w2 ⟨g, rfl, hS, hg, hb2⟩
  replace hB := hB.trans (hb2.mono hB.size)
  clear hb2
  clear hP hg
  have hl12 := hR.n12
  go_wp2_with fail
  go_loopw [3, 9] (fun m y wr => ∃ i : Nat, i ≤ x.p.u.length ∧ y = .int .i64 i ∧ m = .int .i64 (deepK x.p.u i) ∧ inE.Sl wr (some ⟨g, 0, none⟩) (depsL x.p.u x.p.u.length) ∧ Below w.heap.size w wr) (fun _ y _ => x.p.u.length - (intOf y).toNat)
  case atStart => exact ⟨0, Nat.zero_le _, rfl, rfl, hS, hB⟩
  case round =>
    clear hS hB
    obtain ⟨i, hi, rfl, rfl, hS, hB⟩ := hrel
    by_cases hil : i < x.p.u.length
    · have c0 := slCell0 hS i (by rw [depsL_len]; exact hil)
      rw [depsL_all hil] at c0
      have hk := Lib.hid (deepK_next x.p.u i)
      generalize deepK x.p.u i = m at *
      generalize deepL x.p.u (i : Int) = d at *
      rcases Nat.lt_or_ge m d with hmd | hmd
      · go_wp2_with fail
        exact ⟨⟨i + 1, by omega, by go_num, by rw [hk.out, Nat.max_eq_right (by omega)], hS, hB⟩, by simp [intOf]; omega⟩
      · go_wp2_with fail
        exact ⟨⟨i + 1, by omega, by go_num, by rw [hk.out, Nat.max_eq_left (by omega)], hS, hB⟩, by simp [intOf]; omega⟩
    · obtain rfl : i = x.p.u.length := by omega
      go_wp2_with fail
      go_ret
      exact ⟨rfl, hB⟩

set_option maxRecDepth 100000 in
set_option maxHeartbeats 2000000 in
theorem pKids_any (x : Pnw) (n : Int) (w : World) (hT : inE.Sl w x.A x.p.u) (hR : Shp x.p.u) : Calls Try.prog 7 #[.agg #[.slice x.A x.p.u.length x.c, .int .i64 x.p.q, .int .i64 x.p.r, .int .i64 x.p.b, .int .i64 x.p.l, .int .i64 x.p.w, .int .i64 x.p.c, .int .i64 x.p.k, .int .i64 x.p.i], .int .i64 n] w fun e w' => ∃ A' c', e = .returned (.slice A' (kidsN x.p.u n).length c') ∧ (inE.Sl w' A' (ints (kidsN x.p.u n)) ∧ ∀ a, A' = some a → w.heap.size ≤ a.block) ∧ Below w.heap.size w w' := by
  obtain ⟨A, c, p⟩ := x
  dsimp only at hT hR ⊢
  obtain ⟨b, off, rfl, hbw, hc⟩ := hT (by have := hR.n2; omega)
  have hP : pnE.In (w.alloc (.cells #[.slice (some ⟨b, off, none⟩) p.u.length c, .int .i64 p.q, .int .i64 p.r, .int .i64 p.b, .int .i64 p.l, .int .i64 p.w, .int .i64 p.c, .int .i64 p.k, .int .i64 p.i] 24)) w.heap.size ⟨some ⟨b, off, none⟩, c, p⟩ := El.In.new (E := pnE) w ⟨some ⟨b, off, none⟩, c, p⟩ _ rfl
  have hB := below_alloc (Below.refl w.heap.size w) (.cells #[.slice (some ⟨b, off, none⟩) p.u.length c, .int .i64 p.q, .int .i64 p.r, .int .i64 p.b, .int .i64 p.l, .int .i64 p.w, .int .i64 p.c, .int .i64 p.k, .int .i64 p.i] 24)
  have HS := Lib.hid (fun (i : Nat) (hi : i < p.u.length) (wx : World) (hb : Below w.heap.size w wx) => (by
    have h2 := ((hc i hi).below hb hbw)
    rw [show inE.k = 1 from rfl, Nat.mul_one, ← getD_at hi] at h2
    exact inAt1 h2 : wx.cell? ⟨b, off + i, none⟩ = some (.int .i64 (p.u.getD i 0))))
  have hl12 := hR.n12
  have p0 := (pnIn9 hP).1
  dsimp only at p0
  clear hT hc hR hP
  go_enter Try.func7, Try.ntmps7
  go_wp2_with fail
  clear p0
  go_loopw [5, 11] (fun v y wr => ∃ (i : Nat) (v1 : Value), i ≤ p.u.length ∧ y = .int .i64 i ∧ v = v1 ∧ inE.Own wr w.heap.size v1 (ints (kidsK p.u i n)) ∧ Below w.heap.size w wr) (fun _ y _ => p.u.length - (intOf y).toNat)
  case atStart => exact ⟨0, _, Nat.zero_le _, rfl, rfl, El.Own.nil _ w.heap.size, hB⟩
  case round =>
    clear hB
    obtain ⟨i, v1, hi, rfl, rfl, hO, hB⟩ := hrel
    by_cases hil : i < p.u.length
    · have s0 := HS.out i hil wr hB
      have hle := kidsK_le p.u i n
      by_cases h0 : 0 < i ∧ p.u.getD i 0 = n
      · obtain ⟨h1, h2⟩ := h0
        have HK := Lib.hid (kidsK_yes h1 h2)
        rw [h2] at s0
        have e1 : ((i : Int) != 0) = true := by simp; omega
        have e2 : ((i : Int) == 0) = false := beq_eq_false_iff_ne.2 (by omega)
        have e3 : (n == n) = true := beq_self_eq_true n
        have hal := below_alloc (Below.refl wr.heap.size wr) (.cells #[.int .i64 i] 3)
        have hO2 := hO.below hal
        have hE : inE.Sl (wr.alloc (.cells #[.int .i64 i] 3)) (some ⟨wr.heap.size, 0, none⟩) [(i : Int)] := El.Sl.row (E := inE) wr [(i : Int)] #[.int .i64 i] rfl
        have hB2 := hB.trans (hal.mono hB.size)
        have hli : (ints (kidsK p.u i n)).length ≤ 12 := by rw [ints_len]; omega
        have HL1 := Lib.hid hli
        clear h2 hO hal hB hle hli
        go_wp2_with (first | (at_builtin; refine El.wpList_app inInnT rfl _ _ rfl w.heap.size u5 (ints (kidsK p.u i n)) [(i : Int)] rfl hO2 (some ⟨wr.heap.size, 0, none⟩) 1 1 rfl rfl hE (fun e => by cases e) (by have := HL1.out; rw [List.length_singleton]; omega) hB2.size ?_; intro v3 w3 hO3 hg3 _; have hB3 := hB2.grown hg3 hB2.size (fun k e => (hO2.lt k e).1); clear hO2 hB2 hE hg3) | fail)
        exact ⟨⟨i + 1, v3, by omega, by go_num, rfl, by rw [HK.out]; unfold ints at hO3 ⊢; rw [List.map_append]; exact hO3, hB3⟩, by simp [intOf]; omega⟩
      · have HK := Lib.hid (kidsK_no h0)
        by_cases h1 : i = 0
        · subst h1
          rw [Nat.add_zero] at s0
          go_wp2_with fail
          exact ⟨⟨1, _, by omega, by go_num, rfl, by rw [HK.out]; exact hO, hB⟩, by simp [intOf]; omega⟩
        · have e1 : ((i : Int) != 0) = true := by simp; omega
          have e2 : ((i : Int) == 0) = false := beq_eq_false_iff_ne.2 (by omega)
          have e3 : (p.u.getD i 0 == n) = false := beq_eq_false_iff_ne.2 (fun h => h0 ⟨by omega, h⟩)
          generalize p.u.getD i 0 = up at *
          clear h0
          go_wp2_with fail
          exact ⟨⟨i + 1, _, by omega, by go_num, rfl, by rw [HK.out]; exact hO, hB⟩, by simp [intOf]; omega⟩
    · obtain rfl : i = p.u.length := by omega
      rw [kidsK_all] at hO
      have hfr := hO.rows
      obtain ⟨A', c', hv, hS, _⟩ := hO.sl
      rw [ints_len] at hv
      subst hv
      clear hO
      go_wp2_with fail
      go_ret
      exact ⟨A', c', rfl, ⟨hS, fun a e => by subst e; exact hfr _ rfl⟩, hB⟩

set_option maxRecDepth 100000 in
set_option maxHeartbeats 2000000 in
theorem pDevs_any (x : Pnw) (w : World) (hT : inE.Sl w x.A x.p.u) (hR : Shp x.p.u) : Calls Try.prog 12 #[.agg #[.slice x.A x.p.u.length x.c, .int .i64 x.p.q, .int .i64 x.p.r, .int .i64 x.p.b, .int .i64 x.p.l, .int .i64 x.p.w, .int .i64 x.p.c, .int .i64 x.p.k, .int .i64 x.p.i]] w fun e w' => ∃ A' c', e = .returned (.slice A' (devsN x.p.u).length c') ∧ inE.Sl w' A' (ints (devsN x.p.u)) ∧ Below w.heap.size w w' := by
  have hP : pnE.In (w.alloc (.cells #[.slice x.A x.p.u.length x.c, .int .i64 x.p.q, .int .i64 x.p.r, .int .i64 x.p.b, .int .i64 x.p.l, .int .i64 x.p.w, .int .i64 x.p.c, .int .i64 x.p.k, .int .i64 x.p.i] 24)) w.heap.size x := El.In.new (E := pnE) w x _ rfl
  have hB := below_alloc (Below.refl w.heap.size w) (.cells #[.slice x.A x.p.u.length x.c, .int .i64 x.p.q, .int .i64 x.p.r, .int .i64 x.p.b, .int .i64 x.p.l, .int .i64 x.p.w, .int .i64 x.p.c, .int .i64 x.p.k, .int .i64 x.p.i] 24)
  obtain ⟨p0, p1, p2, p3, p4, p5, p6, p7, p8⟩ := pnIn9 hP
  have hl12 := hR.n12
  go_enter Try.func12, Try.ntmps12
  go_wp2_with fail
  clear p0 p1 p2 p3 p4 p5 p6 p7 p8 hP
  refine (fans_any x _ (hT.below hB) hR).mono ?_
  rintro e w2 ⟨g, rfl, hS, hg, hb2⟩
  replace hB := hB.trans (hb2.mono hB.size)
  obtain ⟨B2, hB2⟩ : ∃ B2, w2.heap.size = B2 := ⟨_, rfl⟩
  rw [hB2] at hg
  have hwB : w.heap.size ≤ B2 := by have := hB.size; omega
  have hBw : B2 ≤ w2.heap.size := by omega
  have hnil := El.Own.nil (E := inE) w2 B2
  clear hb2 hB2 hT hR
  go_wp2_with fail
  go_loopw [3, 9] (fun v y wr => ∃ (i : Nat) (v1 : Value), i ≤ x.p.u.length ∧ y = .int .i64 i ∧ v = v1 ∧ inE.Own wr B2 v1 (ints (devsK x.p.u i)) ∧ inE.Sl wr (some ⟨g, 0, none⟩) (fansL x.p.u x.p.u.length) ∧ B2 ≤ wr.heap.size ∧ Below w.heap.size w wr) (fun _ y _ => x.p.u.length - (intOf y).toNat)
  case atStart => exact ⟨0, _, Nat.zero_le _, rfl, rfl, hnil, hS, hBw, hB⟩
  case round =>
    clear hnil hS hBw hB
    obtain ⟨i, v1, hi, rfl, rfl, hO, hS, hBw, hB⟩ := hrel
    by_cases hil : i < x.p.u.length
    · have s0 := slCell0 hS i (by rw [fansL_len]; exact hil)
      rw [fansL_all] at s0
      have hle := devsK_le x.p.u i
      by_cases h0 : 0 < i ∧ (kidsN x.p.u i).length = 0
      · obtain ⟨h1, h2⟩ := h0
        have HK := Lib.hid (devsK_yes h1 hil h2)
        rw [h2] at s0
        have e1 : ((i : Int) != 0) = true := by simp; omega
        have e2 : ((i : Int) == 0) = false := beq_eq_false_iff_ne.2 (by omega)
        have hal := below_alloc (Below.refl wr.heap.size wr) (.cells #[.int .i64 i] 3)
        have hO2 := hO.below hal
        have hS2 := hS.below hal
        have hE : inE.Sl (wr.alloc (.cells #[.int .i64 i] 3)) (some ⟨wr.heap.size, 0, none⟩) [(i : Int)] := El.Sl.row (E := inE) wr [(i : Int)] #[.int .i64 i] rfl
        have hBw2 := Nat.le_trans hBw hal.size
        have hB2 := hB.trans (hal.mono hB.size)
        have hli : (ints (devsK x.p.u i)).length ≤ 12 := by rw [ints_len]; omega
        have HL1 := Lib.hid hli
        clear h2 hO hal hB hle hli hS hBw
        go_wp2_with (first | (at_builtin; refine El.wpList_app inInnT rfl _ _ rfl B2 u3 (ints (devsK x.p.u i)) [(i : Int)] rfl hO2 (some ⟨wr.heap.size, 0, none⟩) 1 1 rfl rfl hE (fun e => by cases e) (by have := HL1.out; rw [List.length_singleton]; omega) hBw2 ?_; intro v3 w3 hO3 hg3 _; have hB3 := hB2.grown hg3 hB2.size (fun k e => Nat.le_trans hwB (hO2.lt k e).1); have hS3 := hS2.keep1 hg3 (fun e => by have := (hO2.lt g e.symm).1; omega); have hBw3 := Nat.le_trans hBw2 hg3.size; clear hO2 hB2 hE hg3 hS2 hBw2) | fail)
        exact ⟨⟨i + 1, v3, by omega, by go_num, rfl, by rw [HK.out]; unfold ints at hO3 ⊢; rw [List.map_append]; exact hO3, hS3, hBw3, hB3⟩, by simp [intOf]; omega⟩
      · have HK := Lib.hid (devsK_no hil h0)
        by_cases h1 : i = 0
        · subst h1
          go_wp2_with fail
          exact ⟨⟨1, _, by omega, by go_num, rfl, by rw [HK.out]; exact hO, hS, hBw, hB⟩, by simp [intOf]; omega⟩
        · have e1 : ((i : Int) != 0) = true := by simp; omega
          have e2 : ((i : Int) == 0) = false := beq_eq_false_iff_ne.2 (by omega)
          have e3 : ((((kidsN x.p.u i).length : Nat) : Int) == 0) = false := beq_eq_false_iff_ne.2 (fun h => h0 ⟨by omega, by omega⟩)
          generalize (kidsN x.p.u i).length = d at *
          clear h0
          go_wp2_with fail
          exact ⟨⟨i + 1, _, by omega, by go_num, rfl, by rw [HK.out]; exact hO, hS, hBw, hB⟩, by simp [intOf]; omega⟩
    · obtain rfl : i = x.p.u.length := by omega
      rw [devsK_all] at hO
      obtain ⟨A', c', hv, hS2, _⟩ := hO.sl
      rw [ints_len] at hv
      subst hv
      clear hO hS
      go_wp2_with fail
      go_ret
      exact ⟨A', c', rfl, hS2, hB⟩

set_option maxRecDepth 100000 in
set_option maxHeartbeats 2000000 in
theorem pBelow_any (x : Pnw) (n top : Int) (w : World) (hT : inE.Sl w x.A x.p.u) (hR : Shp x.p.u) : Calls Try.prog 9 #[.agg #[.slice x.A x.p.u.length x.c, .int .i64 x.p.q, .int .i64 x.p.r, .int .i64 x.p.b, .int .i64 x.p.l, .int .i64 x.p.w, .int .i64 x.p.c, .int .i64 x.p.k, .int .i64 x.p.i], .int .i64 n, .int .i64 top] w fun e w' => e = .returned (.bool (belowU x.p.u n top)) ∧ Below w.heap.size w w' := by
  obtain ⟨A, c, p⟩ := x
  dsimp only at hT hR ⊢
  obtain ⟨b, off, rfl, hbw, hc⟩ := hT (by have := hR.n2; omega)
  have hP : pnE.In (w.alloc (.cells #[.slice (some ⟨b, off, none⟩) p.u.length c, .int .i64 p.q, .int .i64 p.r, .int .i64 p.b, .int .i64 p.l, .int .i64 p.w, .int .i64 p.c, .int .i64 p.k, .int .i64 p.i] 24)) w.heap.size ⟨some ⟨b, off, none⟩, c, p⟩ := El.In.new (E := pnE) w ⟨some ⟨b, off, none⟩, c, p⟩ _ rfl
  have hB := below_alloc (Below.refl w.heap.size w) (.cells #[.slice (some ⟨b, off, none⟩) p.u.length c, .int .i64 p.q, .int .i64 p.r, .int .i64 p.b, .int .i64 p.l, .int .i64 p.w, .int .i64 p.c, .int .i64 p.k, .int .i64 p.i] 24)
  have HS := Lib.hid (fun (i : Nat) (hi : i < p.u.length) (wx : World) (hb : Below w.heap.size w wx) => (by
    have h2 := ((hc i hi).below hb hbw)
    rw [show inE.k = 1 from rfl, Nat.mul_one, ← getD_at hi] at h2
    exact inAt1 h2 : wx.cell? ⟨b, off + i, none⟩ = some (.int .i64 (p.u.getD i 0))))
  have HN := Lib.hid (fun (m : Int) (bv : Bool) (h : bv = true ↔ 0 ≤ m ∧ m < p.u.length) (wx : World) => (by
    have h2 := isNode_any ⟨some ⟨b, off, none⟩, c, p⟩ m bv h wx
    dsimp only at h2
    exact h2 : Calls Try.prog 17 #[.agg #[.slice (some ⟨b, off, none⟩) p.u.length c, .int .i64 p.q, .int .i64 p.r, .int .i64 p.b, .int .i64 p.l, .int .i64 p.w, .int .i64 p.c, .int .i64 p.k, .int .i64 p.i], .int .i64 m] wx fun e w' => e = .returned (.bool bv) ∧ Below wx.heap.size wx w'))
  have HR := Lib.hid hR
  obtain ⟨bb, hbb⟩ : ∃ bb, belowU p.u n top = bb := ⟨_, rfl⟩
  rw [hbb]
  have HBB := Lib.hid hbb
  have hl12 := hR.n12
  clear hT hc hR hbb
  go_enter Try.func9, Try.ntmps9
  go_wp2_with fail
  generalize w.alloc (.cells #[.slice (some ⟨b, off, none⟩) p.u.length c, .int .i64 p.q, .int .i64 p.r, .int .i64 p.b, .int .i64 p.l, .int .i64 p.w, .int .i64 p.c, .int .i64 p.k, .int .i64 p.i] 24) = W0 at *
  obtain ⟨n1, hn1⟩ : ∃ n1, w.heap.size = n1 := ⟨_, rfl⟩
  rw [hn1] at hP ⊢
  clear hn1
  go_loopw [1] (fun y wr => ∃ m : Int, y = .int .i64 m ∧ Hid (belowU p.u m top = bb) ∧ pnE.In wr n1 ⟨some ⟨b, off, none⟩, c, p⟩ ∧ Below w.heap.size w wr) (fun y _ => (intOf y + 1).toNat)
  case atStart => exact ⟨n, rfl, HBB, hP, hB⟩
  case round =>
    clear hP hB HBB
    obtain ⟨m, rfl, HBB, hP, hB⟩ := hrel
    obtain ⟨p0, p1, p2, p3, p4, p5, p6, p7, p8⟩ := pnIn9 hP
    dsimp only at p0 p1 p2 p3 p4 p5 p6 p7 p8
    by_cases hm : 0 ≤ m ∧ m < p.u.length
    · have hN := Lib.hid (HN.out m true ⟨fun _ => hm, fun _ => rfl⟩)
      obtain ⟨j, rfl⟩ : ∃ j : Nat, m = j := ⟨m.toNat, by omega⟩
      have hjl : j < p.u.length := by omega
      clear hm
      go_wp2_with fail
      clear p0 p1 p2 p3 p4 p5 p6 p7 p8
      refine (hN.out _).mono ?_
      rintro e w1 ⟨rfl, hb1⟩
      replace hP := hP.below hb1
      replace hB := hB.trans (hb1.mono hB.size)
      clear hb1 hN
      by_cases ht : (j : Int) = top
      · subst ht
        obtain rfl : true = bb := by rw [← HBB.out, below_at (by omega)]
        have e1 : ((j : Int) == (j : Int)) = true := beq_self_eq_true _
        go_wp2_with fail
        go_ret
        exact ⟨rfl, hB⟩
      · have e1 : ((j : Int) == top) = false := beq_eq_false_iff_ne.2 ht
        have HB2 := Lib.hid (below_next HR.out hjl ht)
        have s0 := HS.out j hjl w1 hB
        obtain ⟨hu1, hu2⟩ := up_lt HR.out hjl
        generalize p.u.getD j 0 = up at *
        obtain ⟨p0, p1, p2, p3, p4, p5, p6, p7, p8⟩ := pnIn9 hP
        dsimp only at p0 p1 p2 p3 p4 p5 p6 p7 p8
        have e2 : decide ((j : Int) ≤ up) = false := decide_eq_false (by omega)
        go_wp2_with fail
        exact ⟨⟨up, rfl, Lib.hid (by rw [← HB2.out]; exact HBB.out), hP, hB⟩, by simp [intOf]; omega⟩
    · have hN := Lib.hid (HN.out m false ⟨fun h => (by cases h), fun h => absurd h hm⟩)
      obtain rfl : false = bb := by rw [← HBB.out, below_neg hm]
      clear hm
      go_wp2_with fail
      clear p0 p1 p2 p3 p4 p5 p6 p7 p8
      refine (hN.out _).mono ?_
      rintro e w1 ⟨rfl, hb1⟩
      replace hB := hB.trans (hb1.mono hB.size)
      go_wp2_with fail
      go_ret
      exact ⟨rfl, hB⟩

set_option maxRecDepth 100000 in
set_option maxHeartbeats 2000000 in
theorem pWindow_any (x : Pnw) (w : World) (hT : inE.Sl w x.A x.p.u) (hR : Shp x.p.u) (hq : 1 ≤ x.p.q ∧ x.p.q ≤ 8) : Calls Try.prog 13 #[.agg #[.slice x.A x.p.u.length x.c, .int .i64 x.p.q, .int .i64 x.p.r, .int .i64 x.p.b, .int .i64 x.p.l, .int .i64 x.p.w, .int .i64 x.p.c, .int .i64 x.p.k, .int .i64 x.p.i]] w fun e w' => e = .returned (.int .i64 ((x.p.q + 2) * (devsN x.p.u).length)) ∧ Below w.heap.size w w' := by
  have hP : pnE.In (w.alloc (.cells #[.slice x.A x.p.u.length x.c, .int .i64 x.p.q, .int .i64 x.p.r, .int .i64 x.p.b, .int .i64 x.p.l, .int .i64 x.p.w, .int .i64 x.p.c, .int .i64 x.p.k, .int .i64 x.p.i] 24)) w.heap.size x := El.In.new (E := pnE) w x _ rfl
  have hB := below_alloc (Below.refl w.heap.size w) (.cells #[.slice x.A x.p.u.length x.c, .int .i64 x.p.q, .int .i64 x.p.r, .int .i64 x.p.b, .int .i64 x.p.l, .int .i64 x.p.w, .int .i64 x.p.c, .int .i64 x.p.k, .int .i64 x.p.i] 24)
  have HDV := Lib.hid (fun (wx : World) (hb : Below w.heap.size w wx) => pDevs_any x wx (hT.below hb) hR)
  have hd : (devsN x.p.u).length ≤ 12 := by
    have := devsK_le x.p.u x.p.u.length
    rw [devsK_all] at this
    have := hR.n12
    omega
  obtain ⟨p0, p1, p2, p3, p4, p5, p6, p7, p8⟩ := pnIn9 hP
  generalize devsN x.p.u = dl at *
  have hs1 : IntKind.i64.wrap (x.p.q + 2) = x.p.q + 2 := by rw [IntKind.wrap_i64]; omega
  have hs2 : IntKind.i64.wrap ((x.p.q + 2) * (dl.length : Int)) = (x.p.q + 2) * (dl.length : Int) := by
    have h1 : (x.p.q + 2) * (dl.length : Int) ≤ 10 * (dl.length : Int) := Int.mul_le_mul_of_nonneg_right (by omega) (by omega)
    have h2 : 0 ≤ (x.p.q + 2) * (dl.length : Int) := Int.mul_nonneg (by omega) (by omega)
    rw [IntKind.wrap_i64]; omega
  clear hT hR
  go_enter Try.func13, Try.ntmps13
  go_wp2_with fail
  clear p0 p1 p2 p3 p4 p5 p6 p7 p8
  generalize w.alloc (.cells #[.slice x.A x.p.u.length x.c, .int .i64 x.p.q, .int .i64 x.p.r, .int .i64 x.p.b, .int .i64 x.p.l, .int .i64 x.p.w, .int .i64 x.p.c, .int .i64 x.p.k, .int .i64 x.p.i] 24) = W0 at *
  obtain ⟨n1, hn1⟩ : ∃ n, w.heap.size = n := ⟨_, rfl⟩
  rw [hn1] at hP ⊢
  clear hn1
  replace hP : pnE.In W0.drew n1 x := hP
  replace hB := hB.drew
  go_region_held3 (fun w' => (w'.cell? ⟨n1, 0, none⟩ = some (.slice x.A x.p.u.length x.c) ∧ w'.cell? ⟨n1, 1, none⟩ = some (.int .i64 x.p.q) ∧ w'.cell? ⟨n1, 2, none⟩ = some (.int .i64 x.p.r) ∧ w'.cell? ⟨n1, 3, none⟩ = some (.int .i64 x.p.b) ∧ w'.cell? ⟨n1, 4, none⟩ = some (.int .i64 x.p.l) ∧ w'.cell? ⟨n1, 5, none⟩ = some (.int .i64 x.p.w) ∧ w'.cell? ⟨n1, 6, none⟩ = some (.int .i64 x.p.c) ∧ w'.cell? ⟨n1, 7, none⟩ = some (.int .i64 x.p.k) ∧ w'.cell? ⟨n1, 8, none⟩ = some (.int .i64 x.p.i))) (with_reducible exact pnIn9 hP) (first | (go_at_call 12; (with_reducible refine (HDV.out _ hB).mono ?_); rintro e w4 ⟨A9, c9, rfl, _, hb4⟩; have hP := hP.below hb4; have hB := hB.trans (hb4.mono hB.size)))
  go_wp2_with fail
  go_ret
  exact ⟨rfl, hB⟩
end Go.Proofs.Ytmmfjmhemknpgaa

/- The program's Right: whether a plan may be. -/
namespace Go.Proofs.Ytmmfjmhemknpgaa
open Go.RowKit Go.Deep Pln

theorem bool_iff {b : Bool} {P Q : Prop} (h : b = true ↔ P) (e : Q ↔ P) : b = true ↔ Q := h.trans e.symm

set_option maxRecDepth 100000 in
set_option maxHeartbeats 2000000 in
/-- slices.Max of a row that isn't empty. -/
theorem max_any (g c : Nat) (l : List Int) (w : World) (hl : 0 < l.length) (hl2 : l.length ≤ 12) (hS : inE.Sl w (some ⟨g, 0, none⟩) l) : Calls Try.prog 22 #[.slice (some ⟨g, 0, none⟩) l.length c] w fun e w' => ∃ m : Int, e = .returned (.int .i64 m) ∧ ((∀ (j : Nat) (h : j < l.length), l[j] ≤ m) ∧ ∃ (j : Nat) (h : j < l.length), l[j] = m) ∧ w' = w := by
  have hC := Lib.hid (fun (j : Nat) (h : j < l.length) => slCell0 hS j h)
  have c0 := hC.out 0 hl
  obtain ⟨l0, hl0⟩ : ∃ l0, l[0] = l0 := ⟨_, rfl⟩
  rw [hl0] at c0
  have HL0 := Lib.hid hl0
  clear hS hl0
  go_enter Try.func22, Try.ntmps22
  go_wp2_with fail
  clear c0
  go_loopw [3, 4] (fun v y wr => ∃ (i : Nat) (m : Int), 0 < i ∧ i ≤ l.length ∧ y = .int .i64 i ∧ v = .int .i64 m ∧ Hid ((∀ (j : Nat) (h : j < l.length), j < i → l[j] ≤ m) ∧ ∃ (j : Nat) (h : j < l.length), l[j] = m) ∧ Hid (wr = w)) (fun _ y _ => l.length - (intOf y).toNat)
  case atStart =>
    have hs : (∀ (j : Nat) (h : j < l.length), j < 1 → l[j] ≤ l0) ∧ ∃ (j : Nat) (h : j < l.length), l[j] = l0 := by
      refine ⟨fun j h hj => ?_, 0, hl, HL0.out⟩
      cases j with
      | zero => rw [HL0.out]; exact Int.le_refl _
      | succ j => omega
    exact ⟨1, l0, by omega, by omega, rfl, rfl, Lib.hid hs, Lib.hid rfl⟩
  case round =>
    obtain ⟨i, m, hi0, hi, rfl, rfl, hm, hw⟩ := hrel
    by_cases hil : i < l.length
    · have c0 := hC.out i hil
      rw [← hw.out] at c0
      obtain ⟨d, hd⟩ : ∃ d, l[i] = d := ⟨_, rfl⟩
      rw [hd] at c0
      have HD := Lib.hid hd
      clear hd
      rcases Int.lt_or_le m d with hmd | hmd
      · have hn := Lib.hid (show (∀ (j : Nat) (h : j < l.length), j < i + 1 → l[j] ≤ d) ∧ ∃ (j : Nat) (h : j < l.length), l[j] = d from ⟨fun j h hj => by
          by_cases e : j = i
          · subst e; rw [HD.out]; exact Int.le_refl _
          · have := hm.out.1 j h (by omega); omega, i, hil, HD.out⟩)
        clear hm
        go_wp2_with fail
        exact ⟨⟨i + 1, d, by omega, by omega, by go_num, rfl, hn, hw⟩, by simp [intOf]; omega⟩
      · have hn := Lib.hid (show (∀ (j : Nat) (h : j < l.length), j < i + 1 → l[j] ≤ m) ∧ ∃ (j : Nat) (h : j < l.length), l[j] = m from ⟨fun j h hj => by
          by_cases e : j = i
          · subst e; rw [HD.out]; exact hmd
          · exact hm.out.1 j h (by omega), hm.out.2⟩)
        clear hm
        go_wp2_with fail
        exact ⟨⟨i + 1, m, by omega, by omega, by go_num, rfl, hn, hw⟩, by simp [intOf]; omega⟩
    · obtain rfl : i = l.length := by omega
      go_wp2_with fail
      go_ret
      exact ⟨m, rfl, ⟨fun j h => hm.out.1 j h h, hm.out.2⟩, hw.out⟩

set_option maxRecDepth 100000 in
set_option maxHeartbeats 2000000 in
theorem ups_any (b off c : Nat) (u : List Int) (w : World) (hl : 2 ≤ u.length) (hl2 : u.length ≤ 12) (hS : inE.Sl w (some ⟨b, off, none⟩) u) (bv : Bool) (hbv : bv = true ↔ ∀ i, i < u.length → upAt u i) : Calls Try.prog 21 #[.slice (some ⟨b, off, none⟩) u.length c] w fun e w' => e = .returned (.bool bv) ∧ w' = w := by
  have hC := Lib.hid (fun (j : Nat) (h : j < u.length) => (by
    have := slCell hS j h
    rw [← getD_at h] at this; exact this : w.cell? ⟨b, off + j, none⟩ = some (.int .i64 (u.getD j 0))))
  have HB := Lib.hid hbv
  clear hS hbv
  go_enter Try.func21, Try.ntmps21
  go_wp2_with fail
  go_loopw [7] (fun y wr => ∃ i : Nat, i ≤ u.length ∧ y = .int .i64 i ∧ Hid (∀ j, j < i → upAt u j) ∧ Hid (wr = w)) (fun y _ => u.length - (intOf y).toNat)
  case atStart => exact ⟨0, by omega, rfl, Lib.hid (fun j h => absurd h (Nat.not_lt_zero j)), Lib.hid rfl⟩
  case round =>
    obtain ⟨i, hi, rfl, hm, hw⟩ := hrel
    by_cases hil : i < u.length
    · have c0 := hC.out i hil
      rw [← hw.out] at c0
      by_cases hu : upAt u i
      · have hn := Lib.hid (show ∀ j, j < i + 1 → upAt u j from fun j h => by
          by_cases e : j = i
          · subst e; exact hu
          · exact hm.out j (by omega))
        clear hm
        by_cases h0 : i = 0
        · subst h0
          have h1 : u.getD 0 0 = -1 := by simpa [upAt] using hu
          rw [h1, Nat.add_zero] at c0
          clear hu h1
          go_wp2_with fail
          exact ⟨⟨1, by omega, by go_num, hn, hw⟩, by simp [intOf]; omega⟩
        · unfold upAt at hu
          rw [if_neg h0] at hu
          generalize u.getD i 0 = d at *
          have HW := Lib.hid (fun (wx : World) => pWithin_any d 0 ((i : Int) - 1) true ⟨fun _ => hu, fun _ => rfl⟩ wx)
          have e1 : ((i : Int) != 0) = true := by simp; omega
          have e2 : ((i : Int) == 0) = false := beq_eq_false_iff_ne.2 (by omega)
          have e3 : IntKind.i64.wrap ((i : Int) - 1) = (i : Int) - 1 := by rw [IntKind.wrap_i64]; omega
          clear hu
          go_wp2_with fail
          refine (HW.out _).mono ?_
          rintro e w1 ⟨rfl, rfl⟩
          go_wp2_with fail
          exact ⟨⟨i + 1, by omega, by go_num, hn, hw⟩, by simp [intOf]; omega⟩
      · obtain rfl : bv = false := by
          cases bv with
          | false => rfl
          | true => exact absurd (HB.out.1 rfl i hil) hu
        clear HB hm
        by_cases h0 : i = 0
        · subst h0
          have h1 : ¬ u.getD 0 0 = -1 := by simpa [upAt] using hu
          rw [Nat.add_zero] at c0
          generalize u.getD 0 0 = d at *
          have e1 : (d == -1) = false := beq_eq_false_iff_ne.2 h1
          have e2 : (d != -1) = true := by simpa using h1
          clear hu h1
          go_wp2_with fail
          go_ret
          exact ⟨rfl, hw.out⟩
        · unfold upAt at hu
          rw [if_neg h0] at hu
          generalize u.getD i 0 = d at *
          have HW := Lib.hid (fun (wx : World) => pWithin_any d 0 ((i : Int) - 1) false ⟨fun h => (by cases h), fun h => absurd h hu⟩ wx)
          have e1 : ((i : Int) != 0) = true := by simp; omega
          have e2 : ((i : Int) == 0) = false := beq_eq_false_iff_ne.2 (by omega)
          have e3 : IntKind.i64.wrap ((i : Int) - 1) = (i : Int) - 1 := by rw [IntKind.wrap_i64]; omega
          clear hu
          go_wp2_with fail
          refine (HW.out _).mono ?_
          rintro e w1 ⟨rfl, rfl⟩
          go_wp2_with fail
          go_ret
          exact ⟨rfl, hw.out⟩
    · obtain rfl : i = u.length := by omega
      obtain rfl : bv = true := HB.out.2 hm.out
      go_wp2_with fail
      go_ret
      exact ⟨rfl, hw.out⟩
end Go.Proofs.Ytmmfjmhemknpgaa
