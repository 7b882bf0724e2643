/- What each function of the stamp layer, and of the document's answer for it, gives. -/
import Derived.Test.YtkocehjomjaidaaBs
import Derived.Test.YtkocehjomjaidaaSf
import Derived.WalkKit
import Derived.WalkLawsBesides
import Derived.Lib.Hide
import Derived.KernelRfl
import Derived.Handy
namespace Go.Proofs.Ytkocehjomjaidaa
open Go.RowKit

def rightB (C D : Int) : Bool := decide (0 ≤ C ∧ C ≤ 1099511627776 ∧ 0 ≤ D ∧ D < 12)
theorem rightB_of {C D : Int} {b : Bool} (h : b = true ↔ (0 ≤ C ∧ C ≤ 1099511627776 ∧ 0 ≤ D ∧ D < 12)) : Value.bool b = .bool (rightB C D) := by
  unfold rightB; congr 1; rw [Bool.eq_iff_iff, h, decide_eq_true_iff]




theorem stRight_any (C D : Int) (w : World) : Calls Try.prog 37 #[.agg #[.int .i64 C, .int .i64 D]] w fun e w' => e = .returned (.bool (rightB C D)) ∧ Below w.heap.size w w' := by
  by_cases h : 0 ≤ C ∧ C ≤ 1099511627776 ∧ 0 ≤ D ∧ D < 12
  · obtain ⟨h1, h2, h3, h4⟩ := h
    go_enter Try.func37, Try.ntmps37
    go_wp2
    go_ret
    exact ⟨ret_of (rightB_of (by simp; omega)), by go_grown⟩
  · go_enter Try.func37, Try.ntmps37
    go_wp2
    all_goals go_ret
    all_goals exact ⟨ret_of (rightB_of (by simp; omega)), by go_grown⟩

theorem stRefRight_any (C D : Int) (w : World) : Calls Try.prog 24 #[.agg #[.int .i64 C, .int .i64 D]] w fun e w' => e = .returned (.bool (rightB C D)) ∧ Below w.heap.size w w' := by
  by_cases h : 0 ≤ C ∧ C ≤ 1099511627776 ∧ 0 ≤ D ∧ D < 12
  · obtain ⟨h1, h2, h3, h4⟩ := h
    go_enter Try.func24, Try.ntmps24
    go_wp2
    go_ret
    exact ⟨ret_of (rightB_of (by simp; omega)), by go_grown⟩
  · go_enter Try.func24, Try.ntmps24
    go_wp2
    all_goals go_ret
    all_goals exact ⟨ret_of (rightB_of (by simp; omega)), by go_grown⟩

/-- The number of a moment. -/
def numOf (C D : Int) : Value := .complex .f64 (floatOfInt .f64 C) (floatOfInt .f64 D)

theorem to_yes (C D : Int) (w : World) (h : rightB C D = true) : Calls Try.prog 35 #[.agg #[.int .i64 C, .int .i64 D]] w fun e w' => e = .returned (.tuple #[numOf C D, .bool true]) ∧ Below w.heap.size w w' := by
  have H := Lib.hid h
  clear h
  go_enter Try.func35, Try.ntmps35
  go_wp2_with (go_at_call 37; refine (stRight_any C D _).mono ?_; rintro e w1 ⟨rfl, hb⟩; rw [H.out]; obtain ⟨hc, hf⟩ := bcell hb)
  go_ret2
  exact ⟨rfl, below_then (below_alloc (Below.refl _ _) _) hb⟩

theorem to_no (C D : Int) (w : World) (h : rightB C D = false) : Calls Try.prog 35 #[.agg #[.int .i64 C, .int .i64 D]] w fun e w' => e = .returned (.tuple #[.complex .f64 0 0, .bool false]) ∧ Below w.heap.size w w' := by
  have H := Lib.hid h
  clear h
  go_enter Try.func35, Try.ntmps35
  go_wp2_with (go_at_call 37; refine (stRight_any C D _).mono ?_; rintro e w1 ⟨rfl, hb⟩; rw [H.out]; obtain ⟨hc, hf⟩ := bcell hb)
  go_ret2
  exact ⟨rfl, below_then (below_alloc (Below.refl _ _) _) hb⟩

/-- x is not below nought and not above m. -/
def leB (x y : Nat) : Bool := FloatKind.f64.format.order x y == some .lt || FloatKind.f64.format.order x y == some .eq
def wiB (x m : Nat) : Bool := leB 0 x && leB x m

theorem within_any (x m : Nat) (w : World) : Calls Try.prog 43 #[.float .f64 x, .float .f64 m] w fun e w' => e = .returned (.bool (wiB x m)) ∧ w = w' := by
  go_enter Try.func43, Try.ntmps43
  go_wp2
  all_goals go_ret
  all_goals exact ⟨ret_of (by simp [wiB, leB, *]), rfl⟩

theorem from_out1 (re im : Nat) (w : World) (h : wiB re 4787326403894837248 = false) : Calls Try.prog 36 #[.complex .f64 re im] w fun e w' => e = .returned (.tuple #[.agg #[.int .i64 0, .int .i64 0], .bool false]) ∧ Below w.heap.size w w' := by
  have H := Lib.hid h
  clear h
  go_enter Try.func36, Try.ntmps36
  go_wp2_with (go_at_call 43; refine (within_any _ _ _).mono ?_; rintro e w1 ⟨rfl, rfl⟩; rw [H.out])
  go_returns
  exact ⟨rfl, by go_grown⟩

end Go.Proofs.Ytkocehjomjaidaa
