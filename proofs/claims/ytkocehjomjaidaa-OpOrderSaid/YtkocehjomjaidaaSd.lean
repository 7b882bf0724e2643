/- What Before gives, and the document's answers. -/
import Derived.Test.YtkocehjomjaidaaSc
namespace Go.Proofs.Ytkocehjomjaidaa
open Go.RowKit

theorem refNext_any (C D : Int) (w : World) : Calls Try.prog 19 #[.int .i64 C, .int .i64 D] w fun e w' => e = .returned (.tuple #[.agg #[.int .i64 (nextC C D), .int .i64 (nextD C D)], .bool (nextB C D)]) ∧ Below w.heap.size w w' := by
  by_cases h : C < 1099511627776
  · by_cases h0 : 0 ≤ C
    · by_cases h1 : 0 ≤ D ∧ D < 12
      · have r1 : rightB C D = true := rightB_iff.2 (by omega)
        have r2 : rightB (C + 1) D = true := rightB_iff.2 (by omega)
        have e1 : nextC C D = C + 1 := by simp [nextC, h, r1]
        have e2 : nextD C D = D := by simp [nextD, h, r1]
        have e3 : nextB C D = true := by simp [nextB, h, r1]
        rw [e1, e2, e3]
        have H := Lib.hid r2
        clear r1 r2 e1 e2 e3
        go_enter Try.func19, Try.ntmps19
        go_wp2_with (go_at_call 24; refine (stRefRight_any _ _ _).mono ?_; rintro e w1 ⟨rfl, hb⟩; rw [H.out]; obtain ⟨hc, hf⟩ := bcell hb)
        have k0 : w1.cell? ⟨w.heap.size, 0, none⟩ = some (.int .i64 0) := by rw [hc _ _ (by simp; omega)]; simp [go_sem]
        have k1 : w1.cell? ⟨w.heap.size, 1, none⟩ = some (.int .i64 0) := by rw [hc _ _ (by simp; omega)]; simp [go_sem]
        exact bodyPost_ret (v := .tuple #[.agg #[.int .i64 (C + 1), .int .i64 D], .bool true]) (by simp [results, Try.results19, go_sem, k0, k1]) rfl ⟨rfl, Below.setCell (Below.setCell (below_then (by go_grown) hb) (Nat.le_refl _) _) (Nat.le_refl _) _⟩
      · have r1 : rightB C D = false := by rw [Bool.eq_false_iff, ne_eq, rightB_iff]; omega
        have r2 : rightB (C + 1) D = false := by rw [Bool.eq_false_iff, ne_eq, rightB_iff]; omega
        have e1 : nextC C D = 0 := by simp [nextC, r1]
        have e2 : nextD C D = 0 := by simp [nextD, r1]
        have e3 : nextB C D = false := by simp [nextB, r1]
        rw [e1, e2, e3]
        have H := Lib.hid r2
        clear r1 r2 e1 e2 e3 h1
        go_enter Try.func19, Try.ntmps19
        go_wp2_with (go_at_call 24; refine (stRefRight_any _ _ _).mono ?_; rintro e w1 ⟨rfl, hb⟩; rw [H.out]; obtain ⟨hc, hf⟩ := bcell hb)
        have k0 : w1.cell? ⟨w.heap.size, 0, none⟩ = some (.int .i64 0) := by rw [hc _ _ (by simp; omega)]; simp [go_sem]
        have k1 : w1.cell? ⟨w.heap.size, 1, none⟩ = some (.int .i64 0) := by rw [hc _ _ (by simp; omega)]; simp [go_sem]
        exact bodyPost_ret (v := .tuple #[.agg #[.int .i64 0, .int .i64 0], .bool false]) (by simp [results, Try.results19, go_sem, k0, k1]) rfl ⟨rfl, Below.setCell (Below.setCell (below_then (by go_grown) hb) (Nat.le_refl _) _) (Nat.le_refl _) _⟩
    · have r1 : rightB C D = false := by rw [Bool.eq_false_iff, ne_eq, rightB_iff]; omega
      have e1 : nextC C D = 0 := by simp [nextC, r1]
      have e2 : nextD C D = 0 := by simp [nextD, r1]
      have e3 : nextB C D = false := by simp [nextB, r1]
      rw [e1, e2, e3]
      clear e1 e2 e3 r1
      go_enter Try.func19, Try.ntmps19
      go_wp2
      go_returns
      exact ⟨rfl, by go_grown⟩
  · have e1 : nextC C D = 0 := by simp [nextC, h]
    have e2 : nextD C D = 0 := by simp [nextD, h]
    have e3 : nextB C D = false := by simp [nextB, h]
    rw [e1, e2, e3]
    clear e1 e2 e3
    go_enter Try.func19, Try.ntmps19
    go_wp2
    go_returns
    exact ⟨rfl, by go_grown⟩

def befB (A B C D : Int) : Bool := decide (A < C ∨ A = C ∧ B < D)
theorem befB_of {A B C D : Int} {b : Bool} (h : b = true ↔ (A < C ∨ A = C ∧ B < D)) : Value.bool b = .bool (befB A B C D) := by
  unfold befB; congr 1; rw [Bool.eq_iff_iff, h, decide_eq_true_iff]

end Go.Proofs.Ytkocehjomjaidaa
