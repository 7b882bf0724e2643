/- The document's examples hold. -/
import Derived.Test.YtoopdcnlgdejkaaWae
namespace Go.Proofs.Ytoopdcnlgdejkaa
open Go.RowKit

theorem num52 : numOf 5 2 = .complex .f64 4617315517961601024 4611686018427387904 := by
  have e1 : floatOfInt .f64 5 = 4617315517961601024 := by decide
  have e2 : floatOfInt .f64 2 = 4611686018427387904 := by decide
  unfold numOf; rw [e1, e2]

theorem isM73 : IsM 4619567317775286272 4613937818241073152 7 3 :=
  ⟨(Flo.isInt_ofInt 7 (by decide)).val, (Flo.isInt_ofInt 3 (by decide)).val, by decide⟩

theorem no75 (A B : Int) : ¬ IsM 4620130267728707584 4613937818241073152 A B := by
  rintro ⟨⟨s, m, e, h1, h2, h3⟩, _, h5⟩
  have hr := rightB_iff.1 h5
  have hread : Ieee.double.read 4620130267728707584 = .number false 8444249301319680 (-50) := by decide
  rw [hread] at h1
  cases h1
  have e1 : ((-50 : Int) + 1074).toNat = 1024 := by decide
  rw [Flo.signed_eq, e1, Flo.U_split (-50) (by omega) (by omega)] at h3
  have e2 : (-(-50 : Int)).toNat = 50 := by decide
  rw [e1, e2, ← Int.mul_assoc] at h3
  have h4 : (8444249301319680 : Int) = A * 2 ^ 50 := Int.eq_of_mul_eq_mul_right (Int.ne_of_gt (Int.pow_pos (by decide) : (0 : Int) < 2 ^ 1024)) (by rw [Int.mul_assoc, ← h3, if_neg (by decide), Int.one_mul]; rfl)
  omega

theorem eq_agg (A B C D : Int) (W : World) : (binOp .eql 23 (.agg #[.int .i64 A, .int .i64 B]) (.agg #[.int .i64 C, .int .i64 D])).run Try.prog W = .ok (.bool (A == C && B == D)) W := by
  by_cases h : A = C
  · by_cases h2 : B = D
    · simp [go_sem, h, h2]
    · simp [go_sem, h, h2]
  · simp [go_sem, h]

set_option maxHeartbeats 4000000 in
theorem awake_any (w : World) : Calls Try.prog 10 #[] w fun e w' => e = .returned (.bool true) ∧ Below w.heap.size w w' := by
  have r52 : rightB 5 2 = true := by decide
  have n1 : rightB 0 (-1) = false := by decide
  have n2 : befB 5 2 5 3 = true := by decide
  have n3 : befB 5 3 5 3 = false := by decide
  have H1 := Lib.hid n1
  have H2 := Lib.hid n2
  have H3 := Lib.hid n3
  clear n1 n2 n3
  go_enter Try.func10, Try.ntmps10
  go_wp2_with (first | (go_at_call 15; (with_reducible refine (to_yes 5 2 _ (by decide)).mono ?_); rintro e w1 ⟨rfl, hb1⟩; rw [num52]; obtain ⟨hc1, hf1⟩ := bcell hb1)
                                        | (go_at_call 17; (with_reducible refine (from_is isM73 _).mono ?_); rintro e w2 ⟨rfl, hb2⟩; obtain ⟨hc2, hf2⟩ := bcell hb2)
                                        | (go_at_call 17; (with_reducible refine (from_none no75 _).mono ?_); rintro e w3 ⟨rfl, hb3⟩; obtain ⟨hc3, hf3⟩ := bcell hb3; have hz3 : w2.heap.size < w3.heap.size := (by have := hb3.size; simp at this; omega); have hy3 : w2.heap.size ≤ w3.heap.size := (by omega))
                                        | (go_at_call 8; (with_reducible refine (next_yes 5 2 _ (by decide) (by decide)).mono ?_); rintro e w4 ⟨rfl, hb4⟩; obtain ⟨hc4, hf4⟩ := bcell hb4; have hz4 : w3.heap.size < w4.heap.size := (by have := hb4.size; simp at this; omega); have hy4 : w3.heap.size ≤ w4.heap.size := (by omega); have hx4 : w2.heap.size < w4.heap.size := (by omega); have hv4 : w2.heap.size ≤ w4.heap.size := (by omega))
                                        | (go_at_call 13; (with_reducible refine (before_any 5 2 5 3 _).mono ?_); rintro e w5 ⟨rfl, hb5⟩; rw [H2.out]; obtain ⟨hc5, hf5⟩ := bcell hb5)
                                        | (go_at_call 13; (with_reducible refine (before_any 5 3 5 3 _).mono ?_); rintro e w6 ⟨rfl, hb6⟩; rw [H3.out]; obtain ⟨hc6, hf6⟩ := bcell hb6)
                                        | (go_at_call 11; (with_reducible refine (right_any 0 (-1) _).mono ?_); rintro e w7 ⟨rfl, hb7⟩; rw [H1.out]; obtain ⟨hc7, hf7⟩ := bcell hb7))
  go_ret
  exact ⟨rfl, below_then (below_then (below_then (below_then (below_alloc (below_then (below_alloc (below_then hb1 hb2) _) hb3) _) hb4 |> fun h => below_alloc h _) hb5) hb6) hb7⟩

end Go.Proofs.Ytoopdcnlgdejkaa
