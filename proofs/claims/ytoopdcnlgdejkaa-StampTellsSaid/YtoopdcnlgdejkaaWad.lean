/- What Before gives, and the document's answers. -/
import Derived.Test.YtoopdcnlgdejkaaWac
namespace Go.Proofs.Ytoopdcnlgdejkaa
open Go.RowKit

theorem refNext_any (C D : Int) (w : World) : Calls Try.prog 9 #[.int .i64 C, .int .i64 D] w fun e w' => e = .returned (.tuple #[.agg #[.int .i64 (nextC C D), .int .i64 (nextD C D)], .bool (nextB C D)]) ∧ Below w.heap.size w w' := by
  by_cases h : C < 1099511627776
  · by_cases h0 : 0 ≤ C
    · by_cases h1 : 0 ≤ D ∧ D < 12
      · have r1 : rightB C D = true := rightB_iff.2 (by omega)
        have r2 : rightB (C + 1) D = true := rightB_iff.2 (by omega)
        have e1 : nextC C D = C + 1 := by simp [nextC, h, r1]
        have e2 : nextD C D = D := by simp [nextD, h, r1]
        have e3 : nextB C D = true := by simp [nextB, h, r1]
        rw [e1, e2, e3]
        have H := Lib.hid r2
        clear r1 r2 e1 e2 e3
        go_enter Try.func9, Try.ntmps9
        go_wp2_with (go_at_call 12; refine (refRight_any _ _ _).mono ?_; rintro e w1 ⟨rfl, hb⟩; rw [H.out]; obtain ⟨hc, hf⟩ := bcell hb)
        have k0 : w1.cell? ⟨w.heap.size, 0, none⟩ = some (.int .i64 0) := by rw [hc _ _ (by simp; omega)]; simp [go_sem]
        have k1 : w1.cell? ⟨w.heap.size, 1, none⟩ = some (.int .i64 0) := by rw [hc _ _ (by simp; omega)]; simp [go_sem]
        exact bodyPost_ret (v := .tuple #[.agg #[.int .i64 (C + 1), .int .i64 D], .bool true]) (by simp [results, Try.results9, go_sem, k0, k1]) rfl ⟨rfl, Below.setCell (Below.setCell (below_then (by go_grown) hb) (Nat.le_refl _) _) (Nat.le_refl _) _⟩
      · have r1 : rightB C D = false := by rw [Bool.eq_false_iff, ne_eq, rightB_iff]; omega
        have r2 : rightB (C + 1) D = false := by rw [Bool.eq_false_iff, ne_eq, rightB_iff]; omega
        have e1 : nextC C D = 0 := by simp [nextC, r1]
        have e2 : nextD C D = 0 := by simp [nextD, r1]
        have e3 : nextB C D = false := by simp [nextB, r1]
        rw [e1, e2, e3]
        have H := Lib.hid r2
        clear r1 r2 e1 e2 e3 h1
        go_enter Try.func9, Try.ntmps9
        go_wp2_with (go_at_call 12; refine (refRight_any _ _ _).mono ?_; rintro e w1 ⟨rfl, hb⟩; rw [H.out]; obtain ⟨hc, hf⟩ := bcell hb)
        have k0 : w1.cell? ⟨w.heap.size, 0, none⟩ = some (.int .i64 0) := by rw [hc _ _ (by simp; omega)]; simp [go_sem]
        have k1 : w1.cell? ⟨w.heap.size, 1, none⟩ = some (.int .i64 0) := by rw [hc _ _ (by simp; omega)]; simp [go_sem]
        exact bodyPost_ret (v := .tuple #[.agg #[.int .i64 0, .int .i64 0], .bool false]) (by simp [results, Try.results9, go_sem, k0, k1]) rfl ⟨rfl, Below.setCell (Below.setCell (below_then (by go_grown) hb) (Nat.le_refl _) _) (Nat.le_refl _) _⟩
    · have r1 : rightB C D = false := by rw [Bool.eq_false_iff, ne_eq, rightB_iff]; omega
      have e1 : nextC C D = 0 := by simp [nextC, r1]
      have e2 : nextD C D = 0 := by simp [nextD, r1]
      have e3 : nextB C D = false := by simp [nextB, r1]
      rw [e1, e2, e3]
      clear e1 e2 e3 r1
      go_enter Try.func9, Try.ntmps9
      go_wp2
      go_returns
      exact ⟨rfl, by go_grown⟩
  · have e1 : nextC C D = 0 := by simp [nextC, h]
    have e2 : nextD C D = 0 := by simp [nextD, h]
    have e3 : nextB C D = false := by simp [nextB, h]
    rw [e1, e2, e3]
    clear e1 e2 e3
    go_enter Try.func9, Try.ntmps9
    go_wp2
    go_returns
    exact ⟨rfl, by go_grown⟩

def befB (A B C D : Int) : Bool := decide (A < C ∨ A = C ∧ B < D)
theorem befB_of {A B C D : Int} {b : Bool} (h : b = true ↔ (A < C ∨ A = C ∧ B < D)) : Value.bool b = .bool (befB A B C D) := by
  unfold befB; congr 1; rw [Bool.eq_iff_iff, h, decide_eq_true_iff]

theorem refBefore_any (A B C D : Int) (w : World) : Calls Try.prog 14 #[.agg #[.int .i64 A, .int .i64 B], .agg #[.int .i64 C, .int .i64 D]] w fun e w' => e = .returned (.bool (befB A B C D)) ∧ Below w.heap.size w w' := by
  go_enter Try.func14, Try.ntmps14
  go_wp2
  all_goals go_ret
  all_goals exact ⟨ret_of (befB_of (by simp; omega)), by go_grown⟩

/-- The walk of Before where one of the two may not be. -/
theorem before_plain1 (A B C D : Int) (w : World) (h : rightB A B = false) : Calls Try.prog 13 #[.agg #[.int .i64 A, .int .i64 B], .agg #[.int .i64 C, .int .i64 D]] w fun e w' => e = .returned (.bool (befB A B C D)) ∧ Below w.heap.size w w' := by
  have H := Lib.hid h
  clear h
  by_cases h2 : rightB C D = true
  · have H2 := Lib.hid h2
    clear h2
    go_enter Try.func13, Try.ntmps13
    go_wp2_with (first | (go_at_call 15; (with_reducible refine (to_no A B _ H.out).mono ?_); rintro e w1 ⟨rfl, hb⟩; obtain ⟨hc, hf⟩ := bcell hb; have hz : w.heap.size + 1 < w1.heap.size := (by have := hb.size; simp at this; omega); have hz0 : w.heap.size < w1.heap.size := (by omega))
                                        | (go_at_call 15; (with_reducible refine (to_yes C D _ H2.out).mono ?_); rintro e w2 ⟨rfl, hb2⟩; obtain ⟨hc2, hf2⟩ := bcell hb2; unfold numOf))
    all_goals go_ret
    all_goals exact ⟨ret_of (befB_of (by simp; omega)), below_then (below_then (by go_grown) hb) hb2⟩
  · have H2 := Lib.hid (show rightB C D = false by simpa using h2)
    clear h2
    go_enter Try.func13, Try.ntmps13
    go_wp2_with (first | (go_at_call 15; (with_reducible refine (to_no A B _ H.out).mono ?_); rintro e w1 ⟨rfl, hb⟩; obtain ⟨hc, hf⟩ := bcell hb; have hz : w.heap.size + 1 < w1.heap.size := (by have := hb.size; simp at this; omega); have hz0 : w.heap.size < w1.heap.size := (by omega))
                                        | (go_at_call 15; (with_reducible refine (to_no C D _ H2.out).mono ?_); rintro e w2 ⟨rfl, hb2⟩; obtain ⟨hc2, hf2⟩ := bcell hb2))
    all_goals go_ret
    all_goals exact ⟨ret_of (befB_of (by simp; omega)), below_then (below_then (by go_grown) hb) hb2⟩

theorem before_plain2 (A B C D : Int) (w : World) (h : rightB A B = true) (h2 : rightB C D = false) : Calls Try.prog 13 #[.agg #[.int .i64 A, .int .i64 B], .agg #[.int .i64 C, .int .i64 D]] w fun e w' => e = .returned (.bool (befB A B C D)) ∧ Below w.heap.size w w' := by
  have H := Lib.hid h
  have H2 := Lib.hid h2
  clear h h2
  go_enter Try.func13, Try.ntmps13
  go_wp2_with (first | (go_at_call 15; (with_reducible refine (to_yes A B _ H.out).mono ?_); rintro e w1 ⟨rfl, hb⟩; obtain ⟨hc, hf⟩ := bcell hb; have hz : w.heap.size + 1 < w1.heap.size := (by have := hb.size; simp at this; omega); have hz0 : w.heap.size < w1.heap.size := (by omega); unfold numOf)
                                        | (go_at_call 15; (with_reducible refine (to_no C D _ H2.out).mono ?_); rintro e w2 ⟨rfl, hb2⟩; obtain ⟨hc2, hf2⟩ := bcell hb2))
  all_goals go_ret
  all_goals exact ⟨ret_of (befB_of (by simp; omega)), below_then (below_then (by go_grown) hb) hb2⟩

theorem before_gap (A B C D : Int) (w : World) (re im : Nat) (o1 o2 : Ordering) (h : rightB A B = true) (h2 : rightB C D = true)
    (hs : cSumBits .sub .f64 (floatOfInt .f64 C) (floatOfInt .f64 D) (floatOfInt .f64 A) (floatOfInt .f64 B) = some (re, im))
    (p1 : FloatKind.f64.format.order re 0 = some o1) (p2 : FloatKind.f64.format.order im 0 = some o2) :
    Calls Try.prog 13 #[.agg #[.int .i64 A, .int .i64 B], .agg #[.int .i64 C, .int .i64 D]] w fun e w' => e = .returned (.bool (o1 == .gt || (o1 == .eq && o2 == .gt))) ∧ Below w.heap.size w w' := by
  have hop := fun t w => run_complex_sum (P := Try.prog) w .sub (Or.inr rfl) t .f64 _ _ _ _ re im hs
  have H := Lib.hid h
  have H2 := Lib.hid h2
  clear h h2 hs
  cases o1 <;> cases o2
  all_goals
    go_enter Try.func13, Try.ntmps13
    go_wp2_with (first | (go_at_call 15; (with_reducible refine (to_yes A B _ H.out).mono ?_); rintro e w1 ⟨rfl, hb⟩; obtain ⟨hc, hf⟩ := bcell hb; have hz : w.heap.size + 1 < w1.heap.size := (by have := hb.size; simp at this; omega); have hz0 : w.heap.size < w1.heap.size := (by omega); unfold numOf)
                                        | (go_at_call 15; (with_reducible refine (to_yes C D _ H2.out).mono ?_); rintro e w2 ⟨rfl, hb2⟩; obtain ⟨hc2, hf2⟩ := bcell hb2; unfold numOf))
    go_ret
    exact ⟨rfl, below_then (below_then (by go_grown) hb) hb2⟩

theorem before_any (A B C D : Int) (w : World) : Calls Try.prog 13 #[.agg #[.int .i64 A, .int .i64 B], .agg #[.int .i64 C, .int .i64 D]] w fun e w' => e = .returned (.bool (befB A B C D)) ∧ Below w.heap.size w w' := by
  by_cases h : rightB A B = true
  · by_cases h2 : rightB C D = true
    · have r1 := rightB_iff.1 h
      have r2 := rightB_iff.1 h2
      obtain ⟨a, a1, a2⟩ := Flo.sub_int (Flo.isInt_ofInt C (by omega)) (Flo.isInt_ofInt A (by omega)) (by omega)
      obtain ⟨b, b1, b2⟩ := Flo.sub_int (Flo.isInt_ofInt D (by omega)) (Flo.isInt_ofInt B (by omega)) (by omega)
      refine (before_gap A B C D w a b _ _ h h2 (by simp only [cSumBits, a1, b1, Option.bind_some]) (Flo.order_int a2 isInt_c0) (Flo.order_int b2 isInt_c0)).mono ?_
      rintro e w' ⟨rfl, hb⟩
      refine ⟨ret_of (befB_of ?_), hb⟩
      rw [Bool.or_eq_true, Bool.and_eq_true, beq_iff_eq, beq_iff_eq, beq_iff_eq, Int.compare_eq_gt, Int.compare_eq_eq, Int.compare_eq_gt]
      omega
    · exact before_plain2 A B C D w h (by simpa using h2)
  · exact before_plain1 A B C D w (by simpa using h)

end Go.Proofs.Ytoopdcnlgdejkaa
