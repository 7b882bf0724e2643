/- What From, Next and Before give. -/
import Derived.Test.YtkocehjomjaidaaSa
namespace Go.Proofs.Ytkocehjomjaidaa
open Go.RowKit

theorem from_out2 (re im : Nat) (w : World) (h : wiB re 4787326403894837248 = true) (h2 : wiB im 4622382067542392832 = false) : Calls Try.prog 36 #[.complex .f64 re im] w fun e w' => e = .returned (.tuple #[.agg #[.int .i64 0, .int .i64 0], .bool false]) ∧ Below w.heap.size w w' := by
  have H := Lib.hid h
  have H2 := Lib.hid h2
  clear h h2
  go_enter Try.func36, Try.ntmps36
  go_wp2_with (go_at_call 43; refine (within_any _ _ _).mono ?_; rintro e w1 ⟨rfl, rfl⟩; (first | rw [H.out] | rw [H2.out]))
  go_returns
  exact ⟨rfl, by go_grown⟩

theorem from_yes (re im : Nat) (C D : Int) (w : World) (h : wiB re 4787326403894837248 = true) (h2 : wiB im 4622382067542392832 = true)
    (h3 : floatToIntVal .f64 re .i64 = some C) (h4 : floatToIntVal .f64 im .i64 = some D) (h5 : rightB C D = true)
    (h6 : FloatKind.f64.format.order (floatOfInt .f64 C) re = some .eq) (h7 : FloatKind.f64.format.order (floatOfInt .f64 D) im = some .eq) :
    Calls Try.prog 36 #[.complex .f64 re im] w fun e w' => e = .returned (.tuple #[.agg #[.int .i64 C, .int .i64 D], .bool true]) ∧ Below w.heap.size w w' := by
  have H := Lib.hid h
  have H2 := Lib.hid h2
  have c1 : ∀ w, (convert 65 3 (.float .f64 re)).run Try.prog w = .ok (.int .i64 C) w := fun w => run_convert_float_int w 65 3 .f64 .i64 re C (by rw [Try.underlying65]; rfl) Try.underlying3 h3
  have c2 : ∀ w, (convert 65 3 (.float .f64 im)).run Try.prog w = .ok (.int .i64 D) w := fun w => run_convert_float_int w 65 3 .f64 .i64 im D (by rw [Try.underlying65]; rfl) Try.underlying3 h4
  have H5 := Lib.hid h5
  clear h h2 h3 h4 h5
  go_enter Try.func36, Try.ntmps36
  go_wp2_with (first | (go_at_call 43; refine (within_any _ _ _).mono ?_; rintro e w1 ⟨rfl, rfl⟩; (first | rw [H.out] | rw [H2.out]))
                      | (go_at_call 35; refine (to_yes C D _ H5.out).mono ?_; rintro e w1 ⟨rfl, hb⟩; obtain ⟨hc, hf⟩ := bcell hb; unfold numOf))
  have k0 : w1.cell? ⟨w.heap.size, 0, none⟩ = some (.int .i64 0) := by rw [hc _ _ (by simp; omega)]; simp [go_sem]
  have k1 : w1.cell? ⟨w.heap.size, 1, none⟩ = some (.int .i64 0) := by rw [hc _ _ (by simp; omega)]; simp [go_sem]
  exact bodyPost_ret (v := .tuple #[.agg #[.int .i64 C, .int .i64 D], .bool true]) (by simp [results, Try.results36, go_sem, k0, k1]) rfl ⟨rfl, Below.setCell (Below.setCell (below_then (by go_grown) hb) (Nat.le_refl _) _) (Nat.le_refl _) _⟩

theorem from_no (re im : Nat) (C D : Int) (w : World) (h : wiB re 4787326403894837248 = true) (h2 : wiB im 4622382067542392832 = true)
    (h3 : floatToIntVal .f64 re .i64 = some C) (h4 : floatToIntVal .f64 im .i64 = some D) (h5 : rightB C D = true)
    (h6 : ¬ (FloatKind.f64.format.order (floatOfInt .f64 C) re = some .eq ∧ FloatKind.f64.format.order (floatOfInt .f64 D) im = some .eq)) :
    Calls Try.prog 36 #[.complex .f64 re im] w fun e w' => e = .returned (.tuple #[.agg #[.int .i64 0, .int .i64 0], .bool false]) ∧ Below w.heap.size w w' := by
  have H := Lib.hid h
  have H2 := Lib.hid h2
  have c1 : ∀ w, (convert 65 3 (.float .f64 re)).run Try.prog w = .ok (.int .i64 C) w := fun w => run_convert_float_int w 65 3 .f64 .i64 re C (by rw [Try.underlying65]; rfl) Try.underlying3 h3
  have c2 : ∀ w, (convert 65 3 (.float .f64 im)).run Try.prog w = .ok (.int .i64 D) w := fun w => run_convert_float_int w 65 3 .f64 .i64 im D (by rw [Try.underlying65]; rfl) Try.underlying3 h4
  have H5 := Lib.hid h5
  have H6 := Lib.hid h6
  clear h h2 h3 h4 h5 h6
  go_enter Try.func36, Try.ntmps36
  go_wp2_with (first | (go_at_call 43; refine (within_any _ _ _).mono ?_; rintro e w1 ⟨rfl, rfl⟩; (first | rw [H.out] | rw [H2.out]))
                      | (go_at_call 35; refine (to_yes C D _ H5.out).mono ?_; rintro e w1 ⟨rfl, hb⟩; obtain ⟨hc, hf⟩ := bcell hb; unfold numOf))
  · have k0 : w1.cell? ⟨w.heap.size, 0, none⟩ = some (.int .i64 0) := by rw [hc _ _ (by simp; omega)]; simp [go_sem]
    have k1 : w1.cell? ⟨w.heap.size, 1, none⟩ = some (.int .i64 0) := by rw [hc _ _ (by simp; omega)]; simp [go_sem]
    exact bodyPost_ret (v := .tuple #[.agg #[.int .i64 0, .int .i64 0], .bool false]) (by simp [results, Try.results36, go_sem, k0, k1]) rfl ⟨rfl, Below.setCell (Below.setCell (below_then (by go_grown) hb) (Nat.le_refl _) _) (Nat.le_refl _) _⟩
  · rename_i hh
    exact absurd (by simpa using hh) H6.out

/-- A moment of that number. -/
structure IsM (re im : Nat) (C D : Int) : Prop where
  vr : Flo.Val re (C * Flo.U)
  vi : Flo.Val im (D * Flo.U)
  ok : rightB C D = true

theorem rightB_iff {C D : Int} : rightB C D = true ↔ (0 ≤ C ∧ C ≤ 1099511627776 ∧ 0 ≤ D ∧ D < 12) := by unfold rightB; exact decide_eq_true_iff

theorem isInt_c0 : Flo.IsInt 0 0 := Flo.isInt_ofInt 0 (by decide)
theorem isInt_max : Flo.IsInt 4787326403894837248 1099511627776 := Flo.isInt_ofInt 1099511627776 (by decide)
theorem isInt_11 : Flo.IsInt 4622382067542392832 11 := Flo.isInt_ofInt 11 (by decide)
theorem isInt_12 : Flo.IsInt 4622945017495814144 12 := Flo.isInt_ofInt 12 (by decide)

theorem leB_int {x y : Nat} {a b : Int} (hx : Flo.Val x a) (hy : Flo.Val y b) : leB x y = decide (a ≤ b) := by
  have h : FloatKind.f64.format.order x y = some (compare a b) := Flo.order_val hx hy
  unfold leB
  rw [h]
  rcases Int.lt_trichotomy a b with h1 | h1 | h1
  · rw [Int.compare_eq_lt.2 h1]; simp; omega
  · rw [Int.compare_eq_eq.2 h1]; simp; omega
  · rw [Int.compare_eq_gt.2 h1]; simp; omega

theorem leB_or {x y : Nat} (h : leB x y = true) : Ieee.double.order x y = some .lt ∨ Ieee.double.order x y = some .eq := by
  unfold leB at h
  simp only [Bool.or_eq_true, beq_iff_eq] at h
  exact h

/-- A float that lies between nought and a whole number. -/
theorem wi_val {x m : Nat} {b : Int} (hm : Flo.IsInt m b) (h : wiB x m = true) : ∃ v, Flo.Val x v ∧ 0 ≤ v ∧ v ≤ b * Flo.U := by
  unfold wiB at h
  simp only [Bool.and_eq_true] at h
  obtain ⟨v, h1, h2, h3⟩ := Flo.val_of_bounds isInt_c0 hm (leB_or h.1) (leB_or h.2)
  exact ⟨v, h1, by omega, h3⟩

theorem wi_of {x m : Nat} {a b : Int} (hm : Flo.IsInt m b) (hx : Flo.Val x (a * Flo.U)) (h0 : 0 ≤ a) (h1 : a ≤ b) : wiB x m = true := by
  unfold wiB
  have hU := Flo.U_pos
  rw [leB_int isInt_c0.val hx, leB_int hx hm.val, Bool.and_eq_true, decide_eq_true_iff, decide_eq_true_iff]
  exact ⟨Int.mul_le_mul_of_nonneg_right h0 (by omega), Int.mul_le_mul_of_nonneg_right h1 (by omega)⟩

theorem order_eq {x y : Nat} {a b : Int} (hx : Flo.Val x a) (hy : Flo.Val y b) : FloatKind.f64.format.order x y = some .eq ↔ a = b := by
  have h : FloatKind.f64.format.order x y = some (compare a b) := Flo.order_val hx hy
  rw [h, Option.some.injEq]
  exact Int.compare_eq_eq

theorem trunc_exact {x : Nat} {a b : Int} (hx : Flo.Val x (a * Flo.U)) (h0 : 0 ≤ a) (h1 : a ≤ b) (hb : b < 4611686018427387904) : floatToIntVal .f64 x .i64 = some a := by
  have hU := Flo.U_pos
  obtain ⟨n, h2, _, _, h5, h6⟩ := Flo.toIntVal_of hx (Int.mul_nonneg h0 (by omega)) (Int.mul_le_mul_of_nonneg_right h1 (by omega)) hb
  have a1 := Flo.le_of_mulU h5
  have a2 := Flo.lt_of_mulU h6
  rw [h2]; congr 1; omega

theorem val_fun {x : Nat} {a b : Int} (h : Flo.Val x a) (k : Flo.Val x b) : a = b := by
  obtain ⟨s, m, e, h1, h2, h3⟩ := h
  obtain ⟨t, n, f, k1, k2, k3⟩ := k
  rw [h1] at k1
  cases k1
  rw [← h3, ← k3]

/-- WHAT From GIVES: the moment of that number. -/
theorem from_is {re im : Nat} {C D : Int} (h : IsM re im C D) (w : World) : Calls Try.prog 36 #[.complex .f64 re im] w fun e w' => e = .returned (.tuple #[.agg #[.int .i64 C, .int .i64 D], .bool true]) ∧ Below w.heap.size w w' := by
  obtain ⟨h1, h2, h3⟩ := h
  have hr := rightB_iff.1 h3
  exact from_yes re im C D w (wi_of isInt_max h1 (by omega) (by omega)) (wi_of isInt_11 h2 (by omega) (by omega)) (trunc_exact h1 (by omega) hr.2.1 (by omega)) (trunc_exact (b := 11) h2 (by omega) (by omega) (by omega)) h3
    ((order_eq (Flo.isInt_ofInt C (by omega)).val h1).2 rfl) ((order_eq (Flo.isInt_ofInt D (by omega)).val h2).2 rfl)

/-- WHAT From GIVES: none. -/
theorem from_none {re im : Nat} (h : ∀ C D, ¬ IsM re im C D) (w : World) : Calls Try.prog 36 #[.complex .f64 re im] w fun e w' => e = .returned (.tuple #[.agg #[.int .i64 0, .int .i64 0], .bool false]) ∧ Below w.heap.size w w' := by
  by_cases h1 : wiB re 4787326403894837248 = true
  · by_cases h2 : wiB im 4622382067542392832 = true
    · obtain ⟨v, v1, v2, v3⟩ := wi_val isInt_max h1
      obtain ⟨u, u1, u2, u3⟩ := wi_val isInt_11 h2
      obtain ⟨C, c1, c2, c3, _, _⟩ := Flo.toIntVal_of v1 v2 v3 (by omega)
      obtain ⟨D, d1, d2, d3, _, _⟩ := Flo.toIntVal_of u1 u2 u3 (by omega)
      have hr : rightB C D = true := rightB_iff.2 (by omega)
      refine from_no re im C D w h1 h2 c1 d1 hr (fun ⟨q1, q2⟩ => h C D ⟨?_, ?_, hr⟩)
      · rw [(order_eq (Flo.isInt_ofInt C (by omega)).val v1).1 q1]; exact v1
      · rw [(order_eq (Flo.isInt_ofInt D (by omega)).val u1).1 q2]; exact u1
    · exact from_out2 re im w h1 (by simpa using h2)
  · exact from_out1 re im w (by simpa using h1)

end Go.Proofs.Ytkocehjomjaidaa
