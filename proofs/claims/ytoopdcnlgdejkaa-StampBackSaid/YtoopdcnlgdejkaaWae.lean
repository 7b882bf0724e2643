/- What the document's From gives. -/
import Derived.Test.YtoopdcnlgdejkaaWad
namespace Go.Proofs.Ytoopdcnlgdejkaa
open Go.RowKit

def geB (x y : Nat) : Bool := FloatKind.f64.format.order x y == some .gt || FloatKind.f64.format.order x y == some .eq
def ltB (x y : Nat) : Bool := FloatKind.f64.format.order x y == some .lt

theorem refFrom_out (re im : Nat) (w : World) (h : (geB re 0 && leB re 4787326403894837248 && geB im 0 && ltB im 4622945017495814144) = false) : Calls Try.prog 18 #[.complex .f64 re im] w fun e w' => e = .returned (.tuple #[.agg #[.int .i64 0, .int .i64 0], .bool false]) ∧ Below w.heap.size w w' := by
  unfold geB leB ltB at h
  by_cases h1 : (FloatKind.f64.format.order re 0 == some .gt || FloatKind.f64.format.order re 0 == some .eq) = true
  · by_cases h2 : (FloatKind.f64.format.order re 4787326403894837248 == some .lt || FloatKind.f64.format.order re 4787326403894837248 == some .eq) = true
    · by_cases h3 : (FloatKind.f64.format.order im 0 == some .gt || FloatKind.f64.format.order im 0 == some .eq) = true
      · have h4 : (FloatKind.f64.format.order im 4622945017495814144 == some .lt) = false := by rw [h1, h2, h3] at h; exact h
        clear h
        go_enter Try.func18, Try.ntmps18
        go_wp2
        go_returns
        exact ⟨rfl, by go_grown⟩
      · rw [Bool.not_eq_true] at h3
        clear h
        go_enter Try.func18, Try.ntmps18
        go_wp2
        go_returns
        exact ⟨rfl, by go_grown⟩
    · rw [Bool.not_eq_true] at h2
      clear h
      go_enter Try.func18, Try.ntmps18
      go_wp2
      go_returns
      exact ⟨rfl, by go_grown⟩
  · rw [Bool.not_eq_true] at h1
    clear h
    go_enter Try.func18, Try.ntmps18
    go_wp2
    go_returns
    exact ⟨rfl, by go_grown⟩

theorem refFrom_in (re im : Nat) (C D : Int) (w : World) (h : (geB re 0 && leB re 4787326403894837248 && geB im 0 && ltB im 4622945017495814144) = true)
    (h3 : floatToIntVal .f64 re .i64 = some C) (h4 : floatToIntVal .f64 im .i64 = some D)
    (p : FloatKind.f64.format.order (floatOfInt .f64 C) re = some .eq) (q : FloatKind.f64.format.order (floatOfInt .f64 D) im = some .eq) :
    Calls Try.prog 18 #[.complex .f64 re im] w fun e w' => e = .returned (.tuple #[.agg #[.int .i64 C, .int .i64 D], .bool true]) ∧ Below w.heap.size w w' := by
  unfold geB leB ltB at h
  simp only [Bool.and_eq_true (_ && _), Bool.and_eq_true (_ || _)] at h
  obtain ⟨⟨⟨a1, a2⟩, a3⟩, a4⟩ := h
  have c1 : ∀ w, (convert 29 3 (.float .f64 re)).run Try.prog w = .ok (.int .i64 C) w := fun w => run_convert_float_int w 29 3 .f64 .i64 re C (by rw [Try.underlying29]; rfl) Try.underlying3 h3
  have c2 : ∀ w, (convert 29 3 (.float .f64 im)).run Try.prog w = .ok (.int .i64 D) w := fun w => run_convert_float_int w 29 3 .f64 .i64 im D (by rw [Try.underlying29]; rfl) Try.underlying3 h4
  clear h3 h4
  go_enter Try.func18, Try.ntmps18
  go_wp2
  go_returns
  exact ⟨rfl, by go_grown⟩

theorem refFrom_off (re im : Nat) (C D : Int) (w : World) (h : (geB re 0 && leB re 4787326403894837248 && geB im 0 && ltB im 4622945017495814144) = true)
    (h3 : floatToIntVal .f64 re .i64 = some C) (h4 : floatToIntVal .f64 im .i64 = some D)
    (b : ¬ (FloatKind.f64.format.order (floatOfInt .f64 C) re = some .eq ∧ FloatKind.f64.format.order (floatOfInt .f64 D) im = some .eq)) :
    Calls Try.prog 18 #[.complex .f64 re im] w fun e w' => e = .returned (.tuple #[.agg #[.int .i64 0, .int .i64 0], .bool false]) ∧ Below w.heap.size w w' := by
  unfold geB leB ltB at h
  simp only [Bool.and_eq_true (_ && _), Bool.and_eq_true (_ || _)] at h
  obtain ⟨⟨⟨a1, a2⟩, a3⟩, a4⟩ := h
  have c1 : ∀ w, (convert 29 3 (.float .f64 re)).run Try.prog w = .ok (.int .i64 C) w := fun w => run_convert_float_int w 29 3 .f64 .i64 re C (by rw [Try.underlying29]; rfl) Try.underlying3 h3
  have c2 : ∀ w, (convert 29 3 (.float .f64 im)).run Try.prog w = .ok (.int .i64 D) w := fun w => run_convert_float_int w 29 3 .f64 .i64 im D (by rw [Try.underlying29]; rfl) Try.underlying3 h4
  clear h3 h4
  by_cases p : FloatKind.f64.format.order (floatOfInt .f64 C) re = some .eq
  · have q1 : (FloatKind.f64.format.order (floatOfInt .f64 D) im == some .eq) = false := by rw [beq_eq_false_iff_ne]; exact fun q => b ⟨p, q⟩
    have q2 : (FloatKind.f64.format.order (floatOfInt .f64 D) im != some .eq) = true := by rw [bne, q1]; rfl
    clear b
    go_enter Try.func18, Try.ntmps18
    go_wp2
    go_returns
    exact ⟨rfl, by go_grown⟩
  · have q1 : (FloatKind.f64.format.order (floatOfInt .f64 C) re == some .eq) = false := by rw [beq_eq_false_iff_ne]; exact p
    have q2 : (FloatKind.f64.format.order (floatOfInt .f64 C) re != some .eq) = true := by rw [bne, q1]; rfl
    clear b p
    go_enter Try.func18, Try.ntmps18
    go_wp2
    go_returns
    exact ⟨rfl, by go_grown⟩

theorem geB_val {x y : Nat} {a b : Int} (hx : Flo.Val x a) (hy : Flo.Val y b) : geB x y = decide (b ≤ a) := by
  have h : FloatKind.f64.format.order x y = some (compare a b) := Flo.order_val hx hy
  unfold geB
  rw [h]
  rcases Int.lt_trichotomy a b with h1 | h1 | h1
  · rw [Int.compare_eq_lt.2 h1]; simp; omega
  · rw [Int.compare_eq_eq.2 h1]; simp; omega
  · rw [Int.compare_eq_gt.2 h1]; simp; omega
theorem ltB_val {x y : Nat} {a b : Int} (hx : Flo.Val x a) (hy : Flo.Val y b) : ltB x y = decide (a < b) := by
  have h : FloatKind.f64.format.order x y = some (compare a b) := Flo.order_val hx hy
  unfold ltB
  rw [h]
  rcases Int.lt_trichotomy a b with h1 | h1 | h1
  · rw [Int.compare_eq_lt.2 h1]; simp; omega
  · rw [Int.compare_eq_eq.2 h1]; simp; omega
  · rw [Int.compare_eq_gt.2 h1]; simp; omega

theorem compare_swap (a b : Int) : (compare a b).swap = compare b a := by
  rcases Int.lt_trichotomy a b with h1 | h1 | h1
  · rw [Int.compare_eq_lt.2 h1, Int.compare_eq_gt.2 h1]; rfl
  · rw [Int.compare_eq_eq.2 h1, Int.compare_eq_eq.2 h1.symm]; rfl
  · rw [Int.compare_eq_gt.2 h1, Int.compare_eq_lt.2 h1]; rfl

/-- The order the other way round. -/
theorem order_swap (x y : Nat) : FloatKind.f64.format.order x y = (FloatKind.f64.format.order y x).map Ordering.swap := by
  show ((Ieee.double.read x).order (Ieee.double.read y)) = ((Ieee.double.read y).order (Ieee.double.read x)).map Ordering.swap
  generalize Ieee.double.read x = a
  generalize Ieee.double.read y = b
  cases a with
  | number s m i => cases b with
    | number t n j => simp only [Ieee.Datum.order, Option.map_some]; rw [compare_swap, Int.min_comm]
    | infinity t => cases t <;> rfl
    | nan t f => rfl
  | infinity s => cases b with
    | number t n j => cases s <;> rfl
    | infinity t => cases s <;> cases t <;> rfl
    | nan t f => rfl
  | nan s f => cases b <;> rfl

theorem geB_leB (x y : Nat) : geB x y = leB y x := by
  unfold geB leB
  rw [order_swap x y]
  cases FloatKind.f64.format.order y x with
  | none => rfl
  | some o => cases o <;> rfl

theorem refFrom_is {re im : Nat} {C D : Int} (h : IsM re im C D) (w : World) : Calls Try.prog 18 #[.complex .f64 re im] w fun e w' => e = .returned (.tuple #[.agg #[.int .i64 C, .int .i64 D], .bool true]) ∧ Below w.heap.size w w' := by
  obtain ⟨h1, h2, h3⟩ := h
  have hr := rightB_iff.1 h3
  have hU := Flo.U_pos
  have q1 := (order_eq (Flo.isInt_ofInt C (by omega)).val h1).2 rfl
  have q2 := (order_eq (Flo.isInt_ofInt D (by omega)).val h2).2 rfl
  refine refFrom_in re im C D w ?_ (trunc_exact h1 (by omega) hr.2.1 (by omega)) (trunc_exact (b := 11) h2 (by omega) (by omega) (by omega)) q1 q2
  rw [geB_val h1 isInt_c0.val, leB_int h1 isInt_max.val, geB_val h2 isInt_c0.val, ltB_val h2 isInt_12.val, Bool.and_eq_true, Bool.and_eq_true, Bool.and_eq_true, decide_eq_true_iff, decide_eq_true_iff, decide_eq_true_iff, decide_eq_true_iff]
  exact ⟨⟨⟨Int.mul_le_mul_of_nonneg_right hr.1 (by omega), Int.mul_le_mul_of_nonneg_right hr.2.1 (by omega)⟩, Int.mul_le_mul_of_nonneg_right hr.2.2.1 (by omega)⟩, Int.mul_lt_mul_of_pos_right hr.2.2.2 hU⟩

theorem refFrom_none {re im : Nat} (h : ∀ C D, ¬ IsM re im C D) (w : World) : Calls Try.prog 18 #[.complex .f64 re im] w fun e w' => e = .returned (.tuple #[.agg #[.int .i64 0, .int .i64 0], .bool false]) ∧ Below w.heap.size w w' := by
  by_cases h1 : (geB re 0 && leB re 4787326403894837248 && geB im 0 && ltB im 4622945017495814144) = true
  · have h2 := h1
    simp only [Bool.and_eq_true] at h2
    obtain ⟨⟨⟨a1, a2⟩, a3⟩, a4⟩ := h2
    rw [geB_leB] at a1 a3
    have a5 : Ieee.double.order im 4622945017495814144 = some .lt := by unfold ltB at a4; exact beq_iff_eq.1 a4
    obtain ⟨v, v1, v2, v3⟩ := Flo.val_of_bounds isInt_c0 isInt_max (leB_or a1) (leB_or a2)
    obtain ⟨u, u1, u2, u3⟩ := Flo.val_of_bounds isInt_c0 isInt_12 (leB_or a3) (Or.inl a5)
    obtain ⟨C, c1, c2, c3, _, _⟩ := Flo.toIntVal_of v1 (by omega) v3 (by omega)
    obtain ⟨D, d1, d2, d3, d4, _⟩ := Flo.toIntVal_of u1 (by omega) u3 (by omega)
    have hlt : u < 12 * Flo.U := by
      have : FloatKind.f64.format.order im 4622945017495814144 = some (compare u (12 * Flo.U)) := Flo.order_val u1 isInt_12.val
      rw [show FloatKind.f64.format.order im 4622945017495814144 = some .lt from a5, Option.some.injEq] at this
      exact Int.compare_eq_lt.1 this.symm
    have hD : D < 12 := Flo.lt_of_mulU (by omega)
    have hr : rightB C D = true := rightB_iff.2 (by omega)
    refine refFrom_off re im C D w h1 c1 d1 ?_
    rintro ⟨q1, q2⟩
    refine h C D ⟨?_, ?_, hr⟩
    · rw [(order_eq (Flo.isInt_ofInt C (by omega)).val v1).1 q1]; exact v1
    · rw [(order_eq (Flo.isInt_ofInt D (by omega)).val u1).1 q2]; exact u1
  · exact refFrom_out re im w (by simpa using h1)

end Go.Proofs.Ytoopdcnlgdejkaa
