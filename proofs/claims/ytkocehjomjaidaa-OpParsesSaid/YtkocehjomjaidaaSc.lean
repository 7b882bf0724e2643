/- What Next and Before give, and the document's answers. -/
import Derived.Test.YtkocehjomjaidaaSb
namespace Go.Proofs.Ytkocehjomjaidaa
open Go.RowKit

theorem next_no (C D : Int) (w : World) (h : rightB C D = false) : Calls Try.prog 18 #[.int .i64 C, .int .i64 D] w fun e w' => e = .returned (.tuple #[.agg #[.int .i64 0, .int .i64 0], .bool false]) ∧ Below w.heap.size w w' := by
  have H := Lib.hid h
  clear h
  go_enter Try.func18, Try.ntmps18
  go_wp2_with (go_at_call 35; refine (to_no C D _ H.out).mono ?_; rintro e w1 ⟨rfl, hb⟩; obtain ⟨hc, hf⟩ := bcell hb)
  have k0 : w1.cell? ⟨w.heap.size, 0, none⟩ = some (.int .i64 0) := by rw [hc _ _ (by simp)]; simp [go_sem]
  have k1 : w1.cell? ⟨w.heap.size, 1, none⟩ = some (.int .i64 0) := by rw [hc _ _ (by simp)]; simp [go_sem]
  exact bodyPost_ret (v := .tuple #[.agg #[.int .i64 0, .int .i64 0], .bool false]) (by simp [results, Try.results18, go_sem, k0, k1]) rfl ⟨rfl, Below.setCell (Below.setCell (below_then (by go_grown) hb) (Nat.le_refl _) _) (Nat.le_refl _) _⟩

theorem isInt_one : Flo.IsInt 4607182418800017408 1 := Flo.isInt_ofInt 1 (by decide)

theorem is_next (C D : Int) (re im : Nat) (h : rightB C D = true) (h2 : C < 1099511627776) (hs : cSumBits .add .f64 (floatOfInt .f64 C) (floatOfInt .f64 D) 4607182418800017408 0 = some (re, im)) : IsM re im (C + 1) D := by
  have hr := rightB_iff.1 h
  obtain ⟨a, a1, a2⟩ := Flo.add_int (Flo.isInt_ofInt C (by omega)) isInt_one (by omega)
  obtain ⟨b, b1, b2⟩ := Flo.add_int (Flo.isInt_ofInt D (by omega)) isInt_c0 (by omega)
  simp only [cSumBits, a1, b1, Option.bind_some, Option.some.injEq, Prod.mk.injEq] at hs
  obtain ⟨rfl, rfl⟩ := hs
  rw [Int.add_zero] at b2
  exact ⟨a2.val, b2.val, rightB_iff.2 (by omega)⟩

theorem none_next (C D : Int) (re im : Nat) (h : rightB C D = true) (h2 : ¬ C < 1099511627776) (hs : cSumBits .add .f64 (floatOfInt .f64 C) (floatOfInt .f64 D) 4607182418800017408 0 = some (re, im)) (A B : Int) : ¬ IsM re im A B := by
  have hr := rightB_iff.1 h
  obtain ⟨a, a1, a2⟩ := Flo.add_int (Flo.isInt_ofInt C (by omega)) isInt_one (by omega)
  obtain ⟨b, b1, b2⟩ := Flo.add_int (Flo.isInt_ofInt D (by omega)) isInt_c0 (by omega)
  simp only [cSumBits, a1, b1, Option.bind_some, Option.some.injEq, Prod.mk.injEq] at hs
  obtain ⟨rfl, rfl⟩ := hs
  rintro ⟨h3, h4, h5⟩
  have := Flo.eq_of_mulU (val_fun h3 a2.val)
  have := rightB_iff.1 h5
  omega

theorem has_next (C D : Int) (h : rightB C D = true) : ∃ re im, cSumBits .add .f64 (floatOfInt .f64 C) (floatOfInt .f64 D) 4607182418800017408 0 = some (re, im) := by
  have hr := rightB_iff.1 h
  obtain ⟨a, a1, a2⟩ := Flo.add_int (Flo.isInt_ofInt C (by omega)) isInt_one (by omega)
  obtain ⟨b, b1, b2⟩ := Flo.add_int (Flo.isInt_ofInt D (by omega)) isInt_c0 (by omega)
  exact ⟨a, b, by simp only [cSumBits, a1, b1, Option.bind_some]⟩

theorem next_yes (C D : Int) (w : World) (h : rightB C D = true) (h2 : C < 1099511627776) : Calls Try.prog 18 #[.int .i64 C, .int .i64 D] w fun e w' => e = .returned (.tuple #[.agg #[.int .i64 (C + 1), .int .i64 D], .bool true]) ∧ Below w.heap.size w w' := by
  obtain ⟨re, im, hs⟩ : ∃ re im, cSumBits .add .f64 (floatOfInt .f64 C) (floatOfInt .f64 D) 4607182418800017408 0 = some (re, im) := has_next C D h
  have hm := Lib.hid (is_next C D re im h h2 hs)
  have hop := fun t w => run_complex_sum (P := Try.prog) w .add (Or.inl rfl) t .f64 _ _ _ _ re im hs
  have H := Lib.hid h
  clear h hs
  go_enter Try.func18, Try.ntmps18
  go_wp2_with (first | (go_at_call 35; refine (to_yes C D _ H.out).mono ?_; rintro e w1 ⟨rfl, hb⟩; obtain ⟨hc, hf⟩ := bcell hb; have hz : w.heap.size < w1.heap.size := (by have := hb.size; simp at this; omega); unfold numOf)
                      | (go_at_call 36; refine (from_is hm.out _).mono ?_; rintro e w2 ⟨rfl, hb2⟩; obtain ⟨hc2, hf2⟩ := bcell hb2))
  have k0 : w2.cell? ⟨w.heap.size, 0, none⟩ = some (.int .i64 0) := by rw [hc2 _ _ hz, hc _ _ (by simp)]; simp [go_sem]
  have k1 : w2.cell? ⟨w.heap.size, 1, none⟩ = some (.int .i64 0) := by rw [hc2 _ _ hz, hc _ _ (by simp)]; simp [go_sem]
  exact bodyPost_ret (v := .tuple #[.agg #[.int .i64 (C + 1), .int .i64 D], .bool true]) (by simp [results, Try.results18, go_sem, k0, k1]) rfl ⟨rfl, Below.setCell (Below.setCell (below_then (below_then (by go_grown) hb) hb2) (Nat.le_refl _) _) (Nat.le_refl _) _⟩

/-- The moment behind the last counter: none. -/
theorem next_end (C D : Int) (w : World) (h : rightB C D = true) (h2 : ¬ C < 1099511627776) : Calls Try.prog 18 #[.int .i64 C, .int .i64 D] w fun e w' => e = .returned (.tuple #[.agg #[.int .i64 0, .int .i64 0], .bool false]) ∧ Below w.heap.size w w' := by
  obtain ⟨re, im, hs⟩ := has_next C D h
  have hm : Hid (∀ A B, ¬ IsM re im A B) := Lib.hid (none_next C D re im h h2 hs)
  have hop := fun t w => run_complex_sum (P := Try.prog) w .add (Or.inl rfl) t .f64 _ _ _ _ re im hs
  have H := Lib.hid h
  clear h hs
  go_enter Try.func18, Try.ntmps18
  go_wp2_with (first | (go_at_call 35; refine (to_yes C D _ H.out).mono ?_; rintro e w1 ⟨rfl, hb⟩; obtain ⟨hc, hf⟩ := bcell hb; have hz : w.heap.size < w1.heap.size := (by have := hb.size; simp at this; omega); unfold numOf)
                      | (go_at_call 36; refine (from_none hm.out _).mono ?_; rintro e w2 ⟨rfl, hb2⟩; obtain ⟨hc2, hf2⟩ := bcell hb2))
  have k0 : w2.cell? ⟨w.heap.size, 0, none⟩ = some (.int .i64 0) := by rw [hc2 _ _ hz, hc _ _ (by simp)]; simp [go_sem]
  have k1 : w2.cell? ⟨w.heap.size, 1, none⟩ = some (.int .i64 0) := by rw [hc2 _ _ hz, hc _ _ (by simp)]; simp [go_sem]
  exact bodyPost_ret (v := .tuple #[.agg #[.int .i64 0, .int .i64 0], .bool false]) (by simp [results, Try.results18, go_sem, k0, k1]) rfl ⟨rfl, Below.setCell (Below.setCell (below_then (below_then (by go_grown) hb) hb2) (Nat.le_refl _) _) (Nat.le_refl _) _⟩

/-- The answer of Next, and the document's: some (c + 1, dev), or none. -/
def nextC (C D : Int) : Int := if rightB C D && decide (C < 1099511627776) then C + 1 else 0
def nextD (C D : Int) : Int := if rightB C D && decide (C < 1099511627776) then D else 0
def nextB (C D : Int) : Bool := rightB C D && decide (C < 1099511627776)

theorem next_any (C D : Int) (w : World) : Calls Try.prog 18 #[.int .i64 C, .int .i64 D] w fun e w' => e = .returned (.tuple #[.agg #[.int .i64 (nextC C D), .int .i64 (nextD C D)], .bool (nextB C D)]) ∧ Below w.heap.size w w' := by
  by_cases h : rightB C D = true
  · by_cases h2 : C < 1099511627776
    · have e1 : nextC C D = C + 1 := by simp [nextC, h, h2]
      have e2 : nextD C D = D := by simp [nextD, h, h2]
      have e3 : nextB C D = true := by simp [nextB, h, h2]
      rw [e1, e2, e3]; exact next_yes C D w h h2
    · have e1 : nextC C D = 0 := by simp [nextC, h2]
      have e2 : nextD C D = 0 := by simp [nextD, h2]
      have e3 : nextB C D = false := by simp [nextB, h2]
      rw [e1, e2, e3]; exact next_end C D w h h2
  · have h' : rightB C D = false := by simpa using h
    have e1 : nextC C D = 0 := by simp [nextC, h']
    have e2 : nextD C D = 0 := by simp [nextD, h']
    have e3 : nextB C D = false := by simp [nextB, h']
    rw [e1, e2, e3]; exact next_no C D w h'

end Go.Proofs.Ytkocehjomjaidaa
