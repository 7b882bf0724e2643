/- What Right gives, of the program and of the document: layer op. -/
import Derived.Test.YtkocehjomjaidaaSd
import Derived.Test.YtkocehjomjaidaaNa
namespace Go.Proofs.Ytkocehjomjaidaa
open Go.RowKit Nam

def atB (C D : Int) : Bool := decide (1 ≤ C ∧ C ≤ 1099511627776 ∧ 0 ≤ D ∧ D < 12)
def cntB (n : Int) : Bool := decide (1 ≤ n ∧ n ≤ 1099511627776)
def mvB (K U : Int) : Bool := decide (2 ≤ K ∧ K < 64 ∧ 0 ≤ U ∧ U < 64 ∧ K ≠ U)
def opB (C D I M K U : Int) (s : ByteArray) : Bool := atB C D && (cntB I && (cntB M && (mvB K U && isName (L s))))
theorem bool_of {p : Prop} [Decidable p] {b : Bool} (h : b = true ↔ p) : Value.bool b = .bool (decide p) := by
  congr 1; rw [Bool.eq_iff_iff, h, decide_eq_true_iff]
theorem atB_right {C D : Int} (h : rightB C D = true) : atB C D = decide (1 ≤ C) := by
  have := rightB_iff.1 h
  unfold atB; rw [Bool.eq_iff_iff, decide_eq_true_iff, decide_eq_true_iff]; omega
theorem atB_wrong {C D : Int} (h : rightB C D = false) : atB C D = false := by
  unfold rightB at h; unfold atB; rw [decide_eq_false_iff_not] at h ⊢; omega

theorem rightAt_any (C D : Int) (w : World) : Calls Try.prog 20 #[.agg #[.int .i64 C, .int .i64 D]] w fun e w' => e = .returned (.bool (atB C D)) ∧ Below w.heap.size w w' := by
  have c := fun w => stRight_any C D w
  cases h : rightB C D
  · have HA := Lib.hid (atB_wrong h)
    rw [h] at c
    have H := Lib.hid c
    clear c h
    go_enter Try.func20, Try.ntmps20
    go_wp2_with (go_at_call 37; (with_reducible refine (H.out _).mono ?_); rintro e w1 ⟨rfl, hb⟩; obtain ⟨hc, hf⟩ := bcell hb)
    go_ret
    exact ⟨ret_bool HA.out, below_then (below_alloc (Below.refl _ _) _) hb⟩
  · have HA := Lib.hid (atB_right h)
    rw [h] at c
    have H := Lib.hid c
    clear c h
    go_enter Try.func20, Try.ntmps20
    go_wp2_with (go_at_call 37; (with_reducible refine (H.out _).mono ?_); rintro e w1 ⟨rfl, hb⟩; obtain ⟨hc, hf⟩ := bcell hb)
    go_ret
    exact ⟨ret_bool HA.out, below_then (below_alloc (Below.refl _ _) _) hb⟩

theorem rightCount_any (n : Int) (w : World) : Calls Try.prog 21 #[.int .i64 n] w fun e w' => e = .returned (.bool (cntB n)) ∧ w = w' := by
  go_enter Try.func21, Try.ntmps21
  go_wp2
  all_goals go_ret
  all_goals exact ⟨ret_of (bool_of (by simp; omega)), rfl⟩

theorem rightMove_any (K U : Int) (w : World) : Calls Try.prog 22 #[.int .i64 K, .int .i64 U] w fun e w' => e = .returned (.bool (mvB K U)) ∧ w = w' := by
  go_enter Try.func22, Try.ntmps22
  go_wp2
  all_goals go_ret
  all_goals exact ⟨ret_of (bool_of (by simp; omega)), rfl⟩

set_option maxHeartbeats 2000000 in
theorem opRight_any (C D I M K U : Int) (s : ByteArray) (w : World) (hs : s.size ≤ 9223372036854775807) :
    Calls Try.prog 11 #[.agg #[.int .i64 C, .int .i64 D, .int .i64 I, .int .i64 M, .int .i64 K, .int .i64 U, .string s]] w fun e w' => e = .returned (.bool (opB C D I M K U s)) ∧ Below w.heap.size w w' := by
  have c1 := fun w => rightAt_any C D w
  have c2 := fun w => rightCount_any I w
  have c3 := fun w => rightCount_any M w
  have c4 := fun w => rightMove_any K U w
  have H5 := Lib.hid (fun w => nmRight_any s w hs)
  unfold opB
  generalize atB C D = a at *
  generalize cntB I = b at *
  generalize cntB M = c at *
  generalize mvB K U = d at *
  have H1 := Lib.hid c1
  have H2 := Lib.hid c2
  have H3 := Lib.hid c3
  have H4 := Lib.hid c4
  clear c1 c2 c3 c4
  generalize isName (L s) = x at *
  rcases a with _ | _
  rotate_left
  rcases b with _ | _
  rotate_left
  rcases c with _ | _
  rotate_left
  rcases d with _ | _
  all_goals
    go_enter Try.func11, Try.ntmps11
    go_wp2_with (first | (go_at_call 20; (with_reducible refine (H1.out _).mono ?_); rintro e w1 ⟨rfl, hb⟩; obtain ⟨hc, hf⟩ := bcell hb) | (go_at_call 21; (with_reducible refine (H2.out _).mono ?_); rintro e w2 ⟨rfl, rfl⟩) | (go_at_call 21; (with_reducible refine (H3.out _).mono ?_); rintro e w2 ⟨rfl, rfl⟩) | (go_at_call 22; (with_reducible refine (H4.out _).mono ?_); rintro e w2 ⟨rfl, rfl⟩) | (go_at_call 23; (with_reducible refine (H5.out _).mono ?_); rintro e w2 ⟨rfl, rfl⟩))
    go_ret
    exact ⟨by simp, below_then (below_alloc (Below.refl _ _) _) hb⟩

theorem opB_wrong {C D I M K U : Int} {s : ByteArray} (h : rightB C D = false) : opB C D I M K U s = false := by
  unfold opB; rw [atB_wrong h]; rfl
theorem opB_out {C D I M K U : Int} {s : ByteArray} (h : ¬ (1 ≤ C ∧ 1 ≤ I ∧ I ≤ 1099511627776 ∧ 1 ≤ M ∧ M ≤ 1099511627776 ∧ 2 ≤ K ∧ K < 64 ∧ 0 ≤ U ∧ U < 64 ∧ K ≠ U)) : opB C D I M K U s = false := by
  unfold opB atB cntB mvB
  rw [Bool.eq_false_iff]; intro e
  simp only [Bool.and_eq_true, decide_eq_true_iff] at e
  omega
theorem opB_in {C D I M K U : Int} {s : ByteArray} (h0 : rightB C D = true) (h : 1 ≤ C ∧ 1 ≤ I ∧ I ≤ 1099511627776 ∧ 1 ≤ M ∧ M ≤ 1099511627776 ∧ 2 ≤ K ∧ K < 64 ∧ 0 ≤ U ∧ U < 64 ∧ K ≠ U) : opB C D I M K U s = isName (L s) := by
  have h0 := rightB_iff.1 h0
  unfold opB atB cntB mvB
  rw [decide_eq_true (by omega), decide_eq_true (by omega), decide_eq_true (by omega), decide_eq_true (by omega)]; simp

set_option maxHeartbeats 4000000 in
theorem opRefRight_any (C D I M K U : Int) (s : ByteArray) (w : World) (hs : s.size ≤ 9223372036854775807) :
    Calls Try.prog 12 #[.agg #[.int .i64 C, .int .i64 D, .int .i64 I, .int .i64 M, .int .i64 K, .int .i64 U, .string s]] w fun e w' => e = .returned (.bool (opB C D I M K U s)) ∧ Below w.heap.size w w' := by
  have c1 := fun w => stRefRight_any C D w
  have H5 := Lib.hid (fun w => nmRefRight_any s w hs)
  cases h0 : rightB C D
  · have HB := Lib.hid (opB_wrong (I := I) (M := M) (K := K) (U := U) (s := s) h0)
    rw [h0] at c1
    have H1 := Lib.hid c1
    clear c1 h0
    go_enter Try.func12, Try.ntmps12
    go_wp2_with (first | (go_at_call 24; (with_reducible refine (H1.out _).mono ?_); rintro e w1 ⟨rfl, hb⟩; obtain ⟨hc, hf⟩ := bcell hb))
    go_ret
    exact ⟨ret_bool HB.out, below_then (below_alloc (Below.refl _ _) _) hb⟩
  · have HB := Lib.hid (fun h => opB_in (I := I) (M := M) (K := K) (U := U) (s := s) h0 h)
    rw [h0] at c1
    have H1 := Lib.hid c1
    clear c1 h0
    by_cases hin : 1 ≤ C ∧ 1 ≤ I ∧ I ≤ 1099511627776 ∧ 1 ≤ M ∧ M ≤ 1099511627776 ∧ 2 ≤ K ∧ K < 64 ∧ 0 ≤ U ∧ U < 64 ∧ K ≠ U
    · have HB := Lib.hid (HB.out hin)
      generalize isName (L s) = x at *
      obtain ⟨h1, h2, h3, h4, h5, h6, h7, h8, h9, h10⟩ := hin
      have h10' : ¬ U = K := fun e => h10 e.symm
      go_enter Try.func12, Try.ntmps12
      go_wp2_with (first | (go_at_call 24; (with_reducible refine (H1.out _).mono ?_); rintro e w1 ⟨rfl, hb⟩; obtain ⟨hc, hf⟩ := bcell hb) | (go_at_call 25; (with_reducible refine (H5.out _).mono ?_); rintro e w2 ⟨rfl, rfl⟩))
      go_ret
      exact ⟨ret_bool (by rw [show (U != K) = true by simpa using h10', Bool.true_and]; exact HB.out), below_then (below_alloc (Below.refl _ _) _) hb⟩
    · have HO := Lib.hid (opB_out (s := s) (D := D) hin)
      have HI := Lib.hid hin
      clear hin
      go_enter Try.func12, Try.ntmps12
      go_wp2_with (first | (go_at_call 24; (with_reducible refine (H1.out _).mono ?_); rintro e w1 ⟨rfl, hb⟩; obtain ⟨hc, hf⟩ := bcell hb) | (go_at_call 25; (with_reducible refine (H5.out _).mono ?_); rintro e w2 ⟨rfl, rfl⟩))
      all_goals go_ret
      all_goals first | exact ⟨ret_bool HO.out, below_then (below_alloc (Below.refl _ _) _) hb⟩ | (have hi := HI.out; have e : (U != K) = false := (by simp; omega); exact ⟨ret_bool (by rw [e]; exact HO.out), below_then (below_alloc (Below.refl _ _) _) hb⟩)
end Go.Proofs.Ytkocehjomjaidaa
