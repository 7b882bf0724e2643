/- StampBack is proved: a moment that may be is that of its number, and a number that is a moment's is that moment's. Conditions: none. -/
import Derived.Test.YtoopdcnlgdejkaaOpn
namespace Go.Proofs.Ytoopdcnlgdejkaa
open Go.ChangeShapes Go.WideShapes Go.ChangeAt Go.RowKit Go.Joins

theorem isM_num {A B : Int} (h : rightB A B = true) : IsM (floatOfInt .f64 A) (floatOfInt .f64 B) A B := by
  have hr := rightB_iff.1 h
  exact ⟨(Flo.isInt_ofInt A (by omega)).val, (Flo.isInt_ofInt B (by omega)).val, h⟩
theorem isM_00 : IsM 0 0 0 0 := ⟨isInt_c0.val, isInt_c0.val, by decide⟩

/-- What From gives of the number that To gave. -/
theorem from_of_to (A B : Int) : ∃ C D : Int, (rightB A B = true → A = C ∧ B = D) ∧ ∀ w, Calls Try.prog 17 #[.complex .f64 (toR A B) (toI A B)] w fun e w' => e = .returned (.tuple #[.agg #[.int .i64 C, .int .i64 D], .bool true]) ∧ Below w.heap.size w w' := by
  by_cases h : rightB A B = true
  · have e1 : toR A B = floatOfInt .f64 A := by simp [toR, h]
    have e2 : toI A B = floatOfInt .f64 B := by simp [toI, h]
    exact ⟨A, B, fun _ => ⟨rfl, rfl⟩, fun w => by rw [e1, e2]; exact from_is (isM_num h) w⟩
  · have e1 : toR A B = 0 := by simp [toR, h]
    have e2 : toI A B = 0 := by simp [toI, h]
    exact ⟨0, 0, fun k => absurd k h, fun w => by rw [e1, e2]; exact from_is isM_00 w⟩

theorem back_walk (A B : Int) (re im : Nat) (w : World) : Calls Try.prog 5 #[.agg #[.int .i64 A, .int .i64 B], .float .f64 re, .float .f64 im] w fun e w' => e = .returned (.bool true) ∧ Below w.heap.size w w' := by
  obtain ⟨C, D, b, hcase, hF, hG⟩ := from_both re im
  clear hG
  obtain ⟨X, Y, hXY, hT⟩ := from_of_to A B
  have HF := Lib.hid hF
  have HT := Lib.hid hT
  clear hF hT
  have hq : b = true → rightB C D = true ∧ FloatKind.f64.format.order (toR C D) re = some .eq ∧ FloatKind.f64.format.order (toI C D) im = some .eq := by
    intro hb
    rcases hcase with ⟨_, h⟩ | ⟨h, _⟩
    · have hr := rightB_iff.1 h.ok
      have e1 : toR C D = floatOfInt .f64 C := by simp [toR, h.ok]
      have e2 : toI C D = floatOfInt .f64 D := by simp [toI, h.ok]
      rw [e1, e2]
      exact ⟨h.ok, (order_eq (Flo.isInt_ofInt C (by omega)).val h.vr).2 rfl, (order_eq (Flo.isInt_ofInt D (by omega)).val h.vi).2 rfl⟩
    · rw [hb] at h; cases h
  clear hcase
  by_cases hr : rightB A B = true
  · obtain ⟨rfl, rfl⟩ := hXY hr
    clear hXY
    cases b
    · clear hq
      go_enter Try.func5, Try.ntmps5
      go_wp2_with (first | (go_at_call 15; (with_reducible refine (to_any A B _).mono ?_); rintro e w1 ⟨rfl, hb1⟩; obtain ⟨hc1, hf1⟩ := bcell hb1; have hz1 : w.heap.size < w1.heap.size := (by have := hb1.size; simp at this; omega))
                                        | (go_at_call 17; (with_reducible refine (HT.out _).mono ?_); rintro e w2 ⟨rfl, hb2⟩; obtain ⟨hc2, hf2⟩ := bcell hb2; have hz2 : w.heap.size < w2.heap.size := (by have := hb2.size; omega); have hy2 : w.heap.size ≤ w2.heap.size := (by omega))
                                        | (go_at_call 17; (with_reducible refine (HF.out _).mono ?_); rintro e w3 ⟨rfl, hb3⟩; obtain ⟨hc3, hf3⟩ := bcell hb3; have hz3 : w2.heap.size < w3.heap.size := (by have := hb3.size; simp at this; omega); have hy3 : w2.heap.size ≤ w3.heap.size := (by omega); have hx3 : w.heap.size < w3.heap.size := (by omega); have hv3 : w.heap.size ≤ w3.heap.size := (by omega))
                                        | (go_at_call 15; (with_reducible refine (to_any C D _).mono ?_); rintro e w4 ⟨rfl, hb4⟩; obtain ⟨hc4, hf4⟩ := bcell hb4; have hz4 : w3.heap.size < w4.heap.size := (by have := hb4.size; simp at this; omega); have hy4 : w2.heap.size < w4.heap.size := (by omega); have hx4 : w.heap.size < w4.heap.size := (by omega))
                                        | (go_at_call 10; (with_reducible refine (awake_any _).mono ?_); rintro e w5 ⟨rfl, hb5⟩; obtain ⟨hc5, hf5⟩ := bcell hb5; have hz5 : w3.heap.size < w5.heap.size := (by have := hb5.size; omega); have hy5 : w2.heap.size < w5.heap.size := (by omega); have hx5 : w.heap.size < w5.heap.size := (by omega))
                                        | (go_at_call 11; (with_reducible refine (right_any A B _).mono ?_); rintro e w6 ⟨rfl, hb6⟩; obtain ⟨hc6, hf6⟩ := bcell hb6))
      go_ret
      exact ⟨rfl, below_then (below_then (below_then (below_alloc (below_then (below_alloc (below_then (below_then (by go_grown) hb1) hb2) _) hb3) _) hb4) hb5) hb6⟩
    · obtain ⟨q1, q2, q3⟩ := hq rfl
      clear hq
      go_enter Try.func5, Try.ntmps5
      go_wp2_with (first | (go_at_call 15; (with_reducible refine (to_any A B _).mono ?_); rintro e w1 ⟨rfl, hb1⟩; obtain ⟨hc1, hf1⟩ := bcell hb1; have hz1 : w.heap.size < w1.heap.size := (by have := hb1.size; simp at this; omega))
                                        | (go_at_call 17; (with_reducible refine (HT.out _).mono ?_); rintro e w2 ⟨rfl, hb2⟩; obtain ⟨hc2, hf2⟩ := bcell hb2; have hz2 : w.heap.size < w2.heap.size := (by have := hb2.size; omega); have hy2 : w.heap.size ≤ w2.heap.size := (by omega))
                                        | (go_at_call 17; (with_reducible refine (HF.out _).mono ?_); rintro e w3 ⟨rfl, hb3⟩; obtain ⟨hc3, hf3⟩ := bcell hb3; have hz3 : w2.heap.size < w3.heap.size := (by have := hb3.size; simp at this; omega); have hy3 : w2.heap.size ≤ w3.heap.size := (by omega); have hx3 : w.heap.size < w3.heap.size := (by omega); have hv3 : w.heap.size ≤ w3.heap.size := (by omega))
                                        | (go_at_call 15; (with_reducible refine (to_any C D _).mono ?_); rintro e w4 ⟨rfl, hb4⟩; obtain ⟨hc4, hf4⟩ := bcell hb4; have hz4 : w3.heap.size < w4.heap.size := (by have := hb4.size; simp at this; omega); have hy4 : w2.heap.size < w4.heap.size := (by omega); have hx4 : w.heap.size < w4.heap.size := (by omega))
                                        | (go_at_call 10; (with_reducible refine (awake_any _).mono ?_); rintro e w5 ⟨rfl, hb5⟩; obtain ⟨hc5, hf5⟩ := bcell hb5; have hz5 : w3.heap.size < w5.heap.size := (by have := hb5.size; omega); have hy5 : w2.heap.size < w5.heap.size := (by omega); have hx5 : w.heap.size < w5.heap.size := (by omega))
                                        | (go_at_call 11; (with_reducible refine (right_any A B _).mono ?_); rintro e w6 ⟨rfl, hb6⟩; obtain ⟨hc6, hf6⟩ := bcell hb6))
      go_ret
      exact ⟨rfl, below_then (below_then (below_then (below_alloc (below_then (below_alloc (below_then (below_then (by go_grown) hb1) hb2) _) hb3) _) hb4) hb5) hb6⟩
  · rw [Bool.not_eq_true] at hr
    clear hXY
    cases b
    · clear hq
      go_enter Try.func5, Try.ntmps5
      go_wp2_with (first | (go_at_call 15; (with_reducible refine (to_any A B _).mono ?_); rintro e w1 ⟨rfl, hb1⟩; obtain ⟨hc1, hf1⟩ := bcell hb1; have hz1 : w.heap.size < w1.heap.size := (by have := hb1.size; simp at this; omega))
                                        | (go_at_call 17; (with_reducible refine (HT.out _).mono ?_); rintro e w2 ⟨rfl, hb2⟩; obtain ⟨hc2, hf2⟩ := bcell hb2; have hz2 : w.heap.size < w2.heap.size := (by have := hb2.size; omega); have hy2 : w.heap.size ≤ w2.heap.size := (by omega))
                                        | (go_at_call 17; (with_reducible refine (HF.out _).mono ?_); rintro e w3 ⟨rfl, hb3⟩; obtain ⟨hc3, hf3⟩ := bcell hb3; have hz3 : w2.heap.size < w3.heap.size := (by have := hb3.size; simp at this; omega); have hy3 : w2.heap.size ≤ w3.heap.size := (by omega); have hx3 : w.heap.size < w3.heap.size := (by omega); have hv3 : w.heap.size ≤ w3.heap.size := (by omega))
                                        | (go_at_call 15; (with_reducible refine (to_any C D _).mono ?_); rintro e w4 ⟨rfl, hb4⟩; obtain ⟨hc4, hf4⟩ := bcell hb4; have hz4 : w3.heap.size < w4.heap.size := (by have := hb4.size; simp at this; omega); have hy4 : w2.heap.size < w4.heap.size := (by omega); have hx4 : w.heap.size < w4.heap.size := (by omega))
                                        | (go_at_call 10; (with_reducible refine (awake_any _).mono ?_); rintro e w5 ⟨rfl, hb5⟩; obtain ⟨hc5, hf5⟩ := bcell hb5; have hz5 : w3.heap.size < w5.heap.size := (by have := hb5.size; omega); have hy5 : w2.heap.size < w5.heap.size := (by omega); have hx5 : w.heap.size < w5.heap.size := (by omega))
                                        | (go_at_call 11; (with_reducible refine (right_any A B _).mono ?_); rintro e w6 ⟨rfl, hb6⟩; obtain ⟨hc6, hf6⟩ := bcell hb6))
      go_ret
      exact ⟨rfl, below_then (below_then (below_then (below_alloc (below_then (below_alloc (below_then (below_then (by go_grown) hb1) hb2) _) hb3) _) hb4) hb5) hb6⟩
    · obtain ⟨q1, q2, q3⟩ := hq rfl
      clear hq
      go_enter Try.func5, Try.ntmps5
      go_wp2_with (first | (go_at_call 15; (with_reducible refine (to_any A B _).mono ?_); rintro e w1 ⟨rfl, hb1⟩; obtain ⟨hc1, hf1⟩ := bcell hb1; have hz1 : w.heap.size < w1.heap.size := (by have := hb1.size; simp at this; omega))
                                        | (go_at_call 17; (with_reducible refine (HT.out _).mono ?_); rintro e w2 ⟨rfl, hb2⟩; obtain ⟨hc2, hf2⟩ := bcell hb2; have hz2 : w.heap.size < w2.heap.size := (by have := hb2.size; omega); have hy2 : w.heap.size ≤ w2.heap.size := (by omega))
                                        | (go_at_call 17; (with_reducible refine (HF.out _).mono ?_); rintro e w3 ⟨rfl, hb3⟩; obtain ⟨hc3, hf3⟩ := bcell hb3; have hz3 : w2.heap.size < w3.heap.size := (by have := hb3.size; simp at this; omega); have hy3 : w2.heap.size ≤ w3.heap.size := (by omega); have hx3 : w.heap.size < w3.heap.size := (by omega); have hv3 : w.heap.size ≤ w3.heap.size := (by omega))
                                        | (go_at_call 15; (with_reducible refine (to_any C D _).mono ?_); rintro e w4 ⟨rfl, hb4⟩; obtain ⟨hc4, hf4⟩ := bcell hb4; have hz4 : w3.heap.size < w4.heap.size := (by have := hb4.size; simp at this; omega); have hy4 : w2.heap.size < w4.heap.size := (by omega); have hx4 : w.heap.size < w4.heap.size := (by omega))
                                        | (go_at_call 10; (with_reducible refine (awake_any _).mono ?_); rintro e w5 ⟨rfl, hb5⟩; obtain ⟨hc5, hf5⟩ := bcell hb5; have hz5 : w3.heap.size < w5.heap.size := (by have := hb5.size; omega); have hy5 : w2.heap.size < w5.heap.size := (by omega); have hx5 : w.heap.size < w5.heap.size := (by omega))
                                        | (go_at_call 11; (with_reducible refine (right_any A B _).mono ?_); rintro e w6 ⟨rfl, hb6⟩; obtain ⟨hc6, hf6⟩ := bcell hb6))
      go_ret
      exact ⟨rfl, below_then (below_then (below_then (below_alloc (below_then (below_alloc (below_then (below_then (by go_grown) hb1) hb2) _) hb3) _) hb4) hb5) hb6⟩

set_option maxRecDepth 100000 in
theorem back_lifted (os : Os) (started : os.Started) (H : Type) (enc : TypeId × Value → H) :
    ReturnsInHanded {} Try.checked os 5 .any (Rows.stampBackSpec.pre6 enc Try.prog Try.f5 Rows.stampBackRow.domain false) (Rows.stampBackSpec.post enc Try.prog Try.f5 false true false false) := by
  refine returnsInHanded_of_change (C := Try.checked) own started (by kernel_rfl) Try.func5
    (ChangeSpec.witness6 (enc := enc) (C := Try.checked) false ⟨#[], #[.agg #[.int .i64 0, .int .i64 0], .float .f64 0, .float .f64 0], []⟩ 8 (by kernel_rfl) (by kernel_rfl) (by kernel_rfl) (by kernel_rfl)) ?_
  intro W base args ds gs before hval0 hW _ _
  have hval : ∀ (j : Nat) t v, Try.f5.params[j]? = some t → args[j]? = some v → Value.okWide Try.prog W .any base t v := hval0
  have hW' := hW
  obtain ⟨p, q, hA0, hV, rfl, _, _⟩ := hW
  have hA : DataW.TrodAll enc Try.prog W 0 (fun _ => true) true Try.f5.params.toList args.toList ds p := hA0
  rw [Try.params5] at hA hval
  obtain ⟨v0, v1, v2, d0, d1, d2, p0, p1, p2, rfl, rfl, rfl, h0, h1, h2⟩ := trodAll_three hA
  obtain ⟨A, B, rfl⟩ := open_stamp (hval 0 23 v0 rfl rfl) h0
  obtain ⟨re, rfl, rfl, rfl, _⟩ := open_float Try.underlying29 (hval 1 29 v1 rfl rfl) h1
  obtain ⟨im, rfl, rfl, rfl, _⟩ := open_float Try.underlying29 (hval 2 29 v2 rfl rfl) h2
  refine (back_walk A B re im W).mono fun e W' ⟨he, hb⟩ => ?_
  subst he
  exact ⟨_, rfl, Frm.law_post (by kernel_rfl) (by kernel_rfl) (by kernel_rfl) Try.underlying4 rfl rfl hW' hb⟩

theorem back_holds : Rows.StampBackSaid :=
  OpenClaim.holds_of_wide 5 Try.f5 rfl rfl rfl rfl rfl rfl rfl ⟨rfl, rfl, rfl, rfl, rfl⟩ rfl rfl rfl rfl rfl (by kernel_rfl) Try.func5 (by kernel_rfl)
    (of_decide_eq_true (by kernel_rfl)) (by unfold Func.isWrapper; first | (rw [if_pos (by decide +kernel)]; kernel_rfl) | (rw [if_neg (by decide +kernel)]; exact ⟨rfl, rfl⟩))
    (fun os started H enc _ => back_lifted os started H enc)

end Go.Proofs.Ytoopdcnlgdejkaa
