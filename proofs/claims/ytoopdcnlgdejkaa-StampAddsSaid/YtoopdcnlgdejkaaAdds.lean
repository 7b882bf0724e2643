/- StampAdds is proved: the numbers of moments of one device differ by their counters, those of one counter by their devices times i. Conditions: none. -/
import Derived.Test.YtoopdcnlgdejkaaOpn
import Derived.RegionTactic
import Derived.ChangeAlike
import Derived.BigRegion
namespace Go.Proofs.Ytoopdcnlgdejkaa
open Go.ChangeShapes Go.WideShapes Go.ChangeAt Go.RowKit Go.Joins
set_option linter.unusedVariables false

set_option maxHeartbeats 4000000 in
theorem adds_out (A B k m : Int) (hk0 : 0 ≤ k) (hk1 : k ≤ 65535) (hm0 : 0 ≤ m) (hm1 : m ≤ 255) (w : World) (h : A < 0 ∨ 549755813888 < A ∨ B < 0 ∨ 12 ≤ B) :
    Calls Try.prog 7 #[.agg #[.int .i64 A, .int .i64 B], .int .u16 k, .int .u8 m] w fun e w' => e = .returned (.bool true) ∧ Below w.heap.size w w' := by
  by_cases h1 : A < 0
  · clear h
    go_enter Try.func7, Try.ntmps7
    go_wp2
    go_region
    all_goals
      go_wp2_with (go_at_call 10; (with_reducible refine (awake_any _).mono ?_); rintro e w1 ⟨rfl, hb1⟩)
      go_ret
      exact ⟨rfl, below_then (by go_grown) hb1⟩
  · by_cases h2 : 549755813888 < A
    · clear h
      go_enter Try.func7, Try.ntmps7
      go_wp2
      go_region
      all_goals
        go_wp2_with (go_at_call 10; (with_reducible refine (awake_any _).mono ?_); rintro e w1 ⟨rfl, hb1⟩)
        go_ret
        exact ⟨rfl, below_then (by go_grown) hb1⟩
    · by_cases h3 : B < 0
      · clear h
        go_enter Try.func7, Try.ntmps7
        go_wp2
        go_region
        all_goals
          go_wp2_with (go_at_call 10; (with_reducible refine (awake_any _).mono ?_); rintro e w1 ⟨rfl, hb1⟩)
          go_ret
          exact ⟨rfl, below_then (by go_grown) hb1⟩
      · have h4 : 12 ≤ B := by omega
        clear h
        go_enter Try.func7, Try.ntmps7
        go_wp2
        go_region
        all_goals
          go_wp2_with (go_at_call 10; (with_reducible refine (awake_any _).mono ?_); rintro e w1 ⟨rfl, hb1⟩)
          go_ret
          exact ⟨rfl, below_then (by go_grown) hb1⟩

set_option maxHeartbeats 4000000 in
theorem adds_in (A B k m : Int) (hk0 : 0 ≤ k) (hk1 : k ≤ 65535) (hm0 : 0 ≤ m) (hm1 : m ≤ 255) (w : World) (h1 : 0 ≤ A) (h2 : A ≤ 549755813888) (h3 : 0 ≤ B) (h4 : B < 12) (r1 i1 r2 i2 : Nat)
    (s1 : cSumBits .sub .f64 (floatOfInt .f64 (A + k)) (floatOfInt .f64 B) (floatOfInt .f64 A) (floatOfInt .f64 B) = some (r1, i1))
    (s2 : cSumBits .sub .f64 (floatOfInt .f64 A) (floatOfInt .f64 (m % 12)) (floatOfInt .f64 A) (floatOfInt .f64 B) = some (r2, i2))
    (p1 : FloatKind.f64.format.order r1 (floatOfInt .f64 k) = some .eq) (p2 : FloatKind.f64.format.order i1 0 = some .eq)
    (p3 : FloatKind.f64.format.order r2 0 = some .eq) (p4 : FloatKind.f64.format.order i2 (floatOfInt .f64 (m % 12 - B)) = some .eq) :
    Calls Try.prog 7 #[.agg #[.int .i64 A, .int .i64 B], .int .u16 k, .int .u8 m] w fun e w' => e = .returned (.bool true) ∧ Below w.heap.size w w' := by
  have H1 := Lib.hid (show rightB A B = true from rightB_iff.2 (by omega))
  have H2 := Lib.hid (show rightB (A + k) B = true from rightB_iff.2 (by omega))
  have H3 := Lib.hid (show rightB A (m % 12) = true from rightB_iff.2 (by omega))
  have hop1 := fun t w => run_complex_sum (P := Try.prog) w .sub (Or.inr rfl) t .f64 _ _ _ _ r1 i1 s1
  have hop2 := fun t w => run_complex_sum (P := Try.prog) w .sub (Or.inr rfl) t .f64 _ _ _ _ r2 i2 s2
  have hm2 : 0 ≤ m % 12 := by omega
  have hm3 : m % 12 ≤ 11 := by omega
  clear s1 s2
  by_cases hk : 0 < k
  · have H4 := Lib.hid (show befB A B (A + k) B = true from by unfold befB; exact decide_eq_true (by omega))
    go_enter Try.func7, Try.ntmps7
    go_wp2
    go_region
    all_goals
      go_wp2_with (first | (go_at_call 13; (with_reducible refine (before_any A B (A + k) B _).mono ?_); rintro e w5 ⟨rfl, hb5⟩; rw [H4.out]; obtain ⟨hc5, hf5⟩ := bcell hb5; have hz5 : w.heap.size + 2 < w5.heap.size := (by have := hb5.size; (try simp at this); omega); have hy5 : w.heap.size + 1 < w5.heap.size := (by omega); have hx5 : w.heap.size < w5.heap.size := (by omega); have B5 := below_then (w := w) (by first | assumption | go_grown) hb5)
                                                            | (go_at_call 10; (with_reducible refine (awake_any _).mono ?_); rintro e w4 ⟨rfl, hb4⟩; obtain ⟨hc4, hf4⟩ := bcell hb4; have hz4 : w.heap.size + 2 < w4.heap.size := (by have := hb4.size; (try simp at this); omega); have hy4 : w.heap.size + 1 < w4.heap.size := (by omega); have hx4 : w.heap.size < w4.heap.size := (by omega); have B4 := below_then (w := w) (by first | assumption | go_grown) hb4)
                                                            | (go_at_call 15; (with_reducible refine (to_yes A (m % 12) _ H3.out).mono ?_); rintro e w3 ⟨rfl, hb3⟩; unfold numOf; obtain ⟨hc3, hf3⟩ := bcell hb3; have hz3 : w.heap.size + 2 < w3.heap.size := (by have := hb3.size; (try simp at this); omega); have hy3 : w.heap.size + 1 < w3.heap.size := (by omega); have hx3 : w.heap.size < w3.heap.size := (by omega); have B3 := below_then (w := w) (by first | assumption | go_grown) hb3)
                                                            | (go_at_call 15; (with_reducible refine (to_yes (A + k) B _ H2.out).mono ?_); rintro e w2 ⟨rfl, hb2⟩; unfold numOf; obtain ⟨hc2, hf2⟩ := bcell hb2; have hz2 : w.heap.size + 2 < w2.heap.size := (by have := hb2.size; (try simp at this); omega); have hy2 : w.heap.size + 1 < w2.heap.size := (by omega); have hx2 : w.heap.size < w2.heap.size := (by omega); have B2 := below_then (w := w) (by first | assumption | go_grown) hb2)
                                                            | (go_at_call 15; (with_reducible refine (to_yes A B _ H1.out).mono ?_); rintro e w1 ⟨rfl, hb1⟩; unfold numOf; obtain ⟨hc1, hf1⟩ := bcell hb1; have hz1 : w.heap.size + 2 < w1.heap.size := (by have := hb1.size; (try simp at this); omega); have hy1 : w.heap.size + 1 < w1.heap.size := (by omega); have hx1 : w.heap.size < w1.heap.size := (by omega); have B1 := below_then (w := w) (by first | assumption | go_grown) hb1))
      go_ret
      exact ⟨rfl, by assumption⟩
  · have H4 := Lib.hid (show befB A B (A + k) B = false from by unfold befB; exact decide_eq_false (by omega))
    have hd : decide (0 < k) = false := decide_eq_false hk
    clear hk
    go_enter Try.func7, Try.ntmps7
    go_wp2
    go_region
    all_goals
      go_wp2_with (first | (go_at_call 13; (with_reducible refine (before_any A B (A + k) B _).mono ?_); rintro e w5 ⟨rfl, hb5⟩; rw [H4.out]; obtain ⟨hc5, hf5⟩ := bcell hb5; have hz5 : w.heap.size + 2 < w5.heap.size := (by have := hb5.size; (try simp at this); omega); have hy5 : w.heap.size + 1 < w5.heap.size := (by omega); have hx5 : w.heap.size < w5.heap.size := (by omega); have B5 := below_then (w := w) (by first | assumption | go_grown) hb5)
                                                            | (go_at_call 10; (with_reducible refine (awake_any _).mono ?_); rintro e w4 ⟨rfl, hb4⟩; obtain ⟨hc4, hf4⟩ := bcell hb4; have hz4 : w.heap.size + 2 < w4.heap.size := (by have := hb4.size; (try simp at this); omega); have hy4 : w.heap.size + 1 < w4.heap.size := (by omega); have hx4 : w.heap.size < w4.heap.size := (by omega); have B4 := below_then (w := w) (by first | assumption | go_grown) hb4)
                                                            | (go_at_call 15; (with_reducible refine (to_yes A (m % 12) _ H3.out).mono ?_); rintro e w3 ⟨rfl, hb3⟩; unfold numOf; obtain ⟨hc3, hf3⟩ := bcell hb3; have hz3 : w.heap.size + 2 < w3.heap.size := (by have := hb3.size; (try simp at this); omega); have hy3 : w.heap.size + 1 < w3.heap.size := (by omega); have hx3 : w.heap.size < w3.heap.size := (by omega); have B3 := below_then (w := w) (by first | assumption | go_grown) hb3)
                                                            | (go_at_call 15; (with_reducible refine (to_yes (A + k) B _ H2.out).mono ?_); rintro e w2 ⟨rfl, hb2⟩; unfold numOf; obtain ⟨hc2, hf2⟩ := bcell hb2; have hz2 : w.heap.size + 2 < w2.heap.size := (by have := hb2.size; (try simp at this); omega); have hy2 : w.heap.size + 1 < w2.heap.size := (by omega); have hx2 : w.heap.size < w2.heap.size := (by omega); have B2 := below_then (w := w) (by first | assumption | go_grown) hb2)
                                                            | (go_at_call 15; (with_reducible refine (to_yes A B _ H1.out).mono ?_); rintro e w1 ⟨rfl, hb1⟩; unfold numOf; obtain ⟨hc1, hf1⟩ := bcell hb1; have hz1 : w.heap.size + 2 < w1.heap.size := (by have := hb1.size; (try simp at this); omega); have hy1 : w.heap.size + 1 < w1.heap.size := (by omega); have hx1 : w.heap.size < w1.heap.size := (by omega); have B1 := below_then (w := w) (by first | assumption | go_grown) hb1))
      go_ret
      exact ⟨rfl, by assumption⟩

theorem adds_walk (A B k m : Int) (wk : (Lit.int .u16 k).wf = true) (wm : (Lit.int .u8 m).wf = true) (w : World) :
    Calls Try.prog 7 #[.agg #[.int .i64 A, .int .i64 B], .int .u16 k, .int .u8 m] w fun e w' => e = .returned (.bool true) ∧ Below w.heap.size w w' := by
  have hk : 0 ≤ k ∧ k ≤ 65535 := by simpa [Lit.wf, IntKind.min, IntKind.max, IntKind.signed, IntKind.bits] using wk
  have hm : 0 ≤ m ∧ m ≤ 255 := by simpa [Lit.wf, IntKind.min, IntKind.max, IntKind.signed, IntKind.bits] using wm
  by_cases h : A < 0 ∨ 549755813888 < A ∨ B < 0 ∨ 12 ≤ B
  · exact adds_out A B k m hk.1 hk.2 hm.1 hm.2 w h
  · have a1 := Flo.isInt_ofInt A (by omega)
    have a2 := Flo.isInt_ofInt (A + k) (by omega)
    have a3 := Flo.isInt_ofInt B (by omega)
    have a4 := Flo.isInt_ofInt (m % 12) (by omega)
    have a5 := Flo.isInt_ofInt k (by omega)
    have a6 := Flo.isInt_ofInt (m % 12 - B) (by omega)
    obtain ⟨r1, x1, y1⟩ := Flo.sub_int a2 a1 (by omega)
    obtain ⟨i1, x2, y2⟩ := Flo.sub_int a3 a3 (by omega)
    obtain ⟨r2, x3, y3⟩ := Flo.sub_int a1 a1 (by omega)
    obtain ⟨i2, x4, y4⟩ := Flo.sub_int a4 a3 (by omega)
    refine adds_in A B k m hk.1 hk.2 hm.1 hm.2 w (by omega) (by omega) (by omega) (by omega) r1 i1 r2 i2 (by simp only [cSumBits, x1, x2, Option.bind_some]) (by simp only [cSumBits, x3, x4, Option.bind_some]) ?_ ?_ ?_ ?_
    · exact (order_eq y1.val a5.val).2 (by congr 1; omega)
    · exact (order_eq y2.val isInt_c0.val).2 (by congr 1; omega)
    · exact (order_eq y3.val isInt_c0.val).2 (by congr 1; omega)
    · exact (order_eq y4.val a6.val).2 rfl

set_option maxRecDepth 100000 in
theorem adds_lifted (os : Os) (started : os.Started) (H : Type) (enc : TypeId × Value → H) :
    ReturnsInHanded {} Try.checked os 7 .any (Rows.stampAddsSpec.pre6 enc Try.prog Try.f7 Rows.stampAddsRow.domain false) (Rows.stampAddsSpec.post enc Try.prog Try.f7 false true false false) := by
  refine returnsInHanded_of_change (C := Try.checked) own started (by kernel_rfl) Try.func7
    (ChangeSpec.witness6 (enc := enc) (C := Try.checked) false ⟨#[], #[.agg #[.int .i64 0, .int .i64 0], .int .u16 0, .int .u8 0], []⟩ 8 (by kernel_rfl) (by kernel_rfl) (by kernel_rfl) (by kernel_rfl)) ?_
  intro W base args ds gs before hval0 hW _ _
  have hval : ∀ (j : Nat) t v, Try.f7.params[j]? = some t → args[j]? = some v → Value.okWide Try.prog W .any base t v := hval0
  have hW' := hW
  obtain ⟨p, q, hA0, hV, rfl, _, _⟩ := hW
  have hA : DataW.TrodAll enc Try.prog W 0 (fun _ => true) true Try.f7.params.toList args.toList ds p := hA0
  rw [Try.params7] at hA hval
  obtain ⟨v0, v1, v2, d0, d1, d2, p0, p1, p2, rfl, rfl, rfl, h0, h1, h2⟩ := trodAll_three hA
  obtain ⟨A, B, rfl⟩ := open_stamp (hval 0 23 v0 rfl rfl) h0
  obtain ⟨k, rfl, rfl, rfl, wk⟩ := open_int Try.underlying36 (hval 1 36 v1 rfl rfl) h1
  obtain ⟨m, rfl, rfl, rfl, wm⟩ := open_int Try.underlying5 (hval 2 5 v2 rfl rfl) h2
  refine (adds_walk A B k m wk wm W).mono fun e W' ⟨he, hb⟩ => ?_
  subst he
  exact ⟨_, rfl, Frm.law_post (by kernel_rfl) (by kernel_rfl) (by kernel_rfl) Try.underlying4 rfl rfl hW' hb⟩

theorem adds_holds : Rows.StampAddsSaid :=
  OpenClaim.holds_of_wide 7 Try.f7 rfl rfl rfl rfl rfl rfl rfl ⟨rfl, rfl, rfl, rfl, rfl⟩ rfl rfl rfl rfl rfl (by kernel_rfl) Try.func7 (by kernel_rfl)
    (of_decide_eq_true (by kernel_rfl)) (by unfold Func.isWrapper; first | (rw [if_pos (by decide +kernel)]; kernel_rfl) | (rw [if_neg (by decide +kernel)]; exact ⟨rfl, rfl⟩))
    (fun os started H enc _ => adds_lifted os started H enc)

end Go.Proofs.Ytoopdcnlgdejkaa
