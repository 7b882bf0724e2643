/- The document's examples hold: layer op. -/
import Derived.Test.YtkocehjomjaidaaOg
namespace Go.Proofs.Ytkocehjomjaidaa
open Go.RowKit Nam Cod

theorem mk_yes : mkB 2 1 1 2 5 0 ⟨#[97]⟩ = true := by decide +kernel
theorem mk_no : mkB 2 1 1 2 5 5 ⟨#[97]⟩ = false := by decide +kernel
theorem next_ex : nextC 2 1 = 3 ∧ nextD 2 1 = 1 := by decide +kernel

set_option maxRecDepth 100000 in
set_option maxHeartbeats 4000000 in
theorem awake_any (w : World) : Calls Try.prog 8 #[] w fun e w' => e = .returned (.bool true) ∧ Below w.heap.size w w' := by
  have hP := fun w => opPrint_any 3 1 1 2 5 0 ⟨#[97]⟩ w ⟨by unfold i64; decide, by unfold i64; decide, by unfold i64; decide, by unfold i64; decide, by unfold i64; decide, by unfold i64; decide⟩ (by decide)
  rw [print_ex] at hP
  have hQ := fun w => opParse_any ⟨#[6, 2, 2, 4, 10, 0, 2, 97]⟩ w (by decide)
  rw [parse_ex] at hQ
  simp only [Option.getD_some, Mv.val, Option.isSome_some] at hQ
  have hM := fun w => opMake_any 2 1 1 2 5 0 ⟨#[97]⟩ w (by decide)
  rw [mk_yes, next_ex.1, next_ex.2] at hM
  simp only [mkI, mkS, if_true] at hM
  have hN := fun w => opMake_any 2 1 1 2 5 5 ⟨#[97]⟩ w (by decide)
  rw [mk_no] at hN
  simp only [mkI, mkS, if_neg Bool.false_ne_true] at hN
  have hR := fun w => opRight_any 3 1 1 2 5 0 ⟨#[97]⟩ w (by decide)
  rw [right_ex] at hR
  have HP := Lib.hid hP
  have HQ := Lib.hid hQ
  have HM := Lib.hid hM
  have HN := Lib.hid hN
  have HR := Lib.hid hR
  clear hP hQ hM hN hR
  go_enter Try.func8, Try.ntmps8
  go_wp2_with fail
  have hA := OpIn.new w 3 1 1 2 5 0 ⟨#[97]⟩
  have hB := below_alloc (Below.refl w.heap.size w) (.cells #[.int .i64 3, .int .i64 1, .int .i64 1, .int .i64 2, .int .i64 5, .int .i64 0, .string ⟨#[97]⟩] 25)
  generalize w.alloc (.cells #[.int .i64 3, .int .i64 1, .int .i64 1, .int .i64 2, .int .i64 5, .int .i64 0, .string ⟨#[97]⟩] 25) = W0 at *
  generalize hn : w.heap.size = n1 at hA ⊢
  clear hn
  refine (HP.out _).mono ?_
  rintro e w1 ⟨rfl, hb1⟩
  have hA1 := hA.below hb1
  have hB1 := below_then hB hb1
  clear hA hB hb1 W0
  go_wp2_with fail
  refine (HQ.out _).mono ?_
  rintro e w2 ⟨rfl, hb2⟩
  have hA2 := (hA1.below hb2).alloc (.cells #[.int .i64 3, .int .i64 1, .int .i64 1, .int .i64 2, .int .i64 5, .int .i64 0, .string ⟨#[97]⟩] 25)
  have hC2 := OpIn.new w2 3 1 1 2 5 0 ⟨#[97]⟩
  have hB2 := below_alloc (below_then hB1 hb2) (.cells #[.int .i64 3, .int .i64 1, .int .i64 1, .int .i64 2, .int .i64 5, .int .i64 0, .string ⟨#[97]⟩] 25)
  clear hA1 hB1 hb2
  go_wp2_with fail
  generalize w2.alloc (.cells #[.int .i64 3, .int .i64 1, .int .i64 1, .int .i64 2, .int .i64 5, .int .i64 0, .string ⟨#[97]⟩] 25) = W2 at *
  generalize w2.heap.size = n2 at *
  refine (HM.out _).mono ?_
  rintro e w3 ⟨rfl, hb3⟩
  have hA3 := (hA2.below hb3).alloc (.cells #[.int .i64 3, .int .i64 1, .int .i64 1, .int .i64 2, .int .i64 5, .int .i64 0, .string ⟨#[97]⟩] 25)
  have hC3 := (hC2.below hb3).alloc (.cells #[.int .i64 3, .int .i64 1, .int .i64 1, .int .i64 2, .int .i64 5, .int .i64 0, .string ⟨#[97]⟩] 25)
  have hD3 := OpIn.new w3 3 1 1 2 5 0 ⟨#[97]⟩
  have hB3 := below_alloc (below_then hB2 hb3) (.cells #[.int .i64 3, .int .i64 1, .int .i64 1, .int .i64 2, .int .i64 5, .int .i64 0, .string ⟨#[97]⟩] 25)
  clear hA2 hC2 hB2 hb3
  go_wp2_with fail
  generalize w3.alloc (.cells #[.int .i64 3, .int .i64 1, .int .i64 1, .int .i64 2, .int .i64 5, .int .i64 0, .string ⟨#[97]⟩] 25) = W3 at *
  generalize w3.heap.size = n3 at *
  refine (HN.out _).mono ?_
  rintro e w4 ⟨rfl, hb4⟩
  have hA4 := (hA3.below hb4).alloc (.cells #[.int .i64 0, .int .i64 0, .int .i64 0, .int .i64 0, .int .i64 0, .int .i64 0, .string ⟨#[]⟩] 25)
  have hC4 := (hC3.below hb4).alloc (.cells #[.int .i64 0, .int .i64 0, .int .i64 0, .int .i64 0, .int .i64 0, .int .i64 0, .string ⟨#[]⟩] 25)
  have hD4 := (hD3.below hb4).alloc (.cells #[.int .i64 0, .int .i64 0, .int .i64 0, .int .i64 0, .int .i64 0, .int .i64 0, .string ⟨#[]⟩] 25)
  have hB4 := below_alloc (below_then hB3 hb4) (.cells #[.int .i64 0, .int .i64 0, .int .i64 0, .int .i64 0, .int .i64 0, .int .i64 0, .string ⟨#[]⟩] 25)
  clear hA3 hC3 hD3 hB3 hb4
  go_wp2_with (refine load_op rfl _ rfl _ rfl _ _ _ _ _ _ _ hA4 ?_)
  generalize w4.alloc (.cells #[.int .i64 0, .int .i64 0, .int .i64 0, .int .i64 0, .int .i64 0, .int .i64 0, .string ⟨#[]⟩] 25) = W4 at *
  refine (HR.out _).mono ?_
  rintro e w5 ⟨rfl, hb5⟩
  have hA5 := hA4.below hb5
  have hC5 := hC4.below hb5
  have hD5 := hD4.below hb5
  have hB5 := below_then hB4 hb5
  clear hA4 hC4 hD4 hB4 hb5
  go_wp2_with (first | (refine load_op_if rfl _ rfl _ rfl _ _ _ _ _ _ _ hA5 ?_) | (refine load_op_if rfl _ rfl _ rfl _ _ _ _ _ _ _ hC5 ?_) | (refine load_op_if rfl _ rfl _ rfl _ _ _ _ _ _ _ hD5 ?_))
  go_ret
  exact ⟨rfl, hB5⟩
end Go.Proofs.Ytkocehjomjaidaa
