/- The document's examples hold. -/
import Derived.Test.YtkblehooadojjaaWh
namespace Go.Proofs.Ytkblehooadojjaa
open Go.RowKit Cod

theorem enc_5 : enc 5 = [5] := by rw [enc_small (by decide)]; rfl
theorem enc_2 : enc 2 = [2] := by rw [enc_small (by decide)]; rfl
theorem enc_4 : enc 4 = [4] := by rw [enc_small (by decide)]; rfl
theorem enc_256 : enc 256 = [128, 2] := by rw [enc_big (by decide), show 256 / 128 = 2 from rfl, enc_2]; rfl
theorem bytes_m3 : bytesOf (-3) = ⟨#[5]⟩ := by unfold bytesOf; rw [show fold (-3) = 5 from rfl, enc_5]
theorem bytes_128 : bytesOf 128 = ⟨#[128, 2]⟩ := by unfold bytesOf; rw [show fold 128 = 256 from rfl, enc_256]
theorem text_ab : textOf ⟨#[97, 98]⟩ = ⟨#[4, 97, 98]⟩ := by
  unfold textOf
  rw [show ((ByteArray.mk #[97, 98]).size : Int) = 2 from rfl]
  unfold bytesOf; rw [show fold 2 = 4 from rfl, enc_4]; rfl
theorem bit_1 : bitOf true = ⟨#[2]⟩ := by unfold bitOf bytesOf; rw [show fold (if true then 1 else 0) = 2 from rfl, enc_2]

theorem ex_1 : isNum ⟨#[5, 128, 2, 2, 97, 98, 1]⟩ 0 false = some (-3, 1) := by decide +kernel
theorem ex_2 : isNum ⟨#[5, 128, 2, 2, 97, 98, 1]⟩ 1 false = some (128, 3) := by decide +kernel
theorem ex_3 : isText ⟨#[5, 128, 2, 2, 97, 98, 1]⟩ 3 false 9 = some (⟨#[97]⟩, 5) := by decide +kernel
theorem ex_4 : isDone ⟨#[5, 128, 2, 2, 97, 98, 1]⟩ 5 false = false := by decide +kernel
theorem ex_5 : isNum ⟨#[5, 128, 2, 2, 97, 98, 1]⟩ 5 false = some (49, 6) := by decide +kernel

set_option maxHeartbeats 4000000 in
theorem awake_any (w : World) : Calls Try.prog 8 #[] w fun e w' => e = .returned (.bool true) ∧ Below w.heap.size w w' := by
  have C1 := Lib.hid (fun (w : World) (b : Nat) (hr : Rd 31 w b ⟨#[5, 128, 2, 2, 97, 98, 1]⟩ 0 false) => rnum_yes (by decide) (by decide) hr ex_1)
  have C2 := Lib.hid (fun (w : World) (b : Nat) (hr : Rd 31 w b ⟨#[5, 128, 2, 2, 97, 98, 1]⟩ 1 false) => rnum_yes (by decide) (by decide) hr ex_2)
  have C3 := Lib.hid (fun (w : World) (b : Nat) (hr : Rd 31 w b ⟨#[5, 128, 2, 2, 97, 98, 1]⟩ 3 false) => rtext_yes (most := 9) (by decide) (by decide) hr ex_3)
  have c4 := fun (w : World) (b : Nat) (hr : Rd 31 w b ⟨#[5, 128, 2, 2, 97, 98, 1]⟩ 5 false) => done_any (by decide) hr
  rw [ex_4] at c4
  have C4 := Lib.hid c4
  have C5 := Lib.hid (fun (w : World) (b : Nat) (hr : Rd 31 w b ⟨#[5, 128, 2, 2, 97, 98, 1]⟩ 5 false) => rnum_yes (by decide) (by decide) hr ex_5)
  have n1 := fun w => num_any (-3) w (by decide) (by decide)
  have n2 := fun w => num_any 128 w (by decide) (by decide)
  have n3 := fun w => text_any ⟨#[97, 98]⟩ w (by decide)
  have n4 := fun w => bit_any true w
  rw [bytes_m3] at n1
  rw [bytes_128] at n2
  rw [text_ab] at n3
  rw [bit_1] at n4
  have N1 := Lib.hid n1
  have N2 := Lib.hid n2
  have N3 := Lib.hid n3
  have N4 := Lib.hid n4
  clear c4 n1 n2 n3 n4
  go_enter Try.func8, Try.ntmps8
  go_wp2_with (first | (go_at_call 13; (with_reducible refine (N4.out _).mono ?_); rintro e w9 ⟨rfl, hb9⟩)
                     | (go_at_call 11; (with_reducible refine (N3.out _).mono ?_); rintro e w8 ⟨rfl, hb8⟩)
                     | (go_at_call 9; (with_reducible refine (N2.out _).mono ?_); rintro e w7 ⟨rfl, hb7⟩)
                     | (go_at_call 9; (with_reducible refine (N1.out _).mono ?_); rintro e w6 ⟨rfl, hb6⟩)
                     | (go_at_call 17; (with_reducible refine (C5.out _ _ (hr3.drewN _)).mono ?_); rintro e w5 ⟨rfl, hr5, hb5⟩)
                     | (go_at_call 25; (with_reducible refine (C4.out _ _ hr3).mono ?_); rintro e w4 ⟨rfl, n4, rfl⟩)
                     | (go_at_call 19; (with_reducible refine (C3.out _ _ hr2).mono ?_); rintro e w3 ⟨rfl, hr3, hb3⟩)
                     | (go_at_call 17; (with_reducible refine (C2.out _ _ hr1).mono ?_); rintro e w2 ⟨rfl, hr2, hb2⟩)
                     | (go_at_call 17; (with_reducible refine (C1.out _ _ (Rd.new w 31 _ 0 rfl)).mono ?_); rintro e w1 ⟨rfl, hr1, hb1⟩))
  go_ret
  have B0 := below_alloc (Below.refl w.heap.size w) (.cells #[.string ⟨#[5, 128, 2, 2, 97, 98, 1]⟩, .int .i64 0, .bool false] 31)
  have B3 := below_by (below_by (below_by B0 hb1 (Nat.le_refl _)) hb2 (Nat.le_refl _)) hb3 (Nat.le_refl _)
  have B5 := below_by (below_by B3 (by_drewN (by_refl w3 _) n4) (Nat.le_refl _)) hb5 (Nat.le_refl _)
  exact ⟨rfl, below_then (below_then (below_then (below_then B5 hb6) hb7) hb8) hb9⟩
end Go.Proofs.Ytkblehooadojjaa
