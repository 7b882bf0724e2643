/- The document's examples hold. -/
import Derived.Test.YtajiekodfdbkkaaDoorSl
namespace Go.Proofs.YtajiekodfdbkkaaDoor
open Go.RowKit Crc

theorem sum_known : sumB ⟨#[49, 50, 51, 52, 53, 54, 55, 56, 57]⟩ = 3421780262 := by decide +kernel
theorem four_258 : four 258 = ⟨#[2, 1, 0, 0]⟩ := by decide +kernel
theorem ab_shut : opT ⟨#[97, 98]⟩ = ⟨#[]⟩ ∧ opC ⟨#[97, 98]⟩ = -1 := by
  have hg : ¬ isSeal ⟨#[97, 98]⟩ = true := fun h => absurd (of_decide_eq_true h).1 (by decide)
  rw [opT, opC, if_neg hg, if_neg hg]
  exact ⟨rfl, rfl⟩
theorem ab_open : opT (sealOf ⟨#[97, 98]⟩ ++ ⟨#[120]⟩) = ⟨#[97, 98]⟩ ∧ opC (sealOf ⟨#[97, 98]⟩ ++ ⟨#[120]⟩) = 10 := seal_opens _ _ (by decide)
theorem ab_size : (sealOf ⟨#[97, 98]⟩).size = 10 := seal_size _

set_option maxHeartbeats 4000000 in
theorem awake_any (w : World) (hL : Laid w) : Calls Tryd.prog 7 #[] w fun e w' => e = .returned (.bool true) ∧ Below w.heap.size w w' := by
  obtain ⟨S, hS⟩ : ∃ S, sealOf ⟨#[97, 98]⟩ = S := ⟨_, rfl⟩
  obtain ⟨E, hE⟩ : ∃ E, sealOf ⟨#[]⟩ = E := ⟨_, rfl⟩
  have cA : ∀ w, Laid w → Calls Tryd.prog 12 #[.string ⟨#[97, 98]⟩] w fun e w' => e = .returned (.string S) ∧ Below w.heap.size w w' := fun w h => by rw [← hS]; exact seal_any _ w (by decide) h
  have cE : ∀ w, Laid w → Calls Tryd.prog 12 #[.string ⟨#[]⟩] w fun e w' => e = .returned (.string E) ∧ Below w.heap.size w w' := fun w h => by rw [← hE]; exact seal_any _ w (by decide) h
  have cO : ∀ w, Laid w → Calls Tryd.prog 8 #[.string (S ++ ⟨#[120]⟩)] w fun e w' => e = .returned (.tuple #[.string ⟨#[97, 98]⟩, .int .i64 10]) ∧ Below w.heap.size w w' := fun w h => by
    have k := open_any (S ++ ⟨#[120]⟩) w (by rw [ByteArray.size_append, ← hS, ab_size]; decide) h
    rw [← hS, ab_open.1, ab_open.2] at k
    rw [← hS]; exact k
  have cN : ∀ w, Laid w → Calls Tryd.prog 8 #[.string ⟨#[97, 98]⟩] w fun e w' => e = .returned (.tuple #[.string ⟨#[]⟩, .int .i64 (-1)]) ∧ Below w.heap.size w w' := fun w h => by
    have k := open_any ⟨#[97, 98]⟩ w (by decide) h
    rwa [ab_shut.1, ab_shut.2] at k
  have cS : ∀ w, Laid w → Calls Tryd.prog 10 #[.string ⟨#[49, 50, 51, 52, 53, 54, 55, 56, 57]⟩] w fun e w' => e = .returned (.int .u32 3421780262) ∧ w = w' := fun w h => by
    have k := sumB_any ⟨#[49, 50, 51, 52, 53, 54, 55, 56, 57]⟩ w (by decide) h
    rwa [sum_known] at k
  have cF : ∀ w, Calls Tryd.prog 14 #[.int .u32 258] w fun e w' => e = .returned (.string ⟨#[2, 1, 0, 0]⟩) ∧ Below w.heap.size w w' := fun w => by
    have k := four_any 258 w (by decide)
    rwa [four_258] at k
  have sS : S.size ≤ 10 := by rw [← hS, ab_size]; omega
  have sE : (E.size : Int) = 8 := by rw [← hE, seal_size]; rfl
  have CA := Lib.hid cA
  have CE := Lib.hid cE
  have CO := Lib.hid cO
  have CN := Lib.hid cN
  have CS := Lib.hid cS
  have CF := Lib.hid cF
  have HL := Lib.hid hL
  clear cA cE cO cN cS cF hS hE hL
  go_enter Tryd.func7, Tryd.ntmps7
  go_wp2_with (first | (go_at_call 12; (with_reducible refine (CA.out _ HL.out).mono ?_); rintro e w1 ⟨rfl, hb1⟩)
                     | (go_at_call 8; (with_reducible refine (CO.out _ (laid_below HL.out hb1)).mono ?_); rintro e w2 ⟨rfl, hb2⟩)
                     | (go_at_call 8; (with_reducible refine (CN.out _ (laid_below (laid_below HL.out hb1) hb2)).mono ?_); rintro e w3 ⟨rfl, hb3⟩; have HL3 := Lib.hid (laid_below (laid_below (laid_below HL.out hb1) hb2) hb3))
                     | (go_at_call 10; (with_reducible refine (CS.out _ HL3.out).mono ?_); rintro e w4 ⟨rfl, rfl⟩)
                     | (go_at_call 14; (with_reducible refine (CF.out _).mono ?_); rintro e w5 ⟨rfl, hb5⟩)
                     | (go_at_call 12; (with_reducible refine (CE.out _ (laid_below HL3.out hb5)).mono ?_); rintro e w6 ⟨rfl, hb6⟩))
  go_ret
  exact ⟨rfl, below_then (below_then (below_then (below_then hb1 hb2) hb3) hb5) hb6⟩

end Go.Proofs.YtajiekodfdbkkaaDoor
