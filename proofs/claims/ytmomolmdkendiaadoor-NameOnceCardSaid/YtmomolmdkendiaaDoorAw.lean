/- The document's examples hold. -/
import Derived.Test.YtmomolmdkendiaaDoorWd
namespace Go.Proofs.YtmomolmdkendiaaDoor
open Go.RowKit Nam
open Go.Lib (decDigits decDigits_two)

theorem at_12 : twin [97] 12 = [97, 126, 49, 50] := by unfold twin; rw [decDigits_two (by decide) (by decide)]; rfl
theorem ex_twin : spT ⟨#[97, 126, 49, 50]⟩ = ⟨#[97]⟩ ∧ spN ⟨#[97, 126, 49, 50]⟩ = 12 ∧ spB ⟨#[97, 126, 49, 50]⟩ = true :=
  sp_twin (t := ⟨#[97]⟩) (by show says [97, 126, 49, 50] = some ([97], some 12); rw [← at_12]; exact says_twin (by decide) (by decide))
theorem ex_name : spT ⟨#[97]⟩ = ⟨#[97]⟩ ∧ spN ⟨#[97]⟩ = -1 ∧ spB ⟨#[97]⟩ = true :=
  sp_name (by show says [97] = some ([97], none); exact says_name (by decide))
theorem ex_none : spT ⟨#[97, 126, 48, 49, 50]⟩ = ⟨#[]⟩ ∧ spN ⟨#[97, 126, 48, 49, 50]⟩ = 0 ∧ spB ⟨#[97, 126, 48, 49, 50]⟩ = false :=
  sp_none (by
    show says [97, 126, 48, 49, 50] = none
    unfold says
    rw [show endOf [97, 126, 48, 49, 50] = 1 from rfl, if_pos (by decide), if_neg (by decide), show List.drop (1 + 1) [97, 126, 48, 49, 50] = [(48 : UInt8), 49, 50] from rfl, node_no_zero (by decide) (by decide)]
    rfl)
theorem ex_show : twinOf ⟨#[97]⟩ 12 = ⟨#[97, 126, 49, 50]⟩ := L_inj (by rw [L_twin]; exact at_12)

set_option maxHeartbeats 4000000 in
theorem awake_any (w : World) : Calls Tryd.prog 6 #[] w fun e w' => e = .returned (.bool true) ∧ w = w' := by
  have c1 := fun w => split_any ⟨#[97, 126, 49, 50]⟩ w (by decide)
  have c2 := fun w => split_any ⟨#[97]⟩ w (by decide)
  have c3 := fun w => split_any ⟨#[97, 126, 48, 49, 50]⟩ w (by decide)
  rw [ex_twin.1, ex_twin.2.1, ex_twin.2.2] at c1
  rw [ex_name.1, ex_name.2.1, ex_name.2.2] at c2
  rw [ex_none.1, ex_none.2.1, ex_none.2.2] at c3
  have r1 := fun w => right_any ⟨#[97, 46, 116, 120, 116]⟩ w (by decide)
  have r2 := fun w => right_any ⟨#[]⟩ w (by decide)
  have r3 := fun w => right_any ⟨#[97, 32, 98]⟩ w (by decide)
  have r4 := fun w => right_any ⟨#[97, 126]⟩ w (by decide)
  have r5 := fun w => right_any ⟨#[97, 47, 98]⟩ w (by decide)
  rw [show isName (L ⟨#[97, 46, 116, 120, 116]⟩) = true by decide] at r1
  rw [show isName (L ⟨#[]⟩) = false by decide] at r2
  rw [show isName (L ⟨#[97, 32, 98]⟩) = false by decide] at r3
  rw [show isName (L ⟨#[97, 126]⟩) = false by decide] at r4
  rw [show isName (L ⟨#[97, 47, 98]⟩) = false by decide] at r5
  have t1 := fun w => twin_small ⟨#[97]⟩ 12 w (by decide) (by decide)
  rw [ex_show] at t1
  simp only [show ((12 : Nat) : Int) = 12 from rfl] at t1
  have C1 := Lib.hid c1
  have C2 := Lib.hid c2
  have C3 := Lib.hid c3
  have R1 := Lib.hid r1
  have R2 := Lib.hid r2
  have R3 := Lib.hid r3
  have R4 := Lib.hid r4
  have R5 := Lib.hid r5
  have T1 := Lib.hid t1
  clear c1 c2 c3 r1 r2 r3 r4 r5 t1
  go_enter Tryd.func6, Tryd.ntmps6
  go_wp2_with (first | (go_at_call 7; (with_reducible refine (C1.out _).mono ?_); rintro e w1 ⟨rfl, rfl⟩) | (go_at_call 7; (with_reducible refine (C2.out _).mono ?_); rintro e w1 ⟨rfl, rfl⟩) | (go_at_call 7; (with_reducible refine (C3.out _).mono ?_); rintro e w1 ⟨rfl, rfl⟩)
                     | (go_at_call 9; (with_reducible refine (R1.out _).mono ?_); rintro e w1 ⟨rfl, rfl⟩) | (go_at_call 9; (with_reducible refine (R2.out _).mono ?_); rintro e w1 ⟨rfl, rfl⟩) | (go_at_call 9; (with_reducible refine (R3.out _).mono ?_); rintro e w1 ⟨rfl, rfl⟩)
                     | (go_at_call 9; (with_reducible refine (R4.out _).mono ?_); rintro e w1 ⟨rfl, rfl⟩) | (go_at_call 9; (with_reducible refine (R5.out _).mono ?_); rintro e w1 ⟨rfl, rfl⟩) | (go_at_call 11; (with_reducible refine (T1.out _).mono ?_); rintro e w1 ⟨rfl, rfl⟩))
  go_ret
  exact ⟨rfl, rfl⟩

end Go.Proofs.YtmomolmdkendiaaDoor
