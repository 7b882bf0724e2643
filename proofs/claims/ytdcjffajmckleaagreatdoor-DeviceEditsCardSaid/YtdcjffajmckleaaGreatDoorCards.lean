/-
  DERIVED. GIVEN WITH THE SEED: THE CARDS: each row of YtdcjffajmckleaaGreatDoorRows.lean that lists a variable, with what it lists TIED to the program's text (the seventh form; the later family's looks); each row that meets fmt, with fmt's text TOLD by the authors' own Lean function (tested against real Go, not proved from fmt's source: count such statements apart). THE CARD IS WHAT COUNTS. Prove the row's statement (the work); the ties are given (YtdcjffajmckleaaGreatDoorTie.lean); close each card by the builder's one call (the guide's Derived/Test/ToyasCard.lean, 'card_holds'). Laid BY PROGRAM, IN A SANDBOX (cutbox-door.mjs). By AI agents, Wed Nov 11 2026. No macro, syntax, notation, axiom, sorry.
-/
import Derived.Test.YtdcjffajmckleaaGreatDoorRows
import GoSem.ClaimSeven
namespace Go.Proofs.YtdcjffajmckleaaGreatDoor
namespace Rows

/-- THE TIED CARD OF 'bargemanlaw18.DeviceEdits'. -/
def deviceEditsCard : Claim7 := { stood := { row := deviceEditsRow, standIns := [], harness := (true, "6b440484a0b03d5e31f6d096c8c5accc0fe897dc17eee7afaa4cc962965475ac"), looks := false }, kinds := [], alts := [], laidByText := true, laidKinds := [.data, .data, .data], laidTests := true, laidLooks := .later }
def DeviceEditsCardSaid : Prop := Claim7.holds Tryz.pinned (.plain (OpenSpec.ofChange deviceEditsSpec)) deviceEditsCard

/-- THE TIED CARD OF 'bargemanlaw18.DeviceFollows'. -/
def deviceFollowsCard : Claim7 := { stood := { row := deviceFollowsRow, standIns := [], harness := (true, "6b440484a0b03d5e31f6d096c8c5accc0fe897dc17eee7afaa4cc962965475ac"), looks := false }, kinds := [], alts := [], laidByText := true, laidKinds := [.data, .data, .data], laidTests := true, laidLooks := .later }
def DeviceFollowsCardSaid : Prop := Claim7.holds Tryz.pinned (.plain (OpenSpec.ofChange deviceFollowsSpec)) deviceFollowsCard

/-- THE TIED CARD OF 'bargemanlaw18.DeviceLeaves'. -/
def deviceLeavesCard : Claim7 := { stood := { row := deviceLeavesRow, standIns := [], harness := (true, "6b440484a0b03d5e31f6d096c8c5accc0fe897dc17eee7afaa4cc962965475ac"), looks := false }, kinds := [], alts := [], laidByText := true, laidKinds := [.data, .data, .data], laidTests := true, laidLooks := .later }
def DeviceLeavesCardSaid : Prop := Claim7.holds Tryz.pinned (.plain (OpenSpec.ofChange deviceLeavesSpec)) deviceLeavesCard

/-- THE SECOND FORM's CARD OF 'bargemanlaw18.DeviceEdits'. -/
def deviceEditsUptoCard : Claim7 := { stood := { row := deviceEditsUptoRow, standIns := [], harness := (true, "6b440484a0b03d5e31f6d096c8c5accc0fe897dc17eee7afaa4cc962965475ac"), looks := false }, kinds := [], alts := [], laidByText := true, laidKinds := [.data, .data, .data], laidTests := true, laidLooks := .later }
def DeviceEditsUptoCardSaid : Prop := Claim7.holds Tryz.pinned (.plain (OpenSpec.upto deviceEditsSpec)) deviceEditsUptoCard

/-- THE SECOND FORM's CARD OF 'bargemanlaw18.DeviceFollows'. -/
def deviceFollowsUptoCard : Claim7 := { stood := { row := deviceFollowsUptoRow, standIns := [], harness := (true, "6b440484a0b03d5e31f6d096c8c5accc0fe897dc17eee7afaa4cc962965475ac"), looks := false }, kinds := [], alts := [], laidByText := true, laidKinds := [.data, .data, .data], laidTests := true, laidLooks := .later }
def DeviceFollowsUptoCardSaid : Prop := Claim7.holds Tryz.pinned (.plain (OpenSpec.upto deviceFollowsSpec)) deviceFollowsUptoCard

/-- THE SECOND FORM's CARD OF 'bargemanlaw18.DeviceLeaves'. -/
def deviceLeavesUptoCard : Claim7 := { stood := { row := deviceLeavesUptoRow, standIns := [], harness := (true, "6b440484a0b03d5e31f6d096c8c5accc0fe897dc17eee7afaa4cc962965475ac"), looks := false }, kinds := [], alts := [], laidByText := true, laidKinds := [.data, .data, .data], laidTests := true, laidLooks := .later }
def DeviceLeavesUptoCardSaid : Prop := Claim7.holds Tryz.pinned (.plain (OpenSpec.upto deviceLeavesSpec)) deviceLeavesUptoCard
end Rows
end Go.Proofs.YtdcjffajmckleaaGreatDoor
