/-
  DERIVED. GIVEN WITH THE SEED: THE CARDS: each row of YtndahomgglpdhaaDoorRows.lean that lists a variable, with what it lists TIED to the program's text (the seventh form; the later family's looks); each row that meets fmt, with fmt's text TOLD by the authors' own Lean function (tested against real Go, not proved from fmt's source: count such statements apart). THE CARD IS WHAT COUNTS. Prove the row's statement (the work); the ties are given (YtndahomgglpdhaaDoorTie.lean); close each card by the builder's one call (the guide's Derived/Test/ToyasCard.lean, 'card_holds'). Laid BY PROGRAM, IN A SANDBOX (cutbox-door.mjs). By AI agents, Wed Nov 11 2026. No macro, syntax, notation, axiom, sorry.
-/
import Derived.Test.YtndahomgglpdhaaDoorRows
import GoSem.ClaimSeven
namespace Go.Proofs.YtndahomgglpdhaaDoor
namespace Rows

/-- THE TIED CARD OF 'bargemanlaw15.FrameTells'. -/
def frameTellsCard : Claim7 := { stood := { row := frameTellsRow, standIns := [], harness := (true, "592bd563c67d30f64e5f2d516a984832c0f7d2e182453aec19ea26cfb8f3d092"), looks := false }, kinds := [], alts := [], laidByText := true, laidKinds := [.data], laidTests := true, laidLooks := .later }
def FrameTellsCardSaid : Prop := Claim7.holds Tryd.pinned (.plain (OpenSpec.ofChange frameTellsSpec)) frameTellsCard

/-- THE TIED CARD OF 'bargemanlaw15.FrameParses'. -/
def frameParsesCard : Claim7 := { stood := { row := frameParsesRow, standIns := [], harness := (true, "592bd563c67d30f64e5f2d516a984832c0f7d2e182453aec19ea26cfb8f3d092"), looks := false }, kinds := [], alts := [], laidByText := true, laidKinds := [.data], laidTests := true, laidLooks := .later }
def FrameParsesCardSaid : Prop := Claim7.holds Tryd.pinned (.plain (OpenSpec.ofChange frameParsesSpec)) frameParsesCard

/-- THE TIED CARD OF 'bargemanlaw15.FrameBack'. -/
def frameBackCard : Claim7 := { stood := { row := frameBackRow, standIns := [], harness := (true, "592bd563c67d30f64e5f2d516a984832c0f7d2e182453aec19ea26cfb8f3d092"), looks := false }, kinds := [], alts := [], laidByText := true, laidKinds := [.data], laidTests := true, laidLooks := .later }
def FrameBackCardSaid : Prop := Claim7.holds Tryd.pinned (.plain (OpenSpec.ofChange frameBackSpec)) frameBackCard

/-- THE TIED CARD OF 'bargemanlaw15.FrameGifts'. -/
def frameGiftsCard : Claim7 := { stood := { row := frameGiftsRow, standIns := [], harness := (true, "592bd563c67d30f64e5f2d516a984832c0f7d2e182453aec19ea26cfb8f3d092"), looks := false }, kinds := [], alts := [], laidByText := true, laidKinds := [.data], laidTests := true, laidLooks := .later }
def FrameGiftsCardSaid : Prop := Claim7.holds Tryd.pinned (.plain (OpenSpec.ofChange frameGiftsSpec)) frameGiftsCard

/-- THE TIED CARD OF 'bargemanlaw15.FrameOrder'. -/
def frameOrderCard : Claim7 := { stood := { row := frameOrderRow, standIns := [], harness := (true, "592bd563c67d30f64e5f2d516a984832c0f7d2e182453aec19ea26cfb8f3d092"), looks := false }, kinds := [], alts := [], laidByText := true, laidKinds := [.data], laidTests := true, laidLooks := .later }
def FrameOrderCardSaid : Prop := Claim7.holds Tryd.pinned (.plain (OpenSpec.ofChange frameOrderSpec)) frameOrderCard

/-- THE SECOND FORM's CARD OF 'bargemanlaw15.FrameTells'. -/
def frameTellsUptoCard : Claim7 := { stood := { row := frameTellsUptoRow, standIns := [], harness := (true, "592bd563c67d30f64e5f2d516a984832c0f7d2e182453aec19ea26cfb8f3d092"), looks := false }, kinds := [], alts := [], laidByText := true, laidKinds := [.data], laidTests := true, laidLooks := .later }
def FrameTellsUptoCardSaid : Prop := Claim7.holds Tryd.pinned (.plain (OpenSpec.upto frameTellsSpec)) frameTellsUptoCard

/-- THE SECOND FORM's CARD OF 'bargemanlaw15.FrameParses'. -/
def frameParsesUptoCard : Claim7 := { stood := { row := frameParsesUptoRow, standIns := [], harness := (true, "592bd563c67d30f64e5f2d516a984832c0f7d2e182453aec19ea26cfb8f3d092"), looks := false }, kinds := [], alts := [], laidByText := true, laidKinds := [.data], laidTests := true, laidLooks := .later }
def FrameParsesUptoCardSaid : Prop := Claim7.holds Tryd.pinned (.plain (OpenSpec.upto frameParsesSpec)) frameParsesUptoCard

/-- THE SECOND FORM's CARD OF 'bargemanlaw15.FrameBack'. -/
def frameBackUptoCard : Claim7 := { stood := { row := frameBackUptoRow, standIns := [], harness := (true, "592bd563c67d30f64e5f2d516a984832c0f7d2e182453aec19ea26cfb8f3d092"), looks := false }, kinds := [], alts := [], laidByText := true, laidKinds := [.data], laidTests := true, laidLooks := .later }
def FrameBackUptoCardSaid : Prop := Claim7.holds Tryd.pinned (.plain (OpenSpec.upto frameBackSpec)) frameBackUptoCard

/-- THE SECOND FORM's CARD OF 'bargemanlaw15.FrameGifts'. -/
def frameGiftsUptoCard : Claim7 := { stood := { row := frameGiftsUptoRow, standIns := [], harness := (true, "592bd563c67d30f64e5f2d516a984832c0f7d2e182453aec19ea26cfb8f3d092"), looks := false }, kinds := [], alts := [], laidByText := true, laidKinds := [.data], laidTests := true, laidLooks := .later }
def FrameGiftsUptoCardSaid : Prop := Claim7.holds Tryd.pinned (.plain (OpenSpec.upto frameGiftsSpec)) frameGiftsUptoCard

/-- THE SECOND FORM's CARD OF 'bargemanlaw15.FrameOrder'. -/
def frameOrderUptoCard : Claim7 := { stood := { row := frameOrderUptoRow, standIns := [], harness := (true, "592bd563c67d30f64e5f2d516a984832c0f7d2e182453aec19ea26cfb8f3d092"), looks := false }, kinds := [], alts := [], laidByText := true, laidKinds := [.data], laidTests := true, laidLooks := .later }
def FrameOrderUptoCardSaid : Prop := Claim7.holds Tryd.pinned (.plain (OpenSpec.upto frameOrderSpec)) frameOrderUptoCard
end Rows
end Go.Proofs.YtndahomgglpdhaaDoor
