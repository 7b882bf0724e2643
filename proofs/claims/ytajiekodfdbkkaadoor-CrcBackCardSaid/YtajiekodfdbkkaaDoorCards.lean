/-
  DERIVED. GIVEN WITH THE SEED: THE CARDS: each row of YtajiekodfdbkkaaDoorRows.lean that lists a variable, with what it lists TIED to the program's text (the seventh form; the later family's looks); each row that meets fmt, with fmt's text TOLD by the authors' own Lean function (tested against real Go, not proved from fmt's source: count such statements apart). THE CARD IS WHAT COUNTS. Prove the row's statement (the work); the ties are given (YtajiekodfdbkkaaDoorTie.lean); close each card by the builder's one call (the guide's Derived/Test/ToyasCard.lean, 'card_holds'). Laid BY PROGRAM, IN A SANDBOX (cutbox-door.mjs). By AI agents, Wed Nov 11 2026. No macro, syntax, notation, axiom, sorry.
-/
import Derived.Test.YtajiekodfdbkkaaDoorRows
import GoSem.ClaimSeven
namespace Go.Proofs.YtajiekodfdbkkaaDoor
namespace Rows

/-- THE TIED CARD OF 'bargemanlaw02.CrcTells'. -/
def crcTellsCard : Claim7 := { stood := { row := crcTellsRow, standIns := [], harness := (true, "758bbf90500c1b449d68af4083feaff34ed2a52c7a0841659f3d8b00909361b8"), looks := false }, kinds := [], alts := [], laidByText := true, laidKinds := [.data], laidTests := true, laidLooks := .later }
def CrcTellsCardSaid : Prop := Claim7.holds Tryd.pinned (.plain (OpenSpec.ofChange crcTellsSpec)) crcTellsCard

/-- THE TIED CARD OF 'bargemanlaw02.CrcBack'. -/
def crcBackCard : Claim7 := { stood := { row := crcBackRow, standIns := [], harness := (true, "758bbf90500c1b449d68af4083feaff34ed2a52c7a0841659f3d8b00909361b8"), looks := false }, kinds := [], alts := [], laidByText := true, laidKinds := [.data], laidTests := true, laidLooks := .later }
def CrcBackCardSaid : Prop := Claim7.holds Tryd.pinned (.plain (OpenSpec.ofChange crcBackSpec)) crcBackCard

/-- THE TIED CARD OF 'bargemanlaw02.CrcTears'. -/
def crcTearsCard : Claim7 := { stood := { row := crcTearsRow, standIns := [], harness := (true, "758bbf90500c1b449d68af4083feaff34ed2a52c7a0841659f3d8b00909361b8"), looks := false }, kinds := [], alts := [], laidByText := true, laidKinds := [.data], laidTests := true, laidLooks := .later }
def CrcTearsCardSaid : Prop := Claim7.holds Tryd.pinned (.plain (OpenSpec.ofChange crcTearsSpec)) crcTearsCard

/-- THE TIED CARD OF 'bargemanlaw02.CrcRow'. -/
def crcRowCard : Claim7 := { stood := { row := crcRowRow, standIns := [], harness := (true, "758bbf90500c1b449d68af4083feaff34ed2a52c7a0841659f3d8b00909361b8"), looks := false }, kinds := [], alts := [], laidByText := true, laidKinds := [.data], laidTests := true, laidLooks := .later }
def CrcRowCardSaid : Prop := Claim7.holds Tryd.pinned (.plain (OpenSpec.ofChange crcRowSpec)) crcRowCard

/-- THE SECOND FORM's CARD OF 'bargemanlaw02.CrcTells'. -/
def crcTellsUptoCard : Claim7 := { stood := { row := crcTellsUptoRow, standIns := [], harness := (true, "758bbf90500c1b449d68af4083feaff34ed2a52c7a0841659f3d8b00909361b8"), looks := false }, kinds := [], alts := [], laidByText := true, laidKinds := [.data], laidTests := true, laidLooks := .later }
def CrcTellsUptoCardSaid : Prop := Claim7.holds Tryd.pinned (.plain (OpenSpec.upto crcTellsSpec)) crcTellsUptoCard

/-- THE SECOND FORM's CARD OF 'bargemanlaw02.CrcBack'. -/
def crcBackUptoCard : Claim7 := { stood := { row := crcBackUptoRow, standIns := [], harness := (true, "758bbf90500c1b449d68af4083feaff34ed2a52c7a0841659f3d8b00909361b8"), looks := false }, kinds := [], alts := [], laidByText := true, laidKinds := [.data], laidTests := true, laidLooks := .later }
def CrcBackUptoCardSaid : Prop := Claim7.holds Tryd.pinned (.plain (OpenSpec.upto crcBackSpec)) crcBackUptoCard

/-- THE SECOND FORM's CARD OF 'bargemanlaw02.CrcTears'. -/
def crcTearsUptoCard : Claim7 := { stood := { row := crcTearsUptoRow, standIns := [], harness := (true, "758bbf90500c1b449d68af4083feaff34ed2a52c7a0841659f3d8b00909361b8"), looks := false }, kinds := [], alts := [], laidByText := true, laidKinds := [.data], laidTests := true, laidLooks := .later }
def CrcTearsUptoCardSaid : Prop := Claim7.holds Tryd.pinned (.plain (OpenSpec.upto crcTearsSpec)) crcTearsUptoCard

/-- THE SECOND FORM's CARD OF 'bargemanlaw02.CrcRow'. -/
def crcRowUptoCard : Claim7 := { stood := { row := crcRowUptoRow, standIns := [], harness := (true, "758bbf90500c1b449d68af4083feaff34ed2a52c7a0841659f3d8b00909361b8"), looks := false }, kinds := [], alts := [], laidByText := true, laidKinds := [.data], laidTests := true, laidLooks := .later }
def CrcRowUptoCardSaid : Prop := Claim7.holds Tryd.pinned (.plain (OpenSpec.upto crcRowSpec)) crcRowUptoCard
end Rows
end Go.Proofs.YtajiekodfdbkkaaDoor
