/-
  DERIVED. GIVEN WITH THE SEED: THE CARDS: each row of YtdhcgflblbmogaaDoorRows.lean that lists a variable, with what it lists TIED to the program's text (the seventh form; the later family's looks); each row that meets fmt, with fmt's text TOLD by the authors' own Lean function (tested against real Go, not proved from fmt's source: count such statements apart). THE CARD IS WHAT COUNTS. Prove the row's statement (the work); the ties are given (YtdhcgflblbmogaaDoorTie.lean); close each card by the builder's one call (the guide's Derived/Test/ToyasCard.lean, 'card_holds'). Laid BY PROGRAM, IN A SANDBOX (cutbox-door.mjs). By AI agents, Wed Nov 11 2026. No macro, syntax, notation, axiom, sorry.
-/
import Derived.Test.YtdhcgflblbmogaaDoorRows
import GoSem.ClaimSeven
namespace Go.Proofs.YtdhcgflblbmogaaDoor
namespace Rows

/-- THE TIED CARD OF 'bargemanlaw09.ViewShows'. -/
def viewShowsCard : Claim7 := { stood := { row := viewShowsRow, standIns := [], harness := (true, "b262a00fe0406edc4c80b64f7c1174bc2a96634669ea655d54b9d77ed72cb7ab"), looks := false }, kinds := [], alts := [], laidByText := true, laidKinds := [.data, .data, .data], laidTests := true, laidLooks := .later }
def ViewShowsCardSaid : Prop := Claim7.holds Tryd.pinned (.plain (OpenSpec.ofChange viewShowsSpec)) viewShowsCard

/-- THE TIED CARD OF 'bargemanlaw09.ViewTwins'. -/
def viewTwinsCard : Claim7 := { stood := { row := viewTwinsRow, standIns := [], harness := (true, "b262a00fe0406edc4c80b64f7c1174bc2a96634669ea655d54b9d77ed72cb7ab"), looks := false }, kinds := [], alts := [], laidByText := true, laidKinds := [.data, .data, .data], laidTests := true, laidLooks := .later }
def ViewTwinsCardSaid : Prop := Claim7.holds Tryd.pinned (.plain (OpenSpec.ofChange viewTwinsSpec)) viewTwinsCard

/-- THE TIED CARD OF 'bargemanlaw09.ViewAll'. -/
def viewAllCard : Claim7 := { stood := { row := viewAllRow, standIns := [], harness := (true, "b262a00fe0406edc4c80b64f7c1174bc2a96634669ea655d54b9d77ed72cb7ab"), looks := false }, kinds := [], alts := [], laidByText := true, laidKinds := [.data, .data, .data], laidTests := true, laidLooks := .later }
def ViewAllCardSaid : Prop := Claim7.holds Tryd.pinned (.plain (OpenSpec.ofChange viewAllSpec)) viewAllCard

/-- THE TIED CARD OF 'bargemanlaw09.ViewMoves'. -/
def viewMovesCard : Claim7 := { stood := { row := viewMovesRow, standIns := [], harness := (true, "b262a00fe0406edc4c80b64f7c1174bc2a96634669ea655d54b9d77ed72cb7ab"), looks := false }, kinds := [], alts := [], laidByText := true, laidKinds := [.data, .data, .data], laidTests := true, laidLooks := .later }
def ViewMovesCardSaid : Prop := Claim7.holds Tryd.pinned (.plain (OpenSpec.ofChange viewMovesSpec)) viewMovesCard

/-- THE SECOND FORM's CARD OF 'bargemanlaw09.ViewShows'. -/
def viewShowsUptoCard : Claim7 := { stood := { row := viewShowsUptoRow, standIns := [], harness := (true, "b262a00fe0406edc4c80b64f7c1174bc2a96634669ea655d54b9d77ed72cb7ab"), looks := false }, kinds := [], alts := [], laidByText := true, laidKinds := [.data, .data, .data], laidTests := true, laidLooks := .later }
def ViewShowsUptoCardSaid : Prop := Claim7.holds Tryd.pinned (.plain (OpenSpec.upto viewShowsSpec)) viewShowsUptoCard

/-- THE SECOND FORM's CARD OF 'bargemanlaw09.ViewTwins'. -/
def viewTwinsUptoCard : Claim7 := { stood := { row := viewTwinsUptoRow, standIns := [], harness := (true, "b262a00fe0406edc4c80b64f7c1174bc2a96634669ea655d54b9d77ed72cb7ab"), looks := false }, kinds := [], alts := [], laidByText := true, laidKinds := [.data, .data, .data], laidTests := true, laidLooks := .later }
def ViewTwinsUptoCardSaid : Prop := Claim7.holds Tryd.pinned (.plain (OpenSpec.upto viewTwinsSpec)) viewTwinsUptoCard

/-- THE SECOND FORM's CARD OF 'bargemanlaw09.ViewAll'. -/
def viewAllUptoCard : Claim7 := { stood := { row := viewAllUptoRow, standIns := [], harness := (true, "b262a00fe0406edc4c80b64f7c1174bc2a96634669ea655d54b9d77ed72cb7ab"), looks := false }, kinds := [], alts := [], laidByText := true, laidKinds := [.data, .data, .data], laidTests := true, laidLooks := .later }
def ViewAllUptoCardSaid : Prop := Claim7.holds Tryd.pinned (.plain (OpenSpec.upto viewAllSpec)) viewAllUptoCard

/-- THE SECOND FORM's CARD OF 'bargemanlaw09.ViewMoves'. -/
def viewMovesUptoCard : Claim7 := { stood := { row := viewMovesUptoRow, standIns := [], harness := (true, "b262a00fe0406edc4c80b64f7c1174bc2a96634669ea655d54b9d77ed72cb7ab"), looks := false }, kinds := [], alts := [], laidByText := true, laidKinds := [.data, .data, .data], laidTests := true, laidLooks := .later }
def ViewMovesUptoCardSaid : Prop := Claim7.holds Tryd.pinned (.plain (OpenSpec.upto viewMovesSpec)) viewMovesUptoCard
end Rows
end Go.Proofs.YtdhcgflblbmogaaDoor
