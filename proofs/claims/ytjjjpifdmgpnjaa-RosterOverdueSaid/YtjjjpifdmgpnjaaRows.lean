/-
  No cell of these rows narrows 'for every input' (looked for: loops, veiled, ifaces, maps, wideKeys, modest, calm, conditions, laid).
  DERIVED. THE GIVEN ROWS OF THIS SEAT. 5 by the template 'for every input the law returns true; each argument reads behind the call as it read before'; 0 by the template 'total and deterministic' (their statements: YtjjjpifdmgpnjaaTotals.lean).
  GIVEN WITH THE SEED: the statements are not yours to turn. If you find one false, say at which input.
  Laid BY PROGRAM, IN A SANDBOX (cutbox-rows.mjs): the forced cells as the released guide's own fill.sh prints them over the translation 36a91f5aa869eab0… (all of the seat's roots in one cut). By AI agents, Wed Nov 11 2026. No macro, syntax, notation, axiom, sorry.
-/
import Derived.Test.YtjjjpifdmgpnjaaChecked
import GoSem.Claim
import GoSem.ClaimJoined
import GoSem.ClaimMapViews
import Derived.JoinedTies
import Derived.KernelRfl
namespace Go.Proofs.Ytjjjpifdmgpnjaa
/- THE CELL 'sum', in the pinned program and in every row, IS THE sha256 OF THE DUMP (.gsa) THAT YtjjjpifdmgpnjaaProg.lean LOADS. Nothing in Lean hashes anything: it is a label: what it is worth is what the hold of that sum in a sandbox is worth. -/
noncomputable def Try.pinned : Pinned := { name := "ytjjjpifdmgpnjaa", sum := "36a91f5aa869eab034b1eddac790aa05065e4b55ffd21ef09915a2c48b361457", checked := Try.checked }
namespace Rows
def none {H : Type} : Left H := { results := [], args := [] }

/-- 'bargemanlaw16.RosterTells': WHATEVER THE INPUT: true; the input reads as it did. -/
def rosterTellsSpec : ChangeSpec := { name := "rosterTells", fn := fun _ => fun
  | [d1, d2] => { results := [.lit (.bool true)], args := [d1, d2] }
  | _ => none }
def rosterTellsRow : OpenClaim := { program := "ytjjjpifdmgpnjaa", sum := "36a91f5aa869eab034b1eddac790aa05065e4b55ffd21ef09915a2c48b361457", func := "bargeman/bargemanlaw16.RosterTells", spec := "rosterTells", inPlace := ["internal/abi.NoEscape"], unfollowed := true, recurses := true, apart := false }
def RosterTellsSaid : Prop := rosterTellsRow.holds Try.pinned (OpenSpec.ofChange rosterTellsSpec)

/-- ITS FALSE NEIGHBOUR: 'it returns false'. Refute it at one input. -/
def rosterTellsWrong : ChangeSpec := { name := "rosterTells", fn := fun _ => fun
  | [d1, d2] => { results := [.lit (.bool false)], args := [d1, d2] }
  | _ => none }
def RosterTellsWrongFalsely : Prop := rosterTellsRow.holds Try.pinned (OpenSpec.ofChange rosterTellsWrong)

/-- 'bargemanlaw16.RosterOverdue': WHATEVER THE INPUT: true; the input reads as it did. -/
def rosterOverdueSpec : ChangeSpec := { name := "rosterOverdue", fn := fun _ => fun
  | [d1, d2, d3] => { results := [.lit (.bool true)], args := [d1, d2, d3] }
  | _ => none }
def rosterOverdueRow : OpenClaim := { program := "ytjjjpifdmgpnjaa", sum := "36a91f5aa869eab034b1eddac790aa05065e4b55ffd21ef09915a2c48b361457", func := "bargeman/bargemanlaw16.RosterOverdue", spec := "rosterOverdue", unfollowed := true, recurses := true, apart := false }
def RosterOverdueSaid : Prop := rosterOverdueRow.holds Try.pinned (OpenSpec.ofChange rosterOverdueSpec)

/-- ITS FALSE NEIGHBOUR: 'it returns false'. Refute it at one input. -/
def rosterOverdueWrong : ChangeSpec := { name := "rosterOverdue", fn := fun _ => fun
  | [d1, d2, d3] => { results := [.lit (.bool false)], args := [d1, d2, d3] }
  | _ => none }
def RosterOverdueWrongFalsely : Prop := rosterOverdueRow.holds Try.pinned (OpenSpec.ofChange rosterOverdueWrong)

/-- 'bargemanlaw16.RosterBack': WHATEVER THE INPUT: true; the input reads as it did. -/
def rosterBackSpec : ChangeSpec := { name := "rosterBack", fn := fun _ => fun
  | [d1, d2] => { results := [.lit (.bool true)], args := [d1, d2] }
  | _ => none }
def rosterBackRow : OpenClaim := { program := "ytjjjpifdmgpnjaa", sum := "36a91f5aa869eab034b1eddac790aa05065e4b55ffd21ef09915a2c48b361457", func := "bargeman/bargemanlaw16.RosterBack", spec := "rosterBack", inPlace := ["internal/abi.NoEscape"], unfollowed := true, recurses := true, apart := false }
def RosterBackSaid : Prop := rosterBackRow.holds Try.pinned (OpenSpec.ofChange rosterBackSpec)

/-- ITS FALSE NEIGHBOUR: 'it returns false'. Refute it at one input. -/
def rosterBackWrong : ChangeSpec := { name := "rosterBack", fn := fun _ => fun
  | [d1, d2] => { results := [.lit (.bool false)], args := [d1, d2] }
  | _ => none }
def RosterBackWrongFalsely : Prop := rosterBackRow.holds Try.pinned (OpenSpec.ofChange rosterBackWrong)

/-- 'bargemanlaw16.RosterMins': WHATEVER THE INPUT: true; the input reads as it did. -/
def rosterMinsSpec : ChangeSpec := { name := "rosterMins", fn := fun _ => fun
  | [d1, d2] => { results := [.lit (.bool true)], args := [d1, d2] }
  | _ => none }
def rosterMinsRow : OpenClaim := { program := "ytjjjpifdmgpnjaa", sum := "36a91f5aa869eab034b1eddac790aa05065e4b55ffd21ef09915a2c48b361457", func := "bargeman/bargemanlaw16.RosterMins", spec := "rosterMins", unfollowed := true, recurses := true, apart := false }
def RosterMinsSaid : Prop := rosterMinsRow.holds Try.pinned (OpenSpec.ofChange rosterMinsSpec)

/-- ITS FALSE NEIGHBOUR: 'it returns false'. Refute it at one input. -/
def rosterMinsWrong : ChangeSpec := { name := "rosterMins", fn := fun _ => fun
  | [d1, d2] => { results := [.lit (.bool false)], args := [d1, d2] }
  | _ => none }
def RosterMinsWrongFalsely : Prop := rosterMinsRow.holds Try.pinned (OpenSpec.ofChange rosterMinsWrong)

/-- 'bargemanlaw16.RosterPuts': WHATEVER THE INPUT: true; the input reads as it did. -/
def rosterPutsSpec : ChangeSpec := { name := "rosterPuts", fn := fun _ => fun
  | [d1, d2] => { results := [.lit (.bool true)], args := [d1, d2] }
  | _ => none }
def rosterPutsRow : OpenClaim := { program := "ytjjjpifdmgpnjaa", sum := "36a91f5aa869eab034b1eddac790aa05065e4b55ffd21ef09915a2c48b361457", func := "bargeman/bargemanlaw16.RosterPuts", spec := "rosterPuts", unfollowed := true, recurses := true, apart := false }
def RosterPutsSaid : Prop := rosterPutsRow.holds Try.pinned (OpenSpec.ofChange rosterPutsSpec)

/-- ITS FALSE NEIGHBOUR: 'it returns false'. Refute it at one input. -/
def rosterPutsWrong : ChangeSpec := { name := "rosterPuts", fn := fun _ => fun
  | [d1, d2] => { results := [.lit (.bool false)], args := [d1, d2] }
  | _ => none }
def RosterPutsWrongFalsely : Prop := rosterPutsRow.holds Try.pinned (OpenSpec.ofChange rosterPutsWrong)

/- THE SECOND FORM. 'bulk': how many values and letters a reading holds, each counted each time it is reached (what is shared counts as often as it is met; a slice's spare places count too). A statement '..UptoSaid' is the law's where the arguments, and the package variables that the reading takes, are together of bulk at most 1048576: NARROWER than '..Said'. Prove '..Said' where nothing that the law and all that it calls make is longer than what came in: it says more and counts as full. Else prove '..UptoSaid'. A law counts once. -/
mutual
def uptoBulk {H : Type} : DataW H → Nat
  | .lit (.string bytes) => bytes.length + 1
  | .lit _ => 1
  | .nil => 1
  | .ptr d => uptoBulk d + 1
  | .slice elems spare => uptoBulkAll elems + uptoBulkAll spare + 1
  | .agg parts => uptoBulkAll parts + 1
  | .iface _ d => uptoBulk d + 1
  | .map entries => uptoBulkEntries entries + 1
  | .held _ => 1
def uptoBulkAll {H : Type} : List (DataW H) → Nat
  | [] => 0
  | d :: r => uptoBulk d + uptoBulkAll r
def uptoBulkEntries {H : Type} : List (Lit × DataW H) → Nat
  | [] => 0
  | x :: r => uptoBulkEntry x + uptoBulkEntries r
def uptoBulkEntry {H : Type} : Lit × DataW H → Nat
  | (.string bytes, d) => bytes.length + uptoBulk d + 1
  | (_, d) => uptoBulk d + 1
 end
def uptoSmall : (H : Type) → List (DataW H) → Bool := fun _ ds => decide (uptoBulkAll ds ≤ 1048576)
def OpenSpec.upto (s : _root_.Go.ChangeSpec) : _root_.Go.OpenSpec := { _root_.Go.OpenSpec.ofChange s with cond := some uptoSmall }

/-- 'bargemanlaw16.RosterTells', WHERE WHAT IT READS IS OF BULK AT MOST 1048576: true; the input reads as it did. -/
def rosterTellsUptoRow : OpenClaim := { program := "ytjjjpifdmgpnjaa", sum := "36a91f5aa869eab034b1eddac790aa05065e4b55ffd21ef09915a2c48b361457", func := "bargeman/bargemanlaw16.RosterTells", spec := "rosterTells", inPlace := ["internal/abi.NoEscape"], unfollowed := true, recurses := true, apart := false, narrowed := true }
def RosterTellsUptoSaid : Prop := rosterTellsUptoRow.holds Try.pinned (OpenSpec.upto rosterTellsSpec)

/-- 'bargemanlaw16.RosterOverdue', WHERE WHAT IT READS IS OF BULK AT MOST 1048576: true; the input reads as it did. -/
def rosterOverdueUptoRow : OpenClaim := { program := "ytjjjpifdmgpnjaa", sum := "36a91f5aa869eab034b1eddac790aa05065e4b55ffd21ef09915a2c48b361457", func := "bargeman/bargemanlaw16.RosterOverdue", spec := "rosterOverdue", unfollowed := true, recurses := true, apart := false, narrowed := true }
def RosterOverdueUptoSaid : Prop := rosterOverdueUptoRow.holds Try.pinned (OpenSpec.upto rosterOverdueSpec)

/-- 'bargemanlaw16.RosterBack', WHERE WHAT IT READS IS OF BULK AT MOST 1048576: true; the input reads as it did. -/
def rosterBackUptoRow : OpenClaim := { program := "ytjjjpifdmgpnjaa", sum := "36a91f5aa869eab034b1eddac790aa05065e4b55ffd21ef09915a2c48b361457", func := "bargeman/bargemanlaw16.RosterBack", spec := "rosterBack", inPlace := ["internal/abi.NoEscape"], unfollowed := true, recurses := true, apart := false, narrowed := true }
def RosterBackUptoSaid : Prop := rosterBackUptoRow.holds Try.pinned (OpenSpec.upto rosterBackSpec)

/-- 'bargemanlaw16.RosterMins', WHERE WHAT IT READS IS OF BULK AT MOST 1048576: true; the input reads as it did. -/
def rosterMinsUptoRow : OpenClaim := { program := "ytjjjpifdmgpnjaa", sum := "36a91f5aa869eab034b1eddac790aa05065e4b55ffd21ef09915a2c48b361457", func := "bargeman/bargemanlaw16.RosterMins", spec := "rosterMins", unfollowed := true, recurses := true, apart := false, narrowed := true }
def RosterMinsUptoSaid : Prop := rosterMinsUptoRow.holds Try.pinned (OpenSpec.upto rosterMinsSpec)

/-- 'bargemanlaw16.RosterPuts', WHERE WHAT IT READS IS OF BULK AT MOST 1048576: true; the input reads as it did. -/
def rosterPutsUptoRow : OpenClaim := { program := "ytjjjpifdmgpnjaa", sum := "36a91f5aa869eab034b1eddac790aa05065e4b55ffd21ef09915a2c48b361457", func := "bargeman/bargemanlaw16.RosterPuts", spec := "rosterPuts", unfollowed := true, recurses := true, apart := false, narrowed := true }
def RosterPutsUptoSaid : Prop := rosterPutsUptoRow.holds Try.pinned (OpenSpec.upto rosterPutsSpec)

end Rows
end Go.Proofs.Ytjjjpifdmgpnjaa
