/-
  No cell of these rows narrows 'for every input' (looked for: loops, veiled, ifaces, maps, wideKeys, modest, calm, conditions, laid).
  DERIVED. THE GIVEN ROWS OF THIS SEAT. 2 by the template 'for every input the law returns true; each argument reads behind the call as it read before'; 0 by the template 'total and deterministic' (their statements: YtnglpkfkepfkkaaTotals.lean).
  GIVEN WITH THE SEED: the statements are not yours to turn. If you find one false, say at which input.
  Laid BY PROGRAM, IN A SANDBOX (cutbox-rows.mjs): the forced cells as the released guide's own fill.sh prints them over the translation 7ac5df5bf3c42043… (all of the seat's roots in one cut). By AI agents, Wed Nov 11 2026. No macro, syntax, notation, axiom, sorry.
-/
import Derived.Test.YtnglpkfkepfkkaaChecked
import GoSem.Claim
import GoSem.ClaimJoined
import GoSem.ClaimMapViews
import Derived.JoinedTies
import Derived.KernelRfl
namespace Go.Proofs.Ytnglpkfkepfkkaa
/- THE CELL 'sum', in the pinned program and in every row, IS THE sha256 OF THE DUMP (.gsa) THAT YtnglpkfkepfkkaaProg.lean LOADS. Nothing in Lean hashes anything: it is a label: what it is worth is what the hold of that sum in a sandbox is worth. -/
noncomputable def Try.pinned : Pinned := { name := "ytnglpkfkepfkkaa", sum := "7ac5df5bf3c4204365645e95b2d16922f0f3ee1c19d5a2ec111e2ebcf6523899", checked := Try.checked }
namespace Rows
def none {H : Type} : Left H := { results := [], args := [] }

/-- 'bargemanlaw19.RelayStale': WHATEVER THE INPUT: true; the input reads as it did. -/
def relayStaleSpec : ChangeSpec := { name := "relayStale", fn := fun _ => fun
  | [d1, d2] => { results := [.lit (.bool true)], args := [d1, d2] }
  | _ => none }
def relayStaleRow : OpenClaim := { program := "ytnglpkfkepfkkaa", sum := "7ac5df5bf3c4204365645e95b2d16922f0f3ee1c19d5a2ec111e2ebcf6523899", func := "bargeman/bargemanlaw19.RelayStale", spec := "relayStale", inPlace := ["slices.overlaps[bargeman/api.Gift]"], unfollowed := true, recurses := true, apart := false }
def RelayStaleSaid : Prop := relayStaleRow.holds Try.pinned (OpenSpec.ofChange relayStaleSpec)

/-- ITS FALSE NEIGHBOUR: 'it returns false'. Refute it at one input. -/
def relayStaleWrong : ChangeSpec := { name := "relayStale", fn := fun _ => fun
  | [d1, d2] => { results := [.lit (.bool false)], args := [d1, d2] }
  | _ => none }
def RelayStaleWrongFalsely : Prop := relayStaleRow.holds Try.pinned (OpenSpec.ofChange relayStaleWrong)

/-- 'bargemanlaw19.RelayGives': WHATEVER THE INPUT: true; the input reads as it did. -/
def relayGivesSpec : ChangeSpec := { name := "relayGives", fn := fun _ => fun
  | [d] => { results := [.lit (.bool true)], args := [d] }
  | _ => none }
def relayGivesRow : OpenClaim := { program := "ytnglpkfkepfkkaa", sum := "7ac5df5bf3c4204365645e95b2d16922f0f3ee1c19d5a2ec111e2ebcf6523899", func := "bargeman/bargemanlaw19.RelayGives", spec := "relayGives", inPlace := ["slices.overlaps[bargeman/api.Gift]"], unfollowed := true, recurses := true, apart := false }
def RelayGivesSaid : Prop := relayGivesRow.holds Try.pinned (OpenSpec.ofChange relayGivesSpec)

/-- ITS FALSE NEIGHBOUR: 'it returns false'. Refute it at one input. -/
def relayGivesWrong : ChangeSpec := { name := "relayGives", fn := fun _ => fun
  | [d] => { results := [.lit (.bool false)], args := [d] }
  | _ => none }
def RelayGivesWrongFalsely : Prop := relayGivesRow.holds Try.pinned (OpenSpec.ofChange relayGivesWrong)

/- THE SECOND FORM. 'bulk': how many values and letters a reading holds, each counted each time it is reached (what is shared counts as often as it is met; a slice's spare places count too). A statement '..UptoSaid' is the law's where the arguments, and the package variables that the reading takes, are together of bulk at most 1048576: NARROWER than '..Said'. Prove '..Said' where nothing that the law and all that it calls make is longer than what came in: it says more and counts as full. Else prove '..UptoSaid'. A law counts once. -/
mutual
def uptoBulk {H : Type} : DataW H → Nat
  | .lit (.string bytes) => bytes.length + 1
  | .lit _ => 1
  | .nil => 1
  | .ptr d => uptoBulk d + 1
  | .slice elems spare => uptoBulkAll elems + uptoBulkAll spare + 1
  | .agg parts => uptoBulkAll parts + 1
  | .iface _ d => uptoBulk d + 1
  | .map entries => uptoBulkEntries entries + 1
  | .held _ => 1
def uptoBulkAll {H : Type} : List (DataW H) → Nat
  | [] => 0
  | d :: r => uptoBulk d + uptoBulkAll r
def uptoBulkEntries {H : Type} : List (Lit × DataW H) → Nat
  | [] => 0
  | x :: r => uptoBulkEntry x + uptoBulkEntries r
def uptoBulkEntry {H : Type} : Lit × DataW H → Nat
  | (.string bytes, d) => bytes.length + uptoBulk d + 1
  | (_, d) => uptoBulk d + 1
 end
def uptoSmall : (H : Type) → List (DataW H) → Bool := fun _ ds => decide (uptoBulkAll ds ≤ 1048576)
def OpenSpec.upto (s : _root_.Go.ChangeSpec) : _root_.Go.OpenSpec := { _root_.Go.OpenSpec.ofChange s with cond := some uptoSmall }

/-- 'bargemanlaw19.RelayStale', WHERE WHAT IT READS IS OF BULK AT MOST 1048576: true; the input reads as it did. -/
def relayStaleUptoRow : OpenClaim := { program := "ytnglpkfkepfkkaa", sum := "7ac5df5bf3c4204365645e95b2d16922f0f3ee1c19d5a2ec111e2ebcf6523899", func := "bargeman/bargemanlaw19.RelayStale", spec := "relayStale", inPlace := ["slices.overlaps[bargeman/api.Gift]"], unfollowed := true, recurses := true, apart := false, narrowed := true }
def RelayStaleUptoSaid : Prop := relayStaleUptoRow.holds Try.pinned (OpenSpec.upto relayStaleSpec)

/-- 'bargemanlaw19.RelayGives', WHERE WHAT IT READS IS OF BULK AT MOST 1048576: true; the input reads as it did. -/
def relayGivesUptoRow : OpenClaim := { program := "ytnglpkfkepfkkaa", sum := "7ac5df5bf3c4204365645e95b2d16922f0f3ee1c19d5a2ec111e2ebcf6523899", func := "bargeman/bargemanlaw19.RelayGives", spec := "relayGives", inPlace := ["slices.overlaps[bargeman/api.Gift]"], unfollowed := true, recurses := true, apart := false, narrowed := true }
def RelayGivesUptoSaid : Prop := relayGivesUptoRow.holds Try.pinned (OpenSpec.upto relayGivesSpec)

end Rows
end Go.Proofs.Ytnglpkfkepfkkaa
