/-
  No cell of these rows narrows 'for every input' (looked for: loops, veiled, ifaces, maps, wideKeys, modest, calm, conditions, laid).
  DERIVED. THE GIVEN ROWS OF THIS SEAT. 5 by the template 'for every input the law returns true; each argument reads behind the call as it read before'; 0 by the template 'total and deterministic' (their statements: YtfpgfclmmdihjaaTotals.lean).
  GIVEN WITH THE SEED: the statements are not yours to turn. If you find one false, say at which input.
  Laid BY PROGRAM, IN A SANDBOX (cutbox-rows.mjs): the forced cells as the released guide's own fill.sh prints them over the translation 41d6b72ec72d09f7… (all of the seat's roots in one cut). By AI agents, Wed Nov 11 2026. No macro, syntax, notation, axiom, sorry.
-/
import Derived.Test.YtfpgfclmmdihjaaChecked
import GoSem.Claim
import GoSem.ClaimJoined
import GoSem.ClaimMapViews
import Derived.JoinedTies
import Derived.KernelRfl
namespace Go.Proofs.Ytfpgfclmmdihjaa
/- THE CELL 'sum', in the pinned program and in every row, IS THE sha256 OF THE DUMP (.gsa) THAT YtfpgfclmmdihjaaProg.lean LOADS. Nothing in Lean hashes anything: it is a label: what it is worth is what the hold of that sum in a sandbox is worth. -/
noncomputable def Try.pinned : Pinned := { name := "ytfpgfclmmdihjaa", sum := "41d6b72ec72d09f7f38d8a02edb3ee13555ba201ff84fcd47777e5423ac2163b", checked := Try.checked }
namespace Rows
def none {H : Type} : Left H := { results := [], args := [] }

/-- 'bargemanlaw17.GiftFreezes': WHATEVER THE INPUT: true; the input reads as it did. -/
def giftFreezesSpec : ChangeSpec := { name := "giftFreezes", fn := fun _ => fun
  | [d1, d2, d3] => { results := [.lit (.bool true)], args := [d1, d2, d3] }
  | _ => none }
def giftFreezesRow : OpenClaim := { program := "ytfpgfclmmdihjaa", sum := "41d6b72ec72d09f7f38d8a02edb3ee13555ba201ff84fcd47777e5423ac2163b", func := "bargeman/bargemanlaw17.GiftFreezes", spec := "giftFreezes", inPlace := ["internal/abi.NoEscape", "slices.overlaps[bargeman/api.Gift]"], unfollowed := true, recurses := true, apart := false }
def GiftFreezesSaid : Prop := giftFreezesRow.holds Try.pinned (OpenSpec.ofChange giftFreezesSpec)

/-- ITS FALSE NEIGHBOUR: 'it returns false'. Refute it at one input. -/
def giftFreezesWrong : ChangeSpec := { name := "giftFreezes", fn := fun _ => fun
  | [d1, d2, d3] => { results := [.lit (.bool false)], args := [d1, d2, d3] }
  | _ => none }
def GiftFreezesWrongFalsely : Prop := giftFreezesRow.holds Try.pinned (OpenSpec.ofChange giftFreezesWrong)

/-- 'bargemanlaw17.GiftMerges': WHATEVER THE INPUT: true; the input reads as it did. -/
def giftMergesSpec : ChangeSpec := { name := "giftMerges", fn := fun _ => fun
  | [d1, d2] => { results := [.lit (.bool true)], args := [d1, d2] }
  | _ => none }
def giftMergesRow : OpenClaim := { program := "ytfpgfclmmdihjaa", sum := "41d6b72ec72d09f7f38d8a02edb3ee13555ba201ff84fcd47777e5423ac2163b", func := "bargeman/bargemanlaw17.GiftMerges", spec := "giftMerges", inPlace := ["internal/abi.NoEscape", "slices.overlaps[bargeman/api.Gift]"], unfollowed := true, recurses := true, apart := false }
def GiftMergesSaid : Prop := giftMergesRow.holds Try.pinned (OpenSpec.ofChange giftMergesSpec)

/-- ITS FALSE NEIGHBOUR: 'it returns false'. Refute it at one input. -/
def giftMergesWrong : ChangeSpec := { name := "giftMerges", fn := fun _ => fun
  | [d1, d2] => { results := [.lit (.bool false)], args := [d1, d2] }
  | _ => none }
def GiftMergesWrongFalsely : Prop := giftMergesRow.holds Try.pinned (OpenSpec.ofChange giftMergesWrong)

/-- 'bargemanlaw17.GiftBack': WHATEVER THE INPUT: true; the input reads as it did. -/
def giftBackSpec : ChangeSpec := { name := "giftBack", fn := fun _ => fun
  | [d1, d2, d3] => { results := [.lit (.bool true)], args := [d1, d2, d3] }
  | _ => none }
def giftBackRow : OpenClaim := { program := "ytfpgfclmmdihjaa", sum := "41d6b72ec72d09f7f38d8a02edb3ee13555ba201ff84fcd47777e5423ac2163b", func := "bargeman/bargemanlaw17.GiftBack", spec := "giftBack", inPlace := ["internal/abi.NoEscape", "slices.overlaps[bargeman/api.Gift]"], unfollowed := true, recurses := true, apart := false }
def GiftBackSaid : Prop := giftBackRow.holds Try.pinned (OpenSpec.ofChange giftBackSpec)

/-- ITS FALSE NEIGHBOUR: 'it returns false'. Refute it at one input. -/
def giftBackWrong : ChangeSpec := { name := "giftBack", fn := fun _ => fun
  | [d1, d2, d3] => { results := [.lit (.bool false)], args := [d1, d2, d3] }
  | _ => none }
def GiftBackWrongFalsely : Prop := giftBackRow.holds Try.pinned (OpenSpec.ofChange giftBackWrong)

/-- 'bargemanlaw17.GiftLast': WHATEVER THE INPUT: true; the input reads as it did. -/
def giftLastSpec : ChangeSpec := { name := "giftLast", fn := fun _ => fun
  | [d] => { results := [.lit (.bool true)], args := [d] }
  | _ => none }
def giftLastRow : OpenClaim := { program := "ytfpgfclmmdihjaa", sum := "41d6b72ec72d09f7f38d8a02edb3ee13555ba201ff84fcd47777e5423ac2163b", func := "bargeman/bargemanlaw17.GiftLast", spec := "giftLast", inPlace := ["internal/abi.NoEscape", "slices.overlaps[bargeman/api.Gift]"], unfollowed := true, recurses := true, apart := false }
def GiftLastSaid : Prop := giftLastRow.holds Try.pinned (OpenSpec.ofChange giftLastSpec)

/-- ITS FALSE NEIGHBOUR: 'it returns false'. Refute it at one input. -/
def giftLastWrong : ChangeSpec := { name := "giftLast", fn := fun _ => fun
  | [d] => { results := [.lit (.bool false)], args := [d] }
  | _ => none }
def GiftLastWrongFalsely : Prop := giftLastRow.holds Try.pinned (OpenSpec.ofChange giftLastWrong)

/-- 'bargemanlaw17.GiftCounts': WHATEVER THE INPUT: true; the input reads as it did. -/
def giftCountsSpec : ChangeSpec := { name := "giftCounts", fn := fun _ => fun
  | [d1, d2] => { results := [.lit (.bool true)], args := [d1, d2] }
  | _ => none }
def giftCountsRow : OpenClaim := { program := "ytfpgfclmmdihjaa", sum := "41d6b72ec72d09f7f38d8a02edb3ee13555ba201ff84fcd47777e5423ac2163b", func := "bargeman/bargemanlaw17.GiftCounts", spec := "giftCounts", inPlace := ["internal/abi.NoEscape", "slices.overlaps[bargeman/api.Gift]"], unfollowed := true, recurses := true, apart := false }
def GiftCountsSaid : Prop := giftCountsRow.holds Try.pinned (OpenSpec.ofChange giftCountsSpec)

/-- ITS FALSE NEIGHBOUR: 'it returns false'. Refute it at one input. -/
def giftCountsWrong : ChangeSpec := { name := "giftCounts", fn := fun _ => fun
  | [d1, d2] => { results := [.lit (.bool false)], args := [d1, d2] }
  | _ => none }
def GiftCountsWrongFalsely : Prop := giftCountsRow.holds Try.pinned (OpenSpec.ofChange giftCountsWrong)

/- THE SECOND FORM. 'bulk': how many values and letters a reading holds, each counted each time it is reached (what is shared counts as often as it is met; a slice's spare places count too). A statement '..UptoSaid' is the law's where the arguments, and the package variables that the reading takes, are together of bulk at most 1048576: NARROWER than '..Said'. Prove '..Said' where nothing that the law and all that it calls make is longer than what came in: it says more and counts as full. Else prove '..UptoSaid'. A law counts once. -/
mutual
def uptoBulk {H : Type} : DataW H → Nat
  | .lit (.string bytes) => bytes.length + 1
  | .lit _ => 1
  | .nil => 1
  | .ptr d => uptoBulk d + 1
  | .slice elems spare => uptoBulkAll elems + uptoBulkAll spare + 1
  | .agg parts => uptoBulkAll parts + 1
  | .iface _ d => uptoBulk d + 1
  | .map entries => uptoBulkEntries entries + 1
  | .held _ => 1
def uptoBulkAll {H : Type} : List (DataW H) → Nat
  | [] => 0
  | d :: r => uptoBulk d + uptoBulkAll r
def uptoBulkEntries {H : Type} : List (Lit × DataW H) → Nat
  | [] => 0
  | x :: r => uptoBulkEntry x + uptoBulkEntries r
def uptoBulkEntry {H : Type} : Lit × DataW H → Nat
  | (.string bytes, d) => bytes.length + uptoBulk d + 1
  | (_, d) => uptoBulk d + 1
 end
def uptoSmall : (H : Type) → List (DataW H) → Bool := fun _ ds => decide (uptoBulkAll ds ≤ 1048576)
def OpenSpec.upto (s : _root_.Go.ChangeSpec) : _root_.Go.OpenSpec := { _root_.Go.OpenSpec.ofChange s with cond := some uptoSmall }

/-- 'bargemanlaw17.GiftFreezes', WHERE WHAT IT READS IS OF BULK AT MOST 1048576: true; the input reads as it did. -/
def giftFreezesUptoRow : OpenClaim := { program := "ytfpgfclmmdihjaa", sum := "41d6b72ec72d09f7f38d8a02edb3ee13555ba201ff84fcd47777e5423ac2163b", func := "bargeman/bargemanlaw17.GiftFreezes", spec := "giftFreezes", inPlace := ["internal/abi.NoEscape", "slices.overlaps[bargeman/api.Gift]"], unfollowed := true, recurses := true, apart := false, narrowed := true }
def GiftFreezesUptoSaid : Prop := giftFreezesUptoRow.holds Try.pinned (OpenSpec.upto giftFreezesSpec)

/-- 'bargemanlaw17.GiftMerges', WHERE WHAT IT READS IS OF BULK AT MOST 1048576: true; the input reads as it did. -/
def giftMergesUptoRow : OpenClaim := { program := "ytfpgfclmmdihjaa", sum := "41d6b72ec72d09f7f38d8a02edb3ee13555ba201ff84fcd47777e5423ac2163b", func := "bargeman/bargemanlaw17.GiftMerges", spec := "giftMerges", inPlace := ["internal/abi.NoEscape", "slices.overlaps[bargeman/api.Gift]"], unfollowed := true, recurses := true, apart := false, narrowed := true }
def GiftMergesUptoSaid : Prop := giftMergesUptoRow.holds Try.pinned (OpenSpec.upto giftMergesSpec)

/-- 'bargemanlaw17.GiftBack', WHERE WHAT IT READS IS OF BULK AT MOST 1048576: true; the input reads as it did. -/
def giftBackUptoRow : OpenClaim := { program := "ytfpgfclmmdihjaa", sum := "41d6b72ec72d09f7f38d8a02edb3ee13555ba201ff84fcd47777e5423ac2163b", func := "bargeman/bargemanlaw17.GiftBack", spec := "giftBack", inPlace := ["internal/abi.NoEscape", "slices.overlaps[bargeman/api.Gift]"], unfollowed := true, recurses := true, apart := false, narrowed := true }
def GiftBackUptoSaid : Prop := giftBackUptoRow.holds Try.pinned (OpenSpec.upto giftBackSpec)

/-- 'bargemanlaw17.GiftLast', WHERE WHAT IT READS IS OF BULK AT MOST 1048576: true; the input reads as it did. -/
def giftLastUptoRow : OpenClaim := { program := "ytfpgfclmmdihjaa", sum := "41d6b72ec72d09f7f38d8a02edb3ee13555ba201ff84fcd47777e5423ac2163b", func := "bargeman/bargemanlaw17.GiftLast", spec := "giftLast", inPlace := ["internal/abi.NoEscape", "slices.overlaps[bargeman/api.Gift]"], unfollowed := true, recurses := true, apart := false, narrowed := true }
def GiftLastUptoSaid : Prop := giftLastUptoRow.holds Try.pinned (OpenSpec.upto giftLastSpec)

/-- 'bargemanlaw17.GiftCounts', WHERE WHAT IT READS IS OF BULK AT MOST 1048576: true; the input reads as it did. -/
def giftCountsUptoRow : OpenClaim := { program := "ytfpgfclmmdihjaa", sum := "41d6b72ec72d09f7f38d8a02edb3ee13555ba201ff84fcd47777e5423ac2163b", func := "bargeman/bargemanlaw17.GiftCounts", spec := "giftCounts", inPlace := ["internal/abi.NoEscape", "slices.overlaps[bargeman/api.Gift]"], unfollowed := true, recurses := true, apart := false, narrowed := true }
def GiftCountsUptoSaid : Prop := giftCountsUptoRow.holds Try.pinned (OpenSpec.upto giftCountsSpec)

end Rows
end Go.Proofs.Ytfpgfclmmdihjaa
