/-
  No cell of these rows narrows 'for every input' (looked for: loops, veiled, ifaces, maps, wideKeys, modest, calm, conditions, laid).
  DERIVED. THE GIVEN ROWS OF THIS SEAT. 7 by the template 'for every input the law returns true; each argument reads behind the call as it read before'; 0 by the template 'total and deterministic' (their statements: YtoidondngoljaaaTotals.lean).
  GIVEN WITH THE SEED: the statements are not yours to turn. If you find one false, say at which input.
  Laid BY PROGRAM, IN A SANDBOX (cutbox-rows.mjs): the forced cells as the released guide's own fill.sh prints them over the translation f01539c563bc1576… (all of the seat's roots in one cut). By AI agents, Wed Nov 11 2026. No macro, syntax, notation, axiom, sorry.
-/
import Derived.Test.YtoidondngoljaaaChecked
import GoSem.Claim
import GoSem.ClaimJoined
import GoSem.ClaimMapViews
import Derived.JoinedTies
import Derived.KernelRfl
namespace Go.Proofs.Ytoidondngoljaaa
/- THE CELL 'sum', in the pinned program and in every row, IS THE sha256 OF THE DUMP (.gsa) THAT YtoidondngoljaaaProg.lean LOADS. Nothing in Lean hashes anything: it is a label: what it is worth is what the hold of that sum in a sandbox is worth. -/
noncomputable def Try.pinned : Pinned := { name := "ytoidondngoljaaa", sum := "f01539c563bc157620b6f075e2c09eb780f0d957b822581b3920dfb82c7bebb8", checked := Try.checked }
namespace Rows
def none {H : Type} : Left H := { results := [], args := [] }

/-- 'bargemanlaw08.PastPlays': WHATEVER THE INPUT: true; the input reads as it did. -/
def pastPlaysSpec : ChangeSpec := { name := "pastPlays", fn := fun _ => fun
  | [d1, d2] => { results := [.lit (.bool true)], args := [d1, d2] }
  | _ => none }
def pastPlaysRow : OpenClaim := { program := "ytoidondngoljaaa", sum := "f01539c563bc157620b6f075e2c09eb780f0d957b822581b3920dfb82c7bebb8", func := "bargeman/bargemanlaw08.PastPlays", spec := "pastPlays", inPlace := ["internal/abi.NoEscape"], unfollowed := true, recurses := true, apart := false }
def PastPlaysSaid : Prop := pastPlaysRow.holds Try.pinned (OpenSpec.ofChange pastPlaysSpec)

/-- ITS FALSE NEIGHBOUR: 'it returns false'. Refute it at one input. -/
def pastPlaysWrong : ChangeSpec := { name := "pastPlays", fn := fun _ => fun
  | [d1, d2] => { results := [.lit (.bool false)], args := [d1, d2] }
  | _ => none }
def PastPlaysWrongFalsely : Prop := pastPlaysRow.holds Try.pinned (OpenSpec.ofChange pastPlaysWrong)

/-- 'bargemanlaw08.PastRights': WHATEVER THE INPUT: true; the input reads as it did. -/
def pastRightsSpec : ChangeSpec := { name := "pastRights", fn := fun _ => fun
  | [d] => { results := [.lit (.bool true)], args := [d] }
  | _ => none }
def pastRightsRow : OpenClaim := { program := "ytoidondngoljaaa", sum := "f01539c563bc157620b6f075e2c09eb780f0d957b822581b3920dfb82c7bebb8", func := "bargeman/bargemanlaw08.PastRights", spec := "pastRights", unfollowed := true, recurses := true, apart := false }
def PastRightsSaid : Prop := pastRightsRow.holds Try.pinned (OpenSpec.ofChange pastRightsSpec)

/-- ITS FALSE NEIGHBOUR: 'it returns false'. Refute it at one input. -/
def pastRightsWrong : ChangeSpec := { name := "pastRights", fn := fun _ => fun
  | [d] => { results := [.lit (.bool false)], args := [d] }
  | _ => none }
def PastRightsWrongFalsely : Prop := pastRightsRow.holds Try.pinned (OpenSpec.ofChange pastRightsWrong)

/-- 'bargemanlaw08.PastOrder': WHATEVER THE INPUT: true; the input reads as it did. -/
def pastOrderSpec : ChangeSpec := { name := "pastOrder", fn := fun _ => fun
  | [d1, d2] => { results := [.lit (.bool true)], args := [d1, d2] }
  | _ => none }
def pastOrderRow : OpenClaim := { program := "ytoidondngoljaaa", sum := "f01539c563bc157620b6f075e2c09eb780f0d957b822581b3920dfb82c7bebb8", func := "bargeman/bargemanlaw08.PastOrder", spec := "pastOrder", unfollowed := true, recurses := true, apart := false }
def PastOrderSaid : Prop := pastOrderRow.holds Try.pinned (OpenSpec.ofChange pastOrderSpec)

/-- ITS FALSE NEIGHBOUR: 'it returns false'. Refute it at one input. -/
def pastOrderWrong : ChangeSpec := { name := "pastOrder", fn := fun _ => fun
  | [d1, d2] => { results := [.lit (.bool false)], args := [d1, d2] }
  | _ => none }
def PastOrderWrongFalsely : Prop := pastOrderRow.holds Try.pinned (OpenSpec.ofChange pastOrderWrong)

/-- 'bargemanlaw08.PastSettles': WHATEVER THE INPUT: true; the input reads as it did. -/
def pastSettlesSpec : ChangeSpec := { name := "pastSettles", fn := fun _ => fun
  | [d1, d2, d3] => { results := [.lit (.bool true)], args := [d1, d2, d3] }
  | _ => none }
def pastSettlesRow : OpenClaim := { program := "ytoidondngoljaaa", sum := "f01539c563bc157620b6f075e2c09eb780f0d957b822581b3920dfb82c7bebb8", func := "bargeman/bargemanlaw08.PastSettles", spec := "pastSettles", unfollowed := true, recurses := true, apart := false }
def PastSettlesSaid : Prop := pastSettlesRow.holds Try.pinned (OpenSpec.ofChange pastSettlesSpec)

/-- ITS FALSE NEIGHBOUR: 'it returns false'. Refute it at one input. -/
def pastSettlesWrong : ChangeSpec := { name := "pastSettles", fn := fun _ => fun
  | [d1, d2, d3] => { results := [.lit (.bool false)], args := [d1, d2, d3] }
  | _ => none }
def PastSettlesWrongFalsely : Prop := pastSettlesRow.holds Try.pinned (OpenSpec.ofChange pastSettlesWrong)

/-- 'bargemanlaw08.PastLate': WHATEVER THE INPUT: true; the input reads as it did. -/
def pastLateSpec : ChangeSpec := { name := "pastLate", fn := fun _ => fun
  | [d1, d2] => { results := [.lit (.bool true)], args := [d1, d2] }
  | _ => none }
def pastLateRow : OpenClaim := { program := "ytoidondngoljaaa", sum := "f01539c563bc157620b6f075e2c09eb780f0d957b822581b3920dfb82c7bebb8", func := "bargeman/bargemanlaw08.PastLate", spec := "pastLate", unfollowed := true, recurses := true, apart := false }
def PastLateSaid : Prop := pastLateRow.holds Try.pinned (OpenSpec.ofChange pastLateSpec)

/-- ITS FALSE NEIGHBOUR: 'it returns false'. Refute it at one input. -/
def pastLateWrong : ChangeSpec := { name := "pastLate", fn := fun _ => fun
  | [d1, d2] => { results := [.lit (.bool false)], args := [d1, d2] }
  | _ => none }
def PastLateWrongFalsely : Prop := pastLateRow.holds Try.pinned (OpenSpec.ofChange pastLateWrong)

/-- 'bargemanlaw08.PastBack': WHATEVER THE INPUT: true; the input reads as it did. -/
def pastBackSpec : ChangeSpec := { name := "pastBack", fn := fun _ => fun
  | [d1, d2, d3] => { results := [.lit (.bool true)], args := [d1, d2, d3] }
  | _ => none }
def pastBackRow : OpenClaim := { program := "ytoidondngoljaaa", sum := "f01539c563bc157620b6f075e2c09eb780f0d957b822581b3920dfb82c7bebb8", func := "bargeman/bargemanlaw08.PastBack", spec := "pastBack", inPlace := ["internal/abi.NoEscape"], unfollowed := true, recurses := true, apart := false }
def PastBackSaid : Prop := pastBackRow.holds Try.pinned (OpenSpec.ofChange pastBackSpec)

/-- ITS FALSE NEIGHBOUR: 'it returns false'. Refute it at one input. -/
def pastBackWrong : ChangeSpec := { name := "pastBack", fn := fun _ => fun
  | [d1, d2, d3] => { results := [.lit (.bool false)], args := [d1, d2, d3] }
  | _ => none }
def PastBackWrongFalsely : Prop := pastBackRow.holds Try.pinned (OpenSpec.ofChange pastBackWrong)

/-- 'bargemanlaw08.PastCounts': WHATEVER THE INPUT: true; the input reads as it did. -/
def pastCountsSpec : ChangeSpec := { name := "pastCounts", fn := fun _ => fun
  | [d] => { results := [.lit (.bool true)], args := [d] }
  | _ => none }
def pastCountsRow : OpenClaim := { program := "ytoidondngoljaaa", sum := "f01539c563bc157620b6f075e2c09eb780f0d957b822581b3920dfb82c7bebb8", func := "bargeman/bargemanlaw08.PastCounts", spec := "pastCounts", unfollowed := true, recurses := true, apart := false }
def PastCountsSaid : Prop := pastCountsRow.holds Try.pinned (OpenSpec.ofChange pastCountsSpec)

/-- ITS FALSE NEIGHBOUR: 'it returns false'. Refute it at one input. -/
def pastCountsWrong : ChangeSpec := { name := "pastCounts", fn := fun _ => fun
  | [d] => { results := [.lit (.bool false)], args := [d] }
  | _ => none }
def PastCountsWrongFalsely : Prop := pastCountsRow.holds Try.pinned (OpenSpec.ofChange pastCountsWrong)

/- THE SECOND FORM. 'bulk': how many values and letters a reading holds, each counted each time it is reached (what is shared counts as often as it is met; a slice's spare places count too). A statement '..UptoSaid' is the law's where the arguments, and the package variables that the reading takes, are together of bulk at most 1048576: NARROWER than '..Said'. Prove '..Said' where nothing that the law and all that it calls make is longer than what came in: it says more and counts as full. Else prove '..UptoSaid'. A law counts once. -/
mutual
def uptoBulk {H : Type} : DataW H → Nat
  | .lit (.string bytes) => bytes.length + 1
  | .lit _ => 1
  | .nil => 1
  | .ptr d => uptoBulk d + 1
  | .slice elems spare => uptoBulkAll elems + uptoBulkAll spare + 1
  | .agg parts => uptoBulkAll parts + 1
  | .iface _ d => uptoBulk d + 1
  | .map entries => uptoBulkEntries entries + 1
  | .held _ => 1
def uptoBulkAll {H : Type} : List (DataW H) → Nat
  | [] => 0
  | d :: r => uptoBulk d + uptoBulkAll r
def uptoBulkEntries {H : Type} : List (Lit × DataW H) → Nat
  | [] => 0
  | x :: r => uptoBulkEntry x + uptoBulkEntries r
def uptoBulkEntry {H : Type} : Lit × DataW H → Nat
  | (.string bytes, d) => bytes.length + uptoBulk d + 1
  | (_, d) => uptoBulk d + 1
 end
def uptoSmall : (H : Type) → List (DataW H) → Bool := fun _ ds => decide (uptoBulkAll ds ≤ 1048576)
def OpenSpec.upto (s : _root_.Go.ChangeSpec) : _root_.Go.OpenSpec := { _root_.Go.OpenSpec.ofChange s with cond := some uptoSmall }

/-- 'bargemanlaw08.PastPlays', WHERE WHAT IT READS IS OF BULK AT MOST 1048576: true; the input reads as it did. -/
def pastPlaysUptoRow : OpenClaim := { program := "ytoidondngoljaaa", sum := "f01539c563bc157620b6f075e2c09eb780f0d957b822581b3920dfb82c7bebb8", func := "bargeman/bargemanlaw08.PastPlays", spec := "pastPlays", inPlace := ["internal/abi.NoEscape"], unfollowed := true, recurses := true, apart := false, narrowed := true }
def PastPlaysUptoSaid : Prop := pastPlaysUptoRow.holds Try.pinned (OpenSpec.upto pastPlaysSpec)

/-- 'bargemanlaw08.PastRights', WHERE WHAT IT READS IS OF BULK AT MOST 1048576: true; the input reads as it did. -/
def pastRightsUptoRow : OpenClaim := { program := "ytoidondngoljaaa", sum := "f01539c563bc157620b6f075e2c09eb780f0d957b822581b3920dfb82c7bebb8", func := "bargeman/bargemanlaw08.PastRights", spec := "pastRights", unfollowed := true, recurses := true, apart := false, narrowed := true }
def PastRightsUptoSaid : Prop := pastRightsUptoRow.holds Try.pinned (OpenSpec.upto pastRightsSpec)

/-- 'bargemanlaw08.PastOrder', WHERE WHAT IT READS IS OF BULK AT MOST 1048576: true; the input reads as it did. -/
def pastOrderUptoRow : OpenClaim := { program := "ytoidondngoljaaa", sum := "f01539c563bc157620b6f075e2c09eb780f0d957b822581b3920dfb82c7bebb8", func := "bargeman/bargemanlaw08.PastOrder", spec := "pastOrder", unfollowed := true, recurses := true, apart := false, narrowed := true }
def PastOrderUptoSaid : Prop := pastOrderUptoRow.holds Try.pinned (OpenSpec.upto pastOrderSpec)

/-- 'bargemanlaw08.PastSettles', WHERE WHAT IT READS IS OF BULK AT MOST 1048576: true; the input reads as it did. -/
def pastSettlesUptoRow : OpenClaim := { program := "ytoidondngoljaaa", sum := "f01539c563bc157620b6f075e2c09eb780f0d957b822581b3920dfb82c7bebb8", func := "bargeman/bargemanlaw08.PastSettles", spec := "pastSettles", unfollowed := true, recurses := true, apart := false, narrowed := true }
def PastSettlesUptoSaid : Prop := pastSettlesUptoRow.holds Try.pinned (OpenSpec.upto pastSettlesSpec)

/-- 'bargemanlaw08.PastLate', WHERE WHAT IT READS IS OF BULK AT MOST 1048576: true; the input reads as it did. -/
def pastLateUptoRow : OpenClaim := { program := "ytoidondngoljaaa", sum := "f01539c563bc157620b6f075e2c09eb780f0d957b822581b3920dfb82c7bebb8", func := "bargeman/bargemanlaw08.PastLate", spec := "pastLate", unfollowed := true, recurses := true, apart := false, narrowed := true }
def PastLateUptoSaid : Prop := pastLateUptoRow.holds Try.pinned (OpenSpec.upto pastLateSpec)

/-- 'bargemanlaw08.PastBack', WHERE WHAT IT READS IS OF BULK AT MOST 1048576: true; the input reads as it did. -/
def pastBackUptoRow : OpenClaim := { program := "ytoidondngoljaaa", sum := "f01539c563bc157620b6f075e2c09eb780f0d957b822581b3920dfb82c7bebb8", func := "bargeman/bargemanlaw08.PastBack", spec := "pastBack", inPlace := ["internal/abi.NoEscape"], unfollowed := true, recurses := true, apart := false, narrowed := true }
def PastBackUptoSaid : Prop := pastBackUptoRow.holds Try.pinned (OpenSpec.upto pastBackSpec)

/-- 'bargemanlaw08.PastCounts', WHERE WHAT IT READS IS OF BULK AT MOST 1048576: true; the input reads as it did. -/
def pastCountsUptoRow : OpenClaim := { program := "ytoidondngoljaaa", sum := "f01539c563bc157620b6f075e2c09eb780f0d957b822581b3920dfb82c7bebb8", func := "bargeman/bargemanlaw08.PastCounts", spec := "pastCounts", unfollowed := true, recurses := true, apart := false, narrowed := true }
def PastCountsUptoSaid : Prop := pastCountsUptoRow.holds Try.pinned (OpenSpec.upto pastCountsSpec)

end Rows
end Go.Proofs.Ytoidondngoljaaa
