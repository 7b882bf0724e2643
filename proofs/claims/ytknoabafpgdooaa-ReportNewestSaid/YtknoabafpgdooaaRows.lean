/-
  No cell of these rows narrows 'for every input' (looked for: loops, veiled, ifaces, maps, wideKeys, modest, calm, conditions, laid).
  DERIVED. THE GIVEN ROWS OF THIS SEAT. 5 by the template 'for every input the law returns true; each argument reads behind the call as it read before'; 0 by the template 'total and deterministic' (their statements: YtknoabafpgdooaaTotals.lean).
  GIVEN WITH THE SEED: the statements are not yours to turn. If you find one false, say at which input.
  Laid BY PROGRAM, IN A SANDBOX (cutbox-rows.mjs): the forced cells as the released guide's own fill.sh prints them over the translation d591849ad5e5bfab… (all of the seat's roots in one cut). By AI agents, Wed Nov 11 2026. No macro, syntax, notation, axiom, sorry.
-/
import Derived.Test.YtknoabafpgdooaaChecked
import GoSem.Claim
import GoSem.ClaimJoined
import GoSem.ClaimMapViews
import Derived.JoinedTies
import Derived.KernelRfl
namespace Go.Proofs.Ytknoabafpgdooaa
/- THE CELL 'sum', in the pinned program and in every row, IS THE sha256 OF THE DUMP (.gsa) THAT YtknoabafpgdooaaProg.lean LOADS. Nothing in Lean hashes anything: it is a label: what it is worth is what the hold of that sum in a sandbox is worth. -/
noncomputable def Try.pinned : Pinned := { name := "ytknoabafpgdooaa", sum := "d591849ad5e5bfab9c162002b299099416261332bacb91d28054c0546ddf251b", checked := Try.checked }
namespace Rows
def none {H : Type} : Left H := { results := [], args := [] }

/-- 'bargemanlaw14.ReportTells': WHATEVER THE INPUT: true; the input reads as it did. -/
def reportTellsSpec : ChangeSpec := { name := "reportTells", fn := fun _ => fun
  | [d1, d2] => { results := [.lit (.bool true)], args := [d1, d2] }
  | _ => none }
def reportTellsRow : OpenClaim := { program := "ytknoabafpgdooaa", sum := "d591849ad5e5bfab9c162002b299099416261332bacb91d28054c0546ddf251b", func := "bargeman/bargemanlaw14.ReportTells", spec := "reportTells", inPlace := ["internal/abi.NoEscape"], unfollowed := true, recurses := true, apart := false }
def ReportTellsSaid : Prop := reportTellsRow.holds Try.pinned (OpenSpec.ofChange reportTellsSpec)

/-- ITS FALSE NEIGHBOUR: 'it returns false'. Refute it at one input. -/
def reportTellsWrong : ChangeSpec := { name := "reportTells", fn := fun _ => fun
  | [d1, d2] => { results := [.lit (.bool false)], args := [d1, d2] }
  | _ => none }
def ReportTellsWrongFalsely : Prop := reportTellsRow.holds Try.pinned (OpenSpec.ofChange reportTellsWrong)

/-- 'bargemanlaw14.ReportMerges': WHATEVER THE INPUT: true; the input reads as it did. -/
def reportMergesSpec : ChangeSpec := { name := "reportMerges", fn := fun _ => fun
  | [d] => { results := [.lit (.bool true)], args := [d] }
  | _ => none }
def reportMergesRow : OpenClaim := { program := "ytknoabafpgdooaa", sum := "d591849ad5e5bfab9c162002b299099416261332bacb91d28054c0546ddf251b", func := "bargeman/bargemanlaw14.ReportMerges", spec := "reportMerges", inPlace := ["internal/abi.NoEscape"], unfollowed := true, recurses := true, apart := false }
def ReportMergesSaid : Prop := reportMergesRow.holds Try.pinned (OpenSpec.ofChange reportMergesSpec)

/-- ITS FALSE NEIGHBOUR: 'it returns false'. Refute it at one input. -/
def reportMergesWrong : ChangeSpec := { name := "reportMerges", fn := fun _ => fun
  | [d] => { results := [.lit (.bool false)], args := [d] }
  | _ => none }
def ReportMergesWrongFalsely : Prop := reportMergesRow.holds Try.pinned (OpenSpec.ofChange reportMergesWrong)

/-- 'bargemanlaw14.ReportBack': WHATEVER THE INPUT: true; the input reads as it did. -/
def reportBackSpec : ChangeSpec := { name := "reportBack", fn := fun _ => fun
  | [d1, d2] => { results := [.lit (.bool true)], args := [d1, d2] }
  | _ => none }
def reportBackRow : OpenClaim := { program := "ytknoabafpgdooaa", sum := "d591849ad5e5bfab9c162002b299099416261332bacb91d28054c0546ddf251b", func := "bargeman/bargemanlaw14.ReportBack", spec := "reportBack", inPlace := ["internal/abi.NoEscape"], unfollowed := true, recurses := true, apart := false }
def ReportBackSaid : Prop := reportBackRow.holds Try.pinned (OpenSpec.ofChange reportBackSpec)

/-- ITS FALSE NEIGHBOUR: 'it returns false'. Refute it at one input. -/
def reportBackWrong : ChangeSpec := { name := "reportBack", fn := fun _ => fun
  | [d1, d2] => { results := [.lit (.bool false)], args := [d1, d2] }
  | _ => none }
def ReportBackWrongFalsely : Prop := reportBackRow.holds Try.pinned (OpenSpec.ofChange reportBackWrong)

/-- 'bargemanlaw14.ReportNewest': WHATEVER THE INPUT: true; the input reads as it did. -/
def reportNewestSpec : ChangeSpec := { name := "reportNewest", fn := fun _ => fun
  | [d1, d2] => { results := [.lit (.bool true)], args := [d1, d2] }
  | _ => none }
def reportNewestRow : OpenClaim := { program := "ytknoabafpgdooaa", sum := "d591849ad5e5bfab9c162002b299099416261332bacb91d28054c0546ddf251b", func := "bargeman/bargemanlaw14.ReportNewest", spec := "reportNewest", inPlace := ["internal/abi.NoEscape"], unfollowed := true, recurses := true, apart := false }
def ReportNewestSaid : Prop := reportNewestRow.holds Try.pinned (OpenSpec.ofChange reportNewestSpec)

/-- ITS FALSE NEIGHBOUR: 'it returns false'. Refute it at one input. -/
def reportNewestWrong : ChangeSpec := { name := "reportNewest", fn := fun _ => fun
  | [d1, d2] => { results := [.lit (.bool false)], args := [d1, d2] }
  | _ => none }
def ReportNewestWrongFalsely : Prop := reportNewestRow.holds Try.pinned (OpenSpec.ofChange reportNewestWrong)

/-- 'bargemanlaw14.ReportOrder': WHATEVER THE INPUT: true; the input reads as it did. -/
def reportOrderSpec : ChangeSpec := { name := "reportOrder", fn := fun _ => fun
  | [d1, d2, d3] => { results := [.lit (.bool true)], args := [d1, d2, d3] }
  | _ => none }
def reportOrderRow : OpenClaim := { program := "ytknoabafpgdooaa", sum := "d591849ad5e5bfab9c162002b299099416261332bacb91d28054c0546ddf251b", func := "bargeman/bargemanlaw14.ReportOrder", spec := "reportOrder", inPlace := ["internal/abi.NoEscape"], unfollowed := true, recurses := true, apart := false }
def ReportOrderSaid : Prop := reportOrderRow.holds Try.pinned (OpenSpec.ofChange reportOrderSpec)

/-- ITS FALSE NEIGHBOUR: 'it returns false'. Refute it at one input. -/
def reportOrderWrong : ChangeSpec := { name := "reportOrder", fn := fun _ => fun
  | [d1, d2, d3] => { results := [.lit (.bool false)], args := [d1, d2, d3] }
  | _ => none }
def ReportOrderWrongFalsely : Prop := reportOrderRow.holds Try.pinned (OpenSpec.ofChange reportOrderWrong)

/- THE SECOND FORM. 'bulk': how many values and letters a reading holds, each counted each time it is reached (what is shared counts as often as it is met; a slice's spare places count too). A statement '..UptoSaid' is the law's where the arguments, and the package variables that the reading takes, are together of bulk at most 1048576: NARROWER than '..Said'. Prove '..Said' where nothing that the law and all that it calls make is longer than what came in: it says more and counts as full. Else prove '..UptoSaid'. A law counts once. -/
mutual
def uptoBulk {H : Type} : DataW H → Nat
  | .lit (.string bytes) => bytes.length + 1
  | .lit _ => 1
  | .nil => 1
  | .ptr d => uptoBulk d + 1
  | .slice elems spare => uptoBulkAll elems + uptoBulkAll spare + 1
  | .agg parts => uptoBulkAll parts + 1
  | .iface _ d => uptoBulk d + 1
  | .map entries => uptoBulkEntries entries + 1
  | .held _ => 1
def uptoBulkAll {H : Type} : List (DataW H) → Nat
  | [] => 0
  | d :: r => uptoBulk d + uptoBulkAll r
def uptoBulkEntries {H : Type} : List (Lit × DataW H) → Nat
  | [] => 0
  | x :: r => uptoBulkEntry x + uptoBulkEntries r
def uptoBulkEntry {H : Type} : Lit × DataW H → Nat
  | (.string bytes, d) => bytes.length + uptoBulk d + 1
  | (_, d) => uptoBulk d + 1
 end
def uptoSmall : (H : Type) → List (DataW H) → Bool := fun _ ds => decide (uptoBulkAll ds ≤ 1048576)
def OpenSpec.upto (s : _root_.Go.ChangeSpec) : _root_.Go.OpenSpec := { _root_.Go.OpenSpec.ofChange s with cond := some uptoSmall }

/-- 'bargemanlaw14.ReportTells', WHERE WHAT IT READS IS OF BULK AT MOST 1048576: true; the input reads as it did. -/
def reportTellsUptoRow : OpenClaim := { program := "ytknoabafpgdooaa", sum := "d591849ad5e5bfab9c162002b299099416261332bacb91d28054c0546ddf251b", func := "bargeman/bargemanlaw14.ReportTells", spec := "reportTells", inPlace := ["internal/abi.NoEscape"], unfollowed := true, recurses := true, apart := false, narrowed := true }
def ReportTellsUptoSaid : Prop := reportTellsUptoRow.holds Try.pinned (OpenSpec.upto reportTellsSpec)

/-- 'bargemanlaw14.ReportMerges', WHERE WHAT IT READS IS OF BULK AT MOST 1048576: true; the input reads as it did. -/
def reportMergesUptoRow : OpenClaim := { program := "ytknoabafpgdooaa", sum := "d591849ad5e5bfab9c162002b299099416261332bacb91d28054c0546ddf251b", func := "bargeman/bargemanlaw14.ReportMerges", spec := "reportMerges", inPlace := ["internal/abi.NoEscape"], unfollowed := true, recurses := true, apart := false, narrowed := true }
def ReportMergesUptoSaid : Prop := reportMergesUptoRow.holds Try.pinned (OpenSpec.upto reportMergesSpec)

/-- 'bargemanlaw14.ReportBack', WHERE WHAT IT READS IS OF BULK AT MOST 1048576: true; the input reads as it did. -/
def reportBackUptoRow : OpenClaim := { program := "ytknoabafpgdooaa", sum := "d591849ad5e5bfab9c162002b299099416261332bacb91d28054c0546ddf251b", func := "bargeman/bargemanlaw14.ReportBack", spec := "reportBack", inPlace := ["internal/abi.NoEscape"], unfollowed := true, recurses := true, apart := false, narrowed := true }
def ReportBackUptoSaid : Prop := reportBackUptoRow.holds Try.pinned (OpenSpec.upto reportBackSpec)

/-- 'bargemanlaw14.ReportNewest', WHERE WHAT IT READS IS OF BULK AT MOST 1048576: true; the input reads as it did. -/
def reportNewestUptoRow : OpenClaim := { program := "ytknoabafpgdooaa", sum := "d591849ad5e5bfab9c162002b299099416261332bacb91d28054c0546ddf251b", func := "bargeman/bargemanlaw14.ReportNewest", spec := "reportNewest", inPlace := ["internal/abi.NoEscape"], unfollowed := true, recurses := true, apart := false, narrowed := true }
def ReportNewestUptoSaid : Prop := reportNewestUptoRow.holds Try.pinned (OpenSpec.upto reportNewestSpec)

/-- 'bargemanlaw14.ReportOrder', WHERE WHAT IT READS IS OF BULK AT MOST 1048576: true; the input reads as it did. -/
def reportOrderUptoRow : OpenClaim := { program := "ytknoabafpgdooaa", sum := "d591849ad5e5bfab9c162002b299099416261332bacb91d28054c0546ddf251b", func := "bargeman/bargemanlaw14.ReportOrder", spec := "reportOrder", inPlace := ["internal/abi.NoEscape"], unfollowed := true, recurses := true, apart := false, narrowed := true }
def ReportOrderUptoSaid : Prop := reportOrderUptoRow.holds Try.pinned (OpenSpec.upto reportOrderSpec)

end Rows
end Go.Proofs.Ytknoabafpgdooaa
