/-
  No cell of these rows narrows 'for every input' (looked for: loops, veiled, ifaces, maps, wideKeys, modest, calm, conditions, laid).
  DERIVED. THE GIVEN ROWS OF THIS SEAT. 5 by the template 'for every input the law returns true; each argument reads behind the call as it read before'; 0 by the template 'total and deterministic' (their statements: YtkocehjomjaidaaTotals.lean).
  GIVEN WITH THE SEED: the statements are not yours to turn. If you find one false, say at which input.
  Laid BY PROGRAM, IN A SANDBOX (cutbox-rows.mjs): the forced cells as the released guide's own fill.sh prints them over the translation 9c56746b64618e27… (all of the seat's roots in one cut). By AI agents, Wed Nov 11 2026. No macro, syntax, notation, axiom, sorry.
-/
import Derived.Test.YtkocehjomjaidaaChecked
import GoSem.Claim
import GoSem.ClaimJoined
import GoSem.ClaimMapViews
import Derived.JoinedTies
import Derived.KernelRfl
namespace Go.Proofs.Ytkocehjomjaidaa
/- THE CELL 'sum', in the pinned program and in every row, IS THE sha256 OF THE DUMP (.gsa) THAT YtkocehjomjaidaaProg.lean LOADS. Nothing in Lean hashes anything: it is a label: what it is worth is what the hold of that sum in a sandbox is worth. -/
noncomputable def Try.pinned : Pinned := { name := "ytkocehjomjaidaa", sum := "9c56746b64618e270d8184ee87b40f86d0bd869dbe68ca21859e79a4260ebfc5", checked := Try.checked }
namespace Rows
def none {H : Type} : Left H := { results := [], args := [] }

/-- 'bargemanlaw05.OpTells': WHATEVER THE INPUT: true; the input reads as it did. -/
def opTellsSpec : ChangeSpec := { name := "opTells", fn := fun _ => fun
  | [d1, d2] => { results := [.lit (.bool true)], args := [d1, d2] }
  | _ => none }
def opTellsRow : OpenClaim := { program := "ytkocehjomjaidaa", sum := "9c56746b64618e270d8184ee87b40f86d0bd869dbe68ca21859e79a4260ebfc5", func := "bargeman/bargemanlaw05.OpTells", spec := "opTells", apart := false }
def OpTellsSaid : Prop := opTellsRow.holds Try.pinned (OpenSpec.ofChange opTellsSpec)

/-- ITS FALSE NEIGHBOUR: 'it returns false'. Refute it at one input. -/
def opTellsWrong : ChangeSpec := { name := "opTells", fn := fun _ => fun
  | [d1, d2] => { results := [.lit (.bool false)], args := [d1, d2] }
  | _ => none }
def OpTellsWrongFalsely : Prop := opTellsRow.holds Try.pinned (OpenSpec.ofChange opTellsWrong)

/-- 'bargemanlaw05.OpParses': WHATEVER THE INPUT: true; the input reads as it did. -/
def opParsesSpec : ChangeSpec := { name := "opParses", fn := fun _ => fun
  | [d] => { results := [.lit (.bool true)], args := [d] }
  | _ => none }
def opParsesRow : OpenClaim := { program := "ytkocehjomjaidaa", sum := "9c56746b64618e270d8184ee87b40f86d0bd869dbe68ca21859e79a4260ebfc5", func := "bargeman/bargemanlaw05.OpParses", spec := "opParses", apart := false }
def OpParsesSaid : Prop := opParsesRow.holds Try.pinned (OpenSpec.ofChange opParsesSpec)

/-- ITS FALSE NEIGHBOUR: 'it returns false'. Refute it at one input. -/
def opParsesWrong : ChangeSpec := { name := "opParses", fn := fun _ => fun
  | [d] => { results := [.lit (.bool false)], args := [d] }
  | _ => none }
def OpParsesWrongFalsely : Prop := opParsesRow.holds Try.pinned (OpenSpec.ofChange opParsesWrong)

/-- 'bargemanlaw05.OpBack': WHATEVER THE INPUT: true; the input reads as it did. -/
def opBackSpec : ChangeSpec := { name := "opBack", fn := fun _ => fun
  | [d1, d2] => { results := [.lit (.bool true)], args := [d1, d2] }
  | _ => none }
def opBackRow : OpenClaim := { program := "ytkocehjomjaidaa", sum := "9c56746b64618e270d8184ee87b40f86d0bd869dbe68ca21859e79a4260ebfc5", func := "bargeman/bargemanlaw05.OpBack", spec := "opBack", apart := false }
def OpBackSaid : Prop := opBackRow.holds Try.pinned (OpenSpec.ofChange opBackSpec)

/-- ITS FALSE NEIGHBOUR: 'it returns false'. Refute it at one input. -/
def opBackWrong : ChangeSpec := { name := "opBack", fn := fun _ => fun
  | [d1, d2] => { results := [.lit (.bool false)], args := [d1, d2] }
  | _ => none }
def OpBackWrongFalsely : Prop := opBackRow.holds Try.pinned (OpenSpec.ofChange opBackWrong)

/-- 'bargemanlaw05.OpWhole': WHATEVER THE INPUT: true; the input reads as it did. -/
def opWholeSpec : ChangeSpec := { name := "opWhole", fn := fun _ => fun
  | [d1, d2, d3] => { results := [.lit (.bool true)], args := [d1, d2, d3] }
  | _ => none }
def opWholeRow : OpenClaim := { program := "ytkocehjomjaidaa", sum := "9c56746b64618e270d8184ee87b40f86d0bd869dbe68ca21859e79a4260ebfc5", func := "bargeman/bargemanlaw05.OpWhole", spec := "opWhole", apart := false }
def OpWholeSaid : Prop := opWholeRow.holds Try.pinned (OpenSpec.ofChange opWholeSpec)

/-- ITS FALSE NEIGHBOUR: 'it returns false'. Refute it at one input. -/
def opWholeWrong : ChangeSpec := { name := "opWhole", fn := fun _ => fun
  | [d1, d2, d3] => { results := [.lit (.bool false)], args := [d1, d2, d3] }
  | _ => none }
def OpWholeWrongFalsely : Prop := opWholeRow.holds Try.pinned (OpenSpec.ofChange opWholeWrong)

/-- 'bargemanlaw05.OpOrder': WHATEVER THE INPUT: true; the input reads as it did. -/
def opOrderSpec : ChangeSpec := { name := "opOrder", fn := fun _ => fun
  | [d1, d2] => { results := [.lit (.bool true)], args := [d1, d2] }
  | _ => none }
def opOrderRow : OpenClaim := { program := "ytkocehjomjaidaa", sum := "9c56746b64618e270d8184ee87b40f86d0bd869dbe68ca21859e79a4260ebfc5", func := "bargeman/bargemanlaw05.OpOrder", spec := "opOrder", apart := false }
def OpOrderSaid : Prop := opOrderRow.holds Try.pinned (OpenSpec.ofChange opOrderSpec)

/-- ITS FALSE NEIGHBOUR: 'it returns false'. Refute it at one input. -/
def opOrderWrong : ChangeSpec := { name := "opOrder", fn := fun _ => fun
  | [d1, d2] => { results := [.lit (.bool false)], args := [d1, d2] }
  | _ => none }
def OpOrderWrongFalsely : Prop := opOrderRow.holds Try.pinned (OpenSpec.ofChange opOrderWrong)

/- THE SECOND FORM. 'bulk': how many values and letters a reading holds, each counted each time it is reached (what is shared counts as often as it is met; a slice's spare places count too). A statement '..UptoSaid' is the law's where the arguments, and the package variables that the reading takes, are together of bulk at most 1048576: NARROWER than '..Said'. Prove '..Said' where nothing that the law and all that it calls make is longer than what came in: it says more and counts as full. Else prove '..UptoSaid'. A law counts once. -/
mutual
def uptoBulk {H : Type} : DataW H → Nat
  | .lit (.string bytes) => bytes.length + 1
  | .lit _ => 1
  | .nil => 1
  | .ptr d => uptoBulk d + 1
  | .slice elems spare => uptoBulkAll elems + uptoBulkAll spare + 1
  | .agg parts => uptoBulkAll parts + 1
  | .iface _ d => uptoBulk d + 1
  | .map entries => uptoBulkEntries entries + 1
  | .held _ => 1
def uptoBulkAll {H : Type} : List (DataW H) → Nat
  | [] => 0
  | d :: r => uptoBulk d + uptoBulkAll r
def uptoBulkEntries {H : Type} : List (Lit × DataW H) → Nat
  | [] => 0
  | x :: r => uptoBulkEntry x + uptoBulkEntries r
def uptoBulkEntry {H : Type} : Lit × DataW H → Nat
  | (.string bytes, d) => bytes.length + uptoBulk d + 1
  | (_, d) => uptoBulk d + 1
 end
def uptoSmall : (H : Type) → List (DataW H) → Bool := fun _ ds => decide (uptoBulkAll ds ≤ 1048576)
def OpenSpec.upto (s : _root_.Go.ChangeSpec) : _root_.Go.OpenSpec := { _root_.Go.OpenSpec.ofChange s with cond := some uptoSmall }

/-- 'bargemanlaw05.OpTells', WHERE WHAT IT READS IS OF BULK AT MOST 1048576: true; the input reads as it did. -/
def opTellsUptoRow : OpenClaim := { program := "ytkocehjomjaidaa", sum := "9c56746b64618e270d8184ee87b40f86d0bd869dbe68ca21859e79a4260ebfc5", func := "bargeman/bargemanlaw05.OpTells", spec := "opTells", apart := false, narrowed := true }
def OpTellsUptoSaid : Prop := opTellsUptoRow.holds Try.pinned (OpenSpec.upto opTellsSpec)

/-- 'bargemanlaw05.OpParses', WHERE WHAT IT READS IS OF BULK AT MOST 1048576: true; the input reads as it did. -/
def opParsesUptoRow : OpenClaim := { program := "ytkocehjomjaidaa", sum := "9c56746b64618e270d8184ee87b40f86d0bd869dbe68ca21859e79a4260ebfc5", func := "bargeman/bargemanlaw05.OpParses", spec := "opParses", apart := false, narrowed := true }
def OpParsesUptoSaid : Prop := opParsesUptoRow.holds Try.pinned (OpenSpec.upto opParsesSpec)

/-- 'bargemanlaw05.OpBack', WHERE WHAT IT READS IS OF BULK AT MOST 1048576: true; the input reads as it did. -/
def opBackUptoRow : OpenClaim := { program := "ytkocehjomjaidaa", sum := "9c56746b64618e270d8184ee87b40f86d0bd869dbe68ca21859e79a4260ebfc5", func := "bargeman/bargemanlaw05.OpBack", spec := "opBack", apart := false, narrowed := true }
def OpBackUptoSaid : Prop := opBackUptoRow.holds Try.pinned (OpenSpec.upto opBackSpec)

/-- 'bargemanlaw05.OpWhole', WHERE WHAT IT READS IS OF BULK AT MOST 1048576: true; the input reads as it did. -/
def opWholeUptoRow : OpenClaim := { program := "ytkocehjomjaidaa", sum := "9c56746b64618e270d8184ee87b40f86d0bd869dbe68ca21859e79a4260ebfc5", func := "bargeman/bargemanlaw05.OpWhole", spec := "opWhole", apart := false, narrowed := true }
def OpWholeUptoSaid : Prop := opWholeUptoRow.holds Try.pinned (OpenSpec.upto opWholeSpec)

/-- 'bargemanlaw05.OpOrder', WHERE WHAT IT READS IS OF BULK AT MOST 1048576: true; the input reads as it did. -/
def opOrderUptoRow : OpenClaim := { program := "ytkocehjomjaidaa", sum := "9c56746b64618e270d8184ee87b40f86d0bd869dbe68ca21859e79a4260ebfc5", func := "bargeman/bargemanlaw05.OpOrder", spec := "opOrder", apart := false, narrowed := true }
def OpOrderUptoSaid : Prop := opOrderUptoRow.holds Try.pinned (OpenSpec.upto opOrderSpec)

end Rows
end Go.Proofs.Ytkocehjomjaidaa
