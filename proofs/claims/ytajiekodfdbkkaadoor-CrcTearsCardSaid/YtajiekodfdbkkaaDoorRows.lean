/-
  NARROWER THAN 'FOR EVERY INPUT', by the rows' own cells (each row's printed sentence says how): CrcTells: laid · CrcBack: laid · CrcTears: laid · CrcRow: laid.
  DERIVED. THE GIVEN ROWS OF THIS SEAT. 4 by the template 'for every input the law returns true; each argument reads behind the call as it read before'; 0 by the template 'total and deterministic' (their statements: YtajiekodfdbkkaaDoorTotals.lean).
  GIVEN WITH THE SEED: the statements are not yours to turn. If you find one false, say at which input.
  Laid BY PROGRAM, IN A SANDBOX (cutbox-rows.mjs): the forced cells as the released guide's own fill.sh prints them over the translation 59596eae7a5a9db4… (all of the seat's roots in one cut). By AI agents, Wed Nov 11 2026. No macro, syntax, notation, axiom, sorry.
-/
import Derived.Test.YtajiekodfdbkkaaDoorChecked
import GoSem.Claim
import GoSem.ClaimJoined
import GoSem.ClaimMapViews
import Derived.JoinedTies
import Derived.KernelRfl
namespace Go.Proofs.YtajiekodfdbkkaaDoor
/- THE CELL 'sum', in the pinned program and in every row, IS THE sha256 OF THE DUMP (.gsa) THAT YtajiekodfdbkkaaDoorProg.lean LOADS. Nothing in Lean hashes anything: it is a label: what it is worth is what the hold of that sum in a sandbox is worth. -/
noncomputable def Tryd.pinned : Pinned := { name := "ytajiekodfdbkkaadoor", sum := "59596eae7a5a9db410158662e6fdf05ce1dd221736ba23f3fed5ebb12370e9c2", checked := Tryd.checked }
namespace Rows
def none {H : Type} : Left H := { results := [], args := [] }

/- WHAT THE LISTED PACKAGE-LEVEL VARIABLES READ AS WHEN THE CALL BEGINS. Each datum BY PROGRAM (the guide's laid-datum.mjs) off the statement by which the dump's own 'gosem.cut.vars' lays the variable. In a bare row this is a premise. The card (YtajiekodfdbkkaaDoorCards.lean) ties it to the program's text. -/
def laid_bargeman_crc_mixes {H : Type} : DataW H := .agg [.lit (.int .u32 0), .lit (.int .u32 498536548), .lit (.int .u32 997073096), .lit (.int .u32 651767980), .lit (.int .u32 1994146192), .lit (.int .u32 1802195444), .lit (.int .u32 1303535960), .lit (.int .u32 1342533948), .lit (.int .u32 3988292384), .lit (.int .u32 4027552580), .lit (.int .u32 3604390888), .lit (.int .u32 3412177804), .lit (.int .u32 2607071920), .lit (.int .u32 2262029012), .lit (.int .u32 2685067896), .lit (.int .u32 3183342108)]

/-- 'bargemanlaw02.CrcTells': WHATEVER THE INPUT: true; the input reads as it did. -/
def crcTellsSpec : ChangeSpec := { name := "crcTells", fn := fun _ => fun
  | [d1, d2] => { results := [.lit (.bool true)], args := [d1, d2] }
  | _ => none }
def crcTellsRow : OpenClaim := { program := "ytajiekodfdbkkaadoor", sum := "59596eae7a5a9db410158662e6fdf05ce1dd221736ba23f3fed5ebb12370e9c2", func := "bargeman/bargemanlaw02.CrcTells", spec := "crcTells", named := ["bargeman/crc.mixes"], apart := false, laid := [("bargeman/crc.mixes", laid_bargeman_crc_mixes)] }
def CrcTellsSaid : Prop := crcTellsRow.holds Tryd.pinned (OpenSpec.ofChange crcTellsSpec)

/-- ITS FALSE NEIGHBOUR: 'it returns false'. Refute it at one input. -/
def crcTellsWrong : ChangeSpec := { name := "crcTells", fn := fun _ => fun
  | [d1, d2] => { results := [.lit (.bool false)], args := [d1, d2] }
  | _ => none }
def CrcTellsWrongFalsely : Prop := crcTellsRow.holds Tryd.pinned (OpenSpec.ofChange crcTellsWrong)

/-- 'bargemanlaw02.CrcBack': WHATEVER THE INPUT: true; the input reads as it did. -/
def crcBackSpec : ChangeSpec := { name := "crcBack", fn := fun _ => fun
  | [d1, d2] => { results := [.lit (.bool true)], args := [d1, d2] }
  | _ => none }
def crcBackRow : OpenClaim := { program := "ytajiekodfdbkkaadoor", sum := "59596eae7a5a9db410158662e6fdf05ce1dd221736ba23f3fed5ebb12370e9c2", func := "bargeman/bargemanlaw02.CrcBack", spec := "crcBack", named := ["bargeman/crc.mixes"], apart := false, laid := [("bargeman/crc.mixes", laid_bargeman_crc_mixes)] }
def CrcBackSaid : Prop := crcBackRow.holds Tryd.pinned (OpenSpec.ofChange crcBackSpec)

/-- ITS FALSE NEIGHBOUR: 'it returns false'. Refute it at one input. -/
def crcBackWrong : ChangeSpec := { name := "crcBack", fn := fun _ => fun
  | [d1, d2] => { results := [.lit (.bool false)], args := [d1, d2] }
  | _ => none }
def CrcBackWrongFalsely : Prop := crcBackRow.holds Tryd.pinned (OpenSpec.ofChange crcBackWrong)

/-- 'bargemanlaw02.CrcTears': WHATEVER THE INPUT: true; the input reads as it did. -/
def crcTearsSpec : ChangeSpec := { name := "crcTears", fn := fun _ => fun
  | [d1, d2, d3] => { results := [.lit (.bool true)], args := [d1, d2, d3] }
  | _ => none }
def crcTearsRow : OpenClaim := { program := "ytajiekodfdbkkaadoor", sum := "59596eae7a5a9db410158662e6fdf05ce1dd221736ba23f3fed5ebb12370e9c2", func := "bargeman/bargemanlaw02.CrcTears", spec := "crcTears", named := ["bargeman/crc.mixes"], apart := false, laid := [("bargeman/crc.mixes", laid_bargeman_crc_mixes)] }
def CrcTearsSaid : Prop := crcTearsRow.holds Tryd.pinned (OpenSpec.ofChange crcTearsSpec)

/-- ITS FALSE NEIGHBOUR: 'it returns false'. Refute it at one input. -/
def crcTearsWrong : ChangeSpec := { name := "crcTears", fn := fun _ => fun
  | [d1, d2, d3] => { results := [.lit (.bool false)], args := [d1, d2, d3] }
  | _ => none }
def CrcTearsWrongFalsely : Prop := crcTearsRow.holds Tryd.pinned (OpenSpec.ofChange crcTearsWrong)

/-- 'bargemanlaw02.CrcRow': WHATEVER THE INPUT: true; the input reads as it did. -/
def crcRowSpec : ChangeSpec := { name := "crcRow", fn := fun _ => fun
  | [d] => { results := [.lit (.bool true)], args := [d] }
  | _ => none }
def crcRowRow : OpenClaim := { program := "ytajiekodfdbkkaadoor", sum := "59596eae7a5a9db410158662e6fdf05ce1dd221736ba23f3fed5ebb12370e9c2", func := "bargeman/bargemanlaw02.CrcRow", spec := "crcRow", named := ["bargeman/crc.mixes"], apart := false, laid := [("bargeman/crc.mixes", laid_bargeman_crc_mixes)] }
def CrcRowSaid : Prop := crcRowRow.holds Tryd.pinned (OpenSpec.ofChange crcRowSpec)

/-- ITS FALSE NEIGHBOUR: 'it returns false'. Refute it at one input. -/
def crcRowWrong : ChangeSpec := { name := "crcRow", fn := fun _ => fun
  | [d] => { results := [.lit (.bool false)], args := [d] }
  | _ => none }
def CrcRowWrongFalsely : Prop := crcRowRow.holds Tryd.pinned (OpenSpec.ofChange crcRowWrong)

/- THE SECOND FORM. 'bulk': how many values and letters a reading holds, each counted each time it is reached (what is shared counts as often as it is met; a slice's spare places count too). A statement '..UptoSaid' is the law's where the arguments, and the package variables that the reading takes, are together of bulk at most 1048576: NARROWER than '..Said'. Prove '..Said' where nothing that the law and all that it calls make is longer than what came in: it says more and counts as full. Else prove '..UptoSaid'. A law counts once. -/
mutual
def uptoBulk {H : Type} : DataW H → Nat
  | .lit (.string bytes) => bytes.length + 1
  | .lit _ => 1
  | .nil => 1
  | .ptr d => uptoBulk d + 1
  | .slice elems spare => uptoBulkAll elems + uptoBulkAll spare + 1
  | .agg parts => uptoBulkAll parts + 1
  | .iface _ d => uptoBulk d + 1
  | .map entries => uptoBulkEntries entries + 1
  | .held _ => 1
def uptoBulkAll {H : Type} : List (DataW H) → Nat
  | [] => 0
  | d :: r => uptoBulk d + uptoBulkAll r
def uptoBulkEntries {H : Type} : List (Lit × DataW H) → Nat
  | [] => 0
  | x :: r => uptoBulkEntry x + uptoBulkEntries r
def uptoBulkEntry {H : Type} : Lit × DataW H → Nat
  | (.string bytes, d) => bytes.length + uptoBulk d + 1
  | (_, d) => uptoBulk d + 1
 end
def uptoSmall : (H : Type) → List (DataW H) → Bool := fun _ ds => decide (uptoBulkAll ds ≤ 1048576)
def OpenSpec.upto (s : _root_.Go.ChangeSpec) : _root_.Go.OpenSpec := { _root_.Go.OpenSpec.ofChange s with cond := some uptoSmall }

/-- 'bargemanlaw02.CrcTells', WHERE WHAT IT READS IS OF BULK AT MOST 1048576: true; the input reads as it did. -/
def crcTellsUptoRow : OpenClaim := { program := "ytajiekodfdbkkaadoor", sum := "59596eae7a5a9db410158662e6fdf05ce1dd221736ba23f3fed5ebb12370e9c2", func := "bargeman/bargemanlaw02.CrcTells", spec := "crcTells", named := ["bargeman/crc.mixes"], apart := false, laid := [("bargeman/crc.mixes", laid_bargeman_crc_mixes)], narrowed := true }
def CrcTellsUptoSaid : Prop := crcTellsUptoRow.holds Tryd.pinned (OpenSpec.upto crcTellsSpec)

/-- 'bargemanlaw02.CrcBack', WHERE WHAT IT READS IS OF BULK AT MOST 1048576: true; the input reads as it did. -/
def crcBackUptoRow : OpenClaim := { program := "ytajiekodfdbkkaadoor", sum := "59596eae7a5a9db410158662e6fdf05ce1dd221736ba23f3fed5ebb12370e9c2", func := "bargeman/bargemanlaw02.CrcBack", spec := "crcBack", named := ["bargeman/crc.mixes"], apart := false, laid := [("bargeman/crc.mixes", laid_bargeman_crc_mixes)], narrowed := true }
def CrcBackUptoSaid : Prop := crcBackUptoRow.holds Tryd.pinned (OpenSpec.upto crcBackSpec)

/-- 'bargemanlaw02.CrcTears', WHERE WHAT IT READS IS OF BULK AT MOST 1048576: true; the input reads as it did. -/
def crcTearsUptoRow : OpenClaim := { program := "ytajiekodfdbkkaadoor", sum := "59596eae7a5a9db410158662e6fdf05ce1dd221736ba23f3fed5ebb12370e9c2", func := "bargeman/bargemanlaw02.CrcTears", spec := "crcTears", named := ["bargeman/crc.mixes"], apart := false, laid := [("bargeman/crc.mixes", laid_bargeman_crc_mixes)], narrowed := true }
def CrcTearsUptoSaid : Prop := crcTearsUptoRow.holds Tryd.pinned (OpenSpec.upto crcTearsSpec)

/-- 'bargemanlaw02.CrcRow', WHERE WHAT IT READS IS OF BULK AT MOST 1048576: true; the input reads as it did. -/
def crcRowUptoRow : OpenClaim := { program := "ytajiekodfdbkkaadoor", sum := "59596eae7a5a9db410158662e6fdf05ce1dd221736ba23f3fed5ebb12370e9c2", func := "bargeman/bargemanlaw02.CrcRow", spec := "crcRow", named := ["bargeman/crc.mixes"], apart := false, laid := [("bargeman/crc.mixes", laid_bargeman_crc_mixes)], narrowed := true }
def CrcRowUptoSaid : Prop := crcRowUptoRow.holds Tryd.pinned (OpenSpec.upto crcRowSpec)

end Rows
end Go.Proofs.YtajiekodfdbkkaaDoor
