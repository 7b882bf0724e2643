/-
  NARROWER THAN 'FOR EVERY INPUT', by the rows' own cells (each row's printed sentence says how): FrameTells: laid · FrameParses: laid · FrameBack: laid · FrameGifts: laid · FrameOrder: laid.
  DERIVED. THE GIVEN ROWS OF THIS SEAT. 5 by the template 'for every input the law returns true; each argument reads behind the call as it read before'; 0 by the template 'total and deterministic' (their statements: YtndahomgglpdhaaDoorTotals.lean).
  GIVEN WITH THE SEED: the statements are not yours to turn. If you find one false, say at which input.
  Laid BY PROGRAM, IN A SANDBOX (cutbox-rows.mjs): the forced cells as the released guide's own fill.sh prints them over the translation ea5bc595f751f1bd… (all of the seat's roots in one cut). By AI agents, Wed Nov 11 2026. No macro, syntax, notation, axiom, sorry.
-/
import Derived.Test.YtndahomgglpdhaaDoorChecked
import GoSem.Claim
import GoSem.ClaimJoined
import GoSem.ClaimMapViews
import Derived.JoinedTies
import Derived.KernelRfl
namespace Go.Proofs.YtndahomgglpdhaaDoor
/- THE CELL 'sum', in the pinned program and in every row, IS THE sha256 OF THE DUMP (.gsa) THAT YtndahomgglpdhaaDoorProg.lean LOADS. Nothing in Lean hashes anything: it is a label: what it is worth is what the hold of that sum in a sandbox is worth. -/
noncomputable def Tryd.pinned : Pinned := { name := "ytndahomgglpdhaadoor", sum := "ea5bc595f751f1bd9e6cbf0526f1ca3e22bd22f3e8650c06121bc57dc84ee7c1", checked := Tryd.checked }
namespace Rows
def none {H : Type} : Left H := { results := [], args := [] }

/- WHAT THE LISTED PACKAGE-LEVEL VARIABLES READ AS WHEN THE CALL BEGINS. Each datum BY PROGRAM (the guide's laid-datum.mjs) off the statement by which the dump's own 'gosem.cut.vars' lays the variable. In a bare row this is a premise. The card (YtndahomgglpdhaaDoorCards.lean) ties it to the program's text. -/
def laid_bargeman_crc_mixes {H : Type} : DataW H := .agg [.lit (.int .u32 0), .lit (.int .u32 498536548), .lit (.int .u32 997073096), .lit (.int .u32 651767980), .lit (.int .u32 1994146192), .lit (.int .u32 1802195444), .lit (.int .u32 1303535960), .lit (.int .u32 1342533948), .lit (.int .u32 3988292384), .lit (.int .u32 4027552580), .lit (.int .u32 3604390888), .lit (.int .u32 3412177804), .lit (.int .u32 2607071920), .lit (.int .u32 2262029012), .lit (.int .u32 2685067896), .lit (.int .u32 3183342108)]

/-- 'bargemanlaw15.FrameTells': WHATEVER THE INPUT: true; the input reads as it did. -/
def frameTellsSpec : ChangeSpec := { name := "frameTells", fn := fun _ => fun
  | [d] => { results := [.lit (.bool true)], args := [d] }
  | _ => none }
def frameTellsRow : OpenClaim := { program := "ytndahomgglpdhaadoor", sum := "ea5bc595f751f1bd9e6cbf0526f1ca3e22bd22f3e8650c06121bc57dc84ee7c1", func := "bargeman/bargemanlaw15.FrameTells", spec := "frameTells", inPlace := ["internal/abi.NoEscape"], unfollowed := true, recurses := true, named := ["bargeman/crc.mixes"], apart := false, laid := [("bargeman/crc.mixes", laid_bargeman_crc_mixes)] }
def FrameTellsSaid : Prop := frameTellsRow.holds Tryd.pinned (OpenSpec.ofChange frameTellsSpec)

/-- ITS FALSE NEIGHBOUR: 'it returns false'. Refute it at one input. -/
def frameTellsWrong : ChangeSpec := { name := "frameTells", fn := fun _ => fun
  | [d] => { results := [.lit (.bool false)], args := [d] }
  | _ => none }
def FrameTellsWrongFalsely : Prop := frameTellsRow.holds Tryd.pinned (OpenSpec.ofChange frameTellsWrong)

/-- 'bargemanlaw15.FrameParses': WHATEVER THE INPUT: true; the input reads as it did. -/
def frameParsesSpec : ChangeSpec := { name := "frameParses", fn := fun _ => fun
  | [d] => { results := [.lit (.bool true)], args := [d] }
  | _ => none }
def frameParsesRow : OpenClaim := { program := "ytndahomgglpdhaadoor", sum := "ea5bc595f751f1bd9e6cbf0526f1ca3e22bd22f3e8650c06121bc57dc84ee7c1", func := "bargeman/bargemanlaw15.FrameParses", spec := "frameParses", inPlace := ["internal/abi.NoEscape"], unfollowed := true, recurses := true, named := ["bargeman/crc.mixes"], apart := false, laid := [("bargeman/crc.mixes", laid_bargeman_crc_mixes)] }
def FrameParsesSaid : Prop := frameParsesRow.holds Tryd.pinned (OpenSpec.ofChange frameParsesSpec)

/-- ITS FALSE NEIGHBOUR: 'it returns false'. Refute it at one input. -/
def frameParsesWrong : ChangeSpec := { name := "frameParses", fn := fun _ => fun
  | [d] => { results := [.lit (.bool false)], args := [d] }
  | _ => none }
def FrameParsesWrongFalsely : Prop := frameParsesRow.holds Tryd.pinned (OpenSpec.ofChange frameParsesWrong)

/-- 'bargemanlaw15.FrameBack': WHATEVER THE INPUT: true; the input reads as it did. -/
def frameBackSpec : ChangeSpec := { name := "frameBack", fn := fun _ => fun
  | [d1, d2, d3] => { results := [.lit (.bool true)], args := [d1, d2, d3] }
  | _ => none }
def frameBackRow : OpenClaim := { program := "ytndahomgglpdhaadoor", sum := "ea5bc595f751f1bd9e6cbf0526f1ca3e22bd22f3e8650c06121bc57dc84ee7c1", func := "bargeman/bargemanlaw15.FrameBack", spec := "frameBack", inPlace := ["internal/abi.NoEscape"], unfollowed := true, recurses := true, named := ["bargeman/crc.mixes"], apart := false, laid := [("bargeman/crc.mixes", laid_bargeman_crc_mixes)] }
def FrameBackSaid : Prop := frameBackRow.holds Tryd.pinned (OpenSpec.ofChange frameBackSpec)

/-- ITS FALSE NEIGHBOUR: 'it returns false'. Refute it at one input. -/
def frameBackWrong : ChangeSpec := { name := "frameBack", fn := fun _ => fun
  | [d1, d2, d3] => { results := [.lit (.bool false)], args := [d1, d2, d3] }
  | _ => none }
def FrameBackWrongFalsely : Prop := frameBackRow.holds Tryd.pinned (OpenSpec.ofChange frameBackWrong)

/-- 'bargemanlaw15.FrameGifts': WHATEVER THE INPUT: true; the input reads as it did. -/
def frameGiftsSpec : ChangeSpec := { name := "frameGifts", fn := fun _ => fun
  | [d1, d2] => { results := [.lit (.bool true)], args := [d1, d2] }
  | _ => none }
def frameGiftsRow : OpenClaim := { program := "ytndahomgglpdhaadoor", sum := "ea5bc595f751f1bd9e6cbf0526f1ca3e22bd22f3e8650c06121bc57dc84ee7c1", func := "bargeman/bargemanlaw15.FrameGifts", spec := "frameGifts", inPlace := ["internal/abi.NoEscape"], unfollowed := true, recurses := true, named := ["bargeman/crc.mixes"], apart := false, laid := [("bargeman/crc.mixes", laid_bargeman_crc_mixes)] }
def FrameGiftsSaid : Prop := frameGiftsRow.holds Tryd.pinned (OpenSpec.ofChange frameGiftsSpec)

/-- ITS FALSE NEIGHBOUR: 'it returns false'. Refute it at one input. -/
def frameGiftsWrong : ChangeSpec := { name := "frameGifts", fn := fun _ => fun
  | [d1, d2] => { results := [.lit (.bool false)], args := [d1, d2] }
  | _ => none }
def FrameGiftsWrongFalsely : Prop := frameGiftsRow.holds Tryd.pinned (OpenSpec.ofChange frameGiftsWrong)

/-- 'bargemanlaw15.FrameOrder': WHATEVER THE INPUT: true; the input reads as it did. -/
def frameOrderSpec : ChangeSpec := { name := "frameOrder", fn := fun _ => fun
  | [d1, d2] => { results := [.lit (.bool true)], args := [d1, d2] }
  | _ => none }
def frameOrderRow : OpenClaim := { program := "ytndahomgglpdhaadoor", sum := "ea5bc595f751f1bd9e6cbf0526f1ca3e22bd22f3e8650c06121bc57dc84ee7c1", func := "bargeman/bargemanlaw15.FrameOrder", spec := "frameOrder", inPlace := ["internal/abi.NoEscape"], unfollowed := true, recurses := true, named := ["bargeman/crc.mixes"], apart := false, laid := [("bargeman/crc.mixes", laid_bargeman_crc_mixes)] }
def FrameOrderSaid : Prop := frameOrderRow.holds Tryd.pinned (OpenSpec.ofChange frameOrderSpec)

/-- ITS FALSE NEIGHBOUR: 'it returns false'. Refute it at one input. -/
def frameOrderWrong : ChangeSpec := { name := "frameOrder", fn := fun _ => fun
  | [d1, d2] => { results := [.lit (.bool false)], args := [d1, d2] }
  | _ => none }
def FrameOrderWrongFalsely : Prop := frameOrderRow.holds Tryd.pinned (OpenSpec.ofChange frameOrderWrong)

/- THE SECOND FORM. 'bulk': how many values and letters a reading holds, each counted each time it is reached (what is shared counts as often as it is met; a slice's spare places count too). A statement '..UptoSaid' is the law's where the arguments, and the package variables that the reading takes, are together of bulk at most 1048576: NARROWER than '..Said'. Prove '..Said' where nothing that the law and all that it calls make is longer than what came in: it says more and counts as full. Else prove '..UptoSaid'. A law counts once. -/
mutual
def uptoBulk {H : Type} : DataW H → Nat
  | .lit (.string bytes) => bytes.length + 1
  | .lit _ => 1
  | .nil => 1
  | .ptr d => uptoBulk d + 1
  | .slice elems spare => uptoBulkAll elems + uptoBulkAll spare + 1
  | .agg parts => uptoBulkAll parts + 1
  | .iface _ d => uptoBulk d + 1
  | .map entries => uptoBulkEntries entries + 1
  | .held _ => 1
def uptoBulkAll {H : Type} : List (DataW H) → Nat
  | [] => 0
  | d :: r => uptoBulk d + uptoBulkAll r
def uptoBulkEntries {H : Type} : List (Lit × DataW H) → Nat
  | [] => 0
  | x :: r => uptoBulkEntry x + uptoBulkEntries r
def uptoBulkEntry {H : Type} : Lit × DataW H → Nat
  | (.string bytes, d) => bytes.length + uptoBulk d + 1
  | (_, d) => uptoBulk d + 1
 end
def uptoSmall : (H : Type) → List (DataW H) → Bool := fun _ ds => decide (uptoBulkAll ds ≤ 1048576)
def OpenSpec.upto (s : _root_.Go.ChangeSpec) : _root_.Go.OpenSpec := { _root_.Go.OpenSpec.ofChange s with cond := some uptoSmall }

/-- 'bargemanlaw15.FrameTells', WHERE WHAT IT READS IS OF BULK AT MOST 1048576: true; the input reads as it did. -/
def frameTellsUptoRow : OpenClaim := { program := "ytndahomgglpdhaadoor", sum := "ea5bc595f751f1bd9e6cbf0526f1ca3e22bd22f3e8650c06121bc57dc84ee7c1", func := "bargeman/bargemanlaw15.FrameTells", spec := "frameTells", inPlace := ["internal/abi.NoEscape"], unfollowed := true, recurses := true, named := ["bargeman/crc.mixes"], apart := false, laid := [("bargeman/crc.mixes", laid_bargeman_crc_mixes)], narrowed := true }
def FrameTellsUptoSaid : Prop := frameTellsUptoRow.holds Tryd.pinned (OpenSpec.upto frameTellsSpec)

/-- 'bargemanlaw15.FrameParses', WHERE WHAT IT READS IS OF BULK AT MOST 1048576: true; the input reads as it did. -/
def frameParsesUptoRow : OpenClaim := { program := "ytndahomgglpdhaadoor", sum := "ea5bc595f751f1bd9e6cbf0526f1ca3e22bd22f3e8650c06121bc57dc84ee7c1", func := "bargeman/bargemanlaw15.FrameParses", spec := "frameParses", inPlace := ["internal/abi.NoEscape"], unfollowed := true, recurses := true, named := ["bargeman/crc.mixes"], apart := false, laid := [("bargeman/crc.mixes", laid_bargeman_crc_mixes)], narrowed := true }
def FrameParsesUptoSaid : Prop := frameParsesUptoRow.holds Tryd.pinned (OpenSpec.upto frameParsesSpec)

/-- 'bargemanlaw15.FrameBack', WHERE WHAT IT READS IS OF BULK AT MOST 1048576: true; the input reads as it did. -/
def frameBackUptoRow : OpenClaim := { program := "ytndahomgglpdhaadoor", sum := "ea5bc595f751f1bd9e6cbf0526f1ca3e22bd22f3e8650c06121bc57dc84ee7c1", func := "bargeman/bargemanlaw15.FrameBack", spec := "frameBack", inPlace := ["internal/abi.NoEscape"], unfollowed := true, recurses := true, named := ["bargeman/crc.mixes"], apart := false, laid := [("bargeman/crc.mixes", laid_bargeman_crc_mixes)], narrowed := true }
def FrameBackUptoSaid : Prop := frameBackUptoRow.holds Tryd.pinned (OpenSpec.upto frameBackSpec)

/-- 'bargemanlaw15.FrameGifts', WHERE WHAT IT READS IS OF BULK AT MOST 1048576: true; the input reads as it did. -/
def frameGiftsUptoRow : OpenClaim := { program := "ytndahomgglpdhaadoor", sum := "ea5bc595f751f1bd9e6cbf0526f1ca3e22bd22f3e8650c06121bc57dc84ee7c1", func := "bargeman/bargemanlaw15.FrameGifts", spec := "frameGifts", inPlace := ["internal/abi.NoEscape"], unfollowed := true, recurses := true, named := ["bargeman/crc.mixes"], apart := false, laid := [("bargeman/crc.mixes", laid_bargeman_crc_mixes)], narrowed := true }
def FrameGiftsUptoSaid : Prop := frameGiftsUptoRow.holds Tryd.pinned (OpenSpec.upto frameGiftsSpec)

/-- 'bargemanlaw15.FrameOrder', WHERE WHAT IT READS IS OF BULK AT MOST 1048576: true; the input reads as it did. -/
def frameOrderUptoRow : OpenClaim := { program := "ytndahomgglpdhaadoor", sum := "ea5bc595f751f1bd9e6cbf0526f1ca3e22bd22f3e8650c06121bc57dc84ee7c1", func := "bargeman/bargemanlaw15.FrameOrder", spec := "frameOrder", inPlace := ["internal/abi.NoEscape"], unfollowed := true, recurses := true, named := ["bargeman/crc.mixes"], apart := false, laid := [("bargeman/crc.mixes", laid_bargeman_crc_mixes)], narrowed := true }
def FrameOrderUptoSaid : Prop := frameOrderUptoRow.holds Tryd.pinned (OpenSpec.upto frameOrderSpec)

end Rows
end Go.Proofs.YtndahomgglpdhaaDoor
