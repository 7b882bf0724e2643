/- Texts laid one behind the other: Rw, Rx, Ry, Yf, Yn, Yr. -/
import Derived.Test.YtdcjffajmckleaaGreatDoorE06
import Derived.Lib.MinMax
import Derived.Maps.OwnSet
import Derived.Maps.Views
/- The program's learned and entered. -/
namespace Go.Proofs.YtdcjffajmckleaaGreatDoor
open Go.RowKit Nam Cod Tre Pst Pln

/-- What an operation of the stream makes of a state. -/
def learnD (x : Dv) (o : Mv) : Dv :=
  if o.D = x.node ∧ o.I = x.inc then { x with clock := max x.clock o.C }
  else { x with clock := max x.clock o.C, y := (addV x.y o).1, late := if (addV x.y o).2 = true then x.late else x.late + 1 }
theorem addV_noch {q : Pv} {m : Mv} (h : (addV q m).2 = false) : (addV q m).1 = q := by
  unfold addV at h ⊢
  split
  · rfl
  · rename_i h1
    rw [if_neg h1] at h
    split
    · rfl
    · rename_i h2
      rw [if_neg h2] at h
      cases h
theorem le_boxes (x : Dw) (m : Mv) (w : World) (hx : x.ok w) :
    dzE.In (((w.alloc (.cells #[.int .i64 x.node, .int .i64 x.boot, .int .i64 x.above, .int .i64 x.pos, .int .i64 x.y.t, .int .i64 x.pos, .slice none 0 0, .int .i64 x.q.f, .int .i64 x.q.g, .slice x.qA x.q.os.length x.qc, .slice none 0 0, .slice none 0 0, .slice none 0 0, .slice none 0 0, .slice x.y.bA x.y.base.length x.y.bc, .int .i64 x.y.t, .slice x.y.oA x.y.ops.length x.y.oc, .slice x.y.uA x.y.us.length x.y.uc, .slice x.y.wA x.y.now.length x.y.wc, .slice x.cA x.l.length x.cc, .int .i64 x.inc, .int .i64 x.mode, .int .i64 x.clock, .int .i64 x.sent, .slice x.pA 0 x.pc, .int .i64 x.late] 44)).alloc (.cells #[.int .i64 m.C, .int .i64 m.D, .int .i64 m.I, .int .i64 m.M, .int .i64 m.K, .int .i64 m.U, .string m.s] 55)).alloc (.cells #[.int .i64 0, .int .i64 0, .int .i64 0, .int .i64 0, .int .i64 0, .int .i64 0, .slice none 0 0, .int .i64 0, .int .i64 0, .slice none 0 0, .slice none 0 0, .slice none 0 0, .slice none 0 0, .slice none 0 0, .slice none 0 0, .int .i64 0, .slice none 0 0, .slice none 0 0, .slice none 0 0, .slice none 0 0, .int .i64 0, .int .i64 0, .int .i64 0, .int .i64 0, .slice none 0 0, .int .i64 0] 44)) w.heap.size x.z ∧ opE.In (((w.alloc (.cells #[.int .i64 x.node, .int .i64 x.boot, .int .i64 x.above, .int .i64 x.pos, .int .i64 x.y.t, .int .i64 x.pos, .slice none 0 0, .int .i64 x.q.f, .int .i64 x.q.g, .slice x.qA x.q.os.length x.qc, .slice none 0 0, .slice none 0 0, .slice none 0 0, .slice none 0 0, .slice x.y.bA x.y.base.length x.y.bc, .int .i64 x.y.t, .slice x.y.oA x.y.ops.length x.y.oc, .slice x.y.uA x.y.us.length x.y.uc, .slice x.y.wA x.y.now.length x.y.wc, .slice x.cA x.l.length x.cc, .int .i64 x.inc, .int .i64 x.mode, .int .i64 x.clock, .int .i64 x.sent, .slice x.pA 0 x.pc, .int .i64 x.late] 44)).alloc (.cells #[.int .i64 m.C, .int .i64 m.D, .int .i64 m.I, .int .i64 m.M, .int .i64 m.K, .int .i64 m.U, .string m.s] 55)).alloc (.cells #[.int .i64 0, .int .i64 0, .int .i64 0, .int .i64 0, .int .i64 0, .int .i64 0, .slice none 0 0, .int .i64 0, .int .i64 0, .slice none 0 0, .slice none 0 0, .slice none 0 0, .slice none 0 0, .slice none 0 0, .slice none 0 0, .int .i64 0, .slice none 0 0, .slice none 0 0, .slice none 0 0, .slice none 0 0, .int .i64 0, .int .i64 0, .int .i64 0, .int .i64 0, .slice none 0 0, .int .i64 0] 44)) (w.heap.size + 1) m ∧ dvE.In (((w.alloc (.cells #[.int .i64 x.node, .int .i64 x.boot, .int .i64 x.above, .int .i64 x.pos, .int .i64 x.y.t, .int .i64 x.pos, .slice none 0 0, .int .i64 x.q.f, .int .i64 x.q.g, .slice x.qA x.q.os.length x.qc, .slice none 0 0, .slice none 0 0, .slice none 0 0, .slice none 0 0, .slice x.y.bA x.y.base.length x.y.bc, .int .i64 x.y.t, .slice x.y.oA x.y.ops.length x.y.oc, .slice x.y.uA x.y.us.length x.y.uc, .slice x.y.wA x.y.now.length x.y.wc, .slice x.cA x.l.length x.cc, .int .i64 x.inc, .int .i64 x.mode, .int .i64 x.clock, .int .i64 x.sent, .slice x.pA 0 x.pc, .int .i64 x.late] 44)).alloc (.cells #[.int .i64 m.C, .int .i64 m.D, .int .i64 m.I, .int .i64 m.M, .int .i64 m.K, .int .i64 m.U, .string m.s] 55)).alloc (.cells #[.int .i64 0, .int .i64 0, .int .i64 0, .int .i64 0, .int .i64 0, .int .i64 0, .slice none 0 0, .int .i64 0, .int .i64 0, .slice none 0 0, .slice none 0 0, .slice none 0 0, .slice none 0 0, .slice none 0 0, .slice none 0 0, .int .i64 0, .slice none 0 0, .slice none 0 0, .slice none 0 0, .slice none 0 0, .int .i64 0, .int .i64 0, .int .i64 0, .int .i64 0, .slice none 0 0, .int .i64 0] 44)) (w.heap.size + 2) Dw.zero ∧ Below w.heap.size w (((w.alloc (.cells #[.int .i64 x.node, .int .i64 x.boot, .int .i64 x.above, .int .i64 x.pos, .int .i64 x.y.t, .int .i64 x.pos, .slice none 0 0, .int .i64 x.q.f, .int .i64 x.q.g, .slice x.qA x.q.os.length x.qc, .slice none 0 0, .slice none 0 0, .slice none 0 0, .slice none 0 0, .slice x.y.bA x.y.base.length x.y.bc, .int .i64 x.y.t, .slice x.y.oA x.y.ops.length x.y.oc, .slice x.y.uA x.y.us.length x.y.uc, .slice x.y.wA x.y.now.length x.y.wc, .slice x.cA x.l.length x.cc, .int .i64 x.inc, .int .i64 x.mode, .int .i64 x.clock, .int .i64 x.sent, .slice x.pA 0 x.pc, .int .i64 x.late] 44)).alloc (.cells #[.int .i64 m.C, .int .i64 m.D, .int .i64 m.I, .int .i64 m.M, .int .i64 m.K, .int .i64 m.U, .string m.s] 55)).alloc (.cells #[.int .i64 0, .int .i64 0, .int .i64 0, .int .i64 0, .int .i64 0, .int .i64 0, .slice none 0 0, .int .i64 0, .int .i64 0, .slice none 0 0, .slice none 0 0, .slice none 0 0, .slice none 0 0, .slice none 0 0, .slice none 0 0, .int .i64 0, .slice none 0 0, .slice none 0 0, .slice none 0 0, .slice none 0 0, .int .i64 0, .int .i64 0, .int .i64 0, .int .i64 0, .slice none 0 0, .int .i64 0] 44)) ∧ x.ok (((w.alloc (.cells #[.int .i64 x.node, .int .i64 x.boot, .int .i64 x.above, .int .i64 x.pos, .int .i64 x.y.t, .int .i64 x.pos, .slice none 0 0, .int .i64 x.q.f, .int .i64 x.q.g, .slice x.qA x.q.os.length x.qc, .slice none 0 0, .slice none 0 0, .slice none 0 0, .slice none 0 0, .slice x.y.bA x.y.base.length x.y.bc, .int .i64 x.y.t, .slice x.y.oA x.y.ops.length x.y.oc, .slice x.y.uA x.y.us.length x.y.uc, .slice x.y.wA x.y.now.length x.y.wc, .slice x.cA x.l.length x.cc, .int .i64 x.inc, .int .i64 x.mode, .int .i64 x.clock, .int .i64 x.sent, .slice x.pA 0 x.pc, .int .i64 x.late] 44)).alloc (.cells #[.int .i64 m.C, .int .i64 m.D, .int .i64 m.I, .int .i64 m.M, .int .i64 m.K, .int .i64 m.U, .string m.s] 55)).alloc (.cells #[.int .i64 0, .int .i64 0, .int .i64 0, .int .i64 0, .int .i64 0, .int .i64 0, .slice none 0 0, .int .i64 0, .int .i64 0, .slice none 0 0, .slice none 0 0, .slice none 0 0, .slice none 0 0, .slice none 0 0, .slice none 0 0, .int .i64 0, .slice none 0 0, .slice none 0 0, .slice none 0 0, .slice none 0 0, .int .i64 0, .int .i64 0, .int .i64 0, .int .i64 0, .slice none 0 0, .int .i64 0] 44)) := by
  have b0 := below_alloc (Below.refl w.heap.size w) (.cells #[.int .i64 x.node, .int .i64 x.boot, .int .i64 x.above, .int .i64 x.pos, .int .i64 x.y.t, .int .i64 x.pos, .slice none 0 0, .int .i64 x.q.f, .int .i64 x.q.g, .slice x.qA x.q.os.length x.qc, .slice none 0 0, .slice none 0 0, .slice none 0 0, .slice none 0 0, .slice x.y.bA x.y.base.length x.y.bc, .int .i64 x.y.t, .slice x.y.oA x.y.ops.length x.y.oc, .slice x.y.uA x.y.us.length x.y.uc, .slice x.y.wA x.y.now.length x.y.wc, .slice x.cA x.l.length x.cc, .int .i64 x.inc, .int .i64 x.mode, .int .i64 x.clock, .int .i64 x.sent, .slice x.pA 0 x.pc, .int .i64 x.late] 44)
  have b1 := below_alloc (Below.refl (w.alloc (.cells #[.int .i64 x.node, .int .i64 x.boot, .int .i64 x.above, .int .i64 x.pos, .int .i64 x.y.t, .int .i64 x.pos, .slice none 0 0, .int .i64 x.q.f, .int .i64 x.q.g, .slice x.qA x.q.os.length x.qc, .slice none 0 0, .slice none 0 0, .slice none 0 0, .slice none 0 0, .slice x.y.bA x.y.base.length x.y.bc, .int .i64 x.y.t, .slice x.y.oA x.y.ops.length x.y.oc, .slice x.y.uA x.y.us.length x.y.uc, .slice x.y.wA x.y.now.length x.y.wc, .slice x.cA x.l.length x.cc, .int .i64 x.inc, .int .i64 x.mode, .int .i64 x.clock, .int .i64 x.sent, .slice x.pA 0 x.pc, .int .i64 x.late] 44)).heap.size (w.alloc (.cells #[.int .i64 x.node, .int .i64 x.boot, .int .i64 x.above, .int .i64 x.pos, .int .i64 x.y.t, .int .i64 x.pos, .slice none 0 0, .int .i64 x.q.f, .int .i64 x.q.g, .slice x.qA x.q.os.length x.qc, .slice none 0 0, .slice none 0 0, .slice none 0 0, .slice none 0 0, .slice x.y.bA x.y.base.length x.y.bc, .int .i64 x.y.t, .slice x.y.oA x.y.ops.length x.y.oc, .slice x.y.uA x.y.us.length x.y.uc, .slice x.y.wA x.y.now.length x.y.wc, .slice x.cA x.l.length x.cc, .int .i64 x.inc, .int .i64 x.mode, .int .i64 x.clock, .int .i64 x.sent, .slice x.pA 0 x.pc, .int .i64 x.late] 44))) (.cells #[.int .i64 m.C, .int .i64 m.D, .int .i64 m.I, .int .i64 m.M, .int .i64 m.K, .int .i64 m.U, .string m.s] 55)
  have b2 := below_alloc (Below.refl ((w.alloc (.cells #[.int .i64 x.node, .int .i64 x.boot, .int .i64 x.above, .int .i64 x.pos, .int .i64 x.y.t, .int .i64 x.pos, .slice none 0 0, .int .i64 x.q.f, .int .i64 x.q.g, .slice x.qA x.q.os.length x.qc, .slice none 0 0, .slice none 0 0, .slice none 0 0, .slice none 0 0, .slice x.y.bA x.y.base.length x.y.bc, .int .i64 x.y.t, .slice x.y.oA x.y.ops.length x.y.oc, .slice x.y.uA x.y.us.length x.y.uc, .slice x.y.wA x.y.now.length x.y.wc, .slice x.cA x.l.length x.cc, .int .i64 x.inc, .int .i64 x.mode, .int .i64 x.clock, .int .i64 x.sent, .slice x.pA 0 x.pc, .int .i64 x.late] 44)).alloc (.cells #[.int .i64 m.C, .int .i64 m.D, .int .i64 m.I, .int .i64 m.M, .int .i64 m.K, .int .i64 m.U, .string m.s] 55)).heap.size ((w.alloc (.cells #[.int .i64 x.node, .int .i64 x.boot, .int .i64 x.above, .int .i64 x.pos, .int .i64 x.y.t, .int .i64 x.pos, .slice none 0 0, .int .i64 x.q.f, .int .i64 x.q.g, .slice x.qA x.q.os.length x.qc, .slice none 0 0, .slice none 0 0, .slice none 0 0, .slice none 0 0, .slice x.y.bA x.y.base.length x.y.bc, .int .i64 x.y.t, .slice x.y.oA x.y.ops.length x.y.oc, .slice x.y.uA x.y.us.length x.y.uc, .slice x.y.wA x.y.now.length x.y.wc, .slice x.cA x.l.length x.cc, .int .i64 x.inc, .int .i64 x.mode, .int .i64 x.clock, .int .i64 x.sent, .slice x.pA 0 x.pc, .int .i64 x.late] 44)).alloc (.cells #[.int .i64 m.C, .int .i64 m.D, .int .i64 m.I, .int .i64 m.M, .int .i64 m.K, .int .i64 m.U, .string m.s] 55))) (.cells #[.int .i64 0, .int .i64 0, .int .i64 0, .int .i64 0, .int .i64 0, .int .i64 0, .slice none 0 0, .int .i64 0, .int .i64 0, .slice none 0 0, .slice none 0 0, .slice none 0 0, .slice none 0 0, .slice none 0 0, .slice none 0 0, .int .i64 0, .slice none 0 0, .slice none 0 0, .slice none 0 0, .slice none 0 0, .int .i64 0, .int .i64 0, .int .i64 0, .int .i64 0, .slice none 0 0, .int .i64 0] 44)
  have i0 : dzE.In (w.alloc (.cells #[.int .i64 x.node, .int .i64 x.boot, .int .i64 x.above, .int .i64 x.pos, .int .i64 x.y.t, .int .i64 x.pos, .slice none 0 0, .int .i64 x.q.f, .int .i64 x.q.g, .slice x.qA x.q.os.length x.qc, .slice none 0 0, .slice none 0 0, .slice none 0 0, .slice none 0 0, .slice x.y.bA x.y.base.length x.y.bc, .int .i64 x.y.t, .slice x.y.oA x.y.ops.length x.y.oc, .slice x.y.uA x.y.us.length x.y.uc, .slice x.y.wA x.y.now.length x.y.wc, .slice x.cA x.l.length x.cc, .int .i64 x.inc, .int .i64 x.mode, .int .i64 x.clock, .int .i64 x.sent, .slice x.pA 0 x.pc, .int .i64 x.late] 44)) w.heap.size x.z := El.In.new (E := dzE) w x.z _ rfl
  have i1 : opE.In ((w.alloc (.cells #[.int .i64 x.node, .int .i64 x.boot, .int .i64 x.above, .int .i64 x.pos, .int .i64 x.y.t, .int .i64 x.pos, .slice none 0 0, .int .i64 x.q.f, .int .i64 x.q.g, .slice x.qA x.q.os.length x.qc, .slice none 0 0, .slice none 0 0, .slice none 0 0, .slice none 0 0, .slice x.y.bA x.y.base.length x.y.bc, .int .i64 x.y.t, .slice x.y.oA x.y.ops.length x.y.oc, .slice x.y.uA x.y.us.length x.y.uc, .slice x.y.wA x.y.now.length x.y.wc, .slice x.cA x.l.length x.cc, .int .i64 x.inc, .int .i64 x.mode, .int .i64 x.clock, .int .i64 x.sent, .slice x.pA 0 x.pc, .int .i64 x.late] 44)).alloc (.cells #[.int .i64 m.C, .int .i64 m.D, .int .i64 m.I, .int .i64 m.M, .int .i64 m.K, .int .i64 m.U, .string m.s] 55)) (w.alloc (.cells #[.int .i64 x.node, .int .i64 x.boot, .int .i64 x.above, .int .i64 x.pos, .int .i64 x.y.t, .int .i64 x.pos, .slice none 0 0, .int .i64 x.q.f, .int .i64 x.q.g, .slice x.qA x.q.os.length x.qc, .slice none 0 0, .slice none 0 0, .slice none 0 0, .slice none 0 0, .slice x.y.bA x.y.base.length x.y.bc, .int .i64 x.y.t, .slice x.y.oA x.y.ops.length x.y.oc, .slice x.y.uA x.y.us.length x.y.uc, .slice x.y.wA x.y.now.length x.y.wc, .slice x.cA x.l.length x.cc, .int .i64 x.inc, .int .i64 x.mode, .int .i64 x.clock, .int .i64 x.sent, .slice x.pA 0 x.pc, .int .i64 x.late] 44)).heap.size m := El.In.new (E := opE) _ m _ rfl
  have i2 : dvE.In (((w.alloc (.cells #[.int .i64 x.node, .int .i64 x.boot, .int .i64 x.above, .int .i64 x.pos, .int .i64 x.y.t, .int .i64 x.pos, .slice none 0 0, .int .i64 x.q.f, .int .i64 x.q.g, .slice x.qA x.q.os.length x.qc, .slice none 0 0, .slice none 0 0, .slice none 0 0, .slice none 0 0, .slice x.y.bA x.y.base.length x.y.bc, .int .i64 x.y.t, .slice x.y.oA x.y.ops.length x.y.oc, .slice x.y.uA x.y.us.length x.y.uc, .slice x.y.wA x.y.now.length x.y.wc, .slice x.cA x.l.length x.cc, .int .i64 x.inc, .int .i64 x.mode, .int .i64 x.clock, .int .i64 x.sent, .slice x.pA 0 x.pc, .int .i64 x.late] 44)).alloc (.cells #[.int .i64 m.C, .int .i64 m.D, .int .i64 m.I, .int .i64 m.M, .int .i64 m.K, .int .i64 m.U, .string m.s] 55)).alloc (.cells #[.int .i64 0, .int .i64 0, .int .i64 0, .int .i64 0, .int .i64 0, .int .i64 0, .slice none 0 0, .int .i64 0, .int .i64 0, .slice none 0 0, .slice none 0 0, .slice none 0 0, .slice none 0 0, .slice none 0 0, .slice none 0 0, .int .i64 0, .slice none 0 0, .slice none 0 0, .slice none 0 0, .slice none 0 0, .int .i64 0, .int .i64 0, .int .i64 0, .int .i64 0, .slice none 0 0, .int .i64 0] 44)) ((w.alloc (.cells #[.int .i64 x.node, .int .i64 x.boot, .int .i64 x.above, .int .i64 x.pos, .int .i64 x.y.t, .int .i64 x.pos, .slice none 0 0, .int .i64 x.q.f, .int .i64 x.q.g, .slice x.qA x.q.os.length x.qc, .slice none 0 0, .slice none 0 0, .slice none 0 0, .slice none 0 0, .slice x.y.bA x.y.base.length x.y.bc, .int .i64 x.y.t, .slice x.y.oA x.y.ops.length x.y.oc, .slice x.y.uA x.y.us.length x.y.uc, .slice x.y.wA x.y.now.length x.y.wc, .slice x.cA x.l.length x.cc, .int .i64 x.inc, .int .i64 x.mode, .int .i64 x.clock, .int .i64 x.sent, .slice x.pA 0 x.pc, .int .i64 x.late] 44)).alloc (.cells #[.int .i64 m.C, .int .i64 m.D, .int .i64 m.I, .int .i64 m.M, .int .i64 m.K, .int .i64 m.U, .string m.s] 55)).heap.size Dw.zero := El.In.new (E := dvE) _ Dw.zero _ rfl
  rw [alloc_size, alloc_size] at i2
  rw [alloc_size] at i1
  exact ⟨(i0.below b1).below b2, i1.below b2, i2, below_then (below_then b0 b1) b2, ((hx.below b0).below b1).below b2⟩
set_option maxRecDepth 100000 in
set_option maxHeartbeats 8000000 in
theorem learned_any (x : Dw) (m : Mv) (w : World) (hI : PInv x.y.v) (hl : x.y.ops.length ≤ 200) (hla : -4611686018427387904 ≤ x.late ∧ x.late ≤ 4611686018427387904) (hx : x.ok w) :
    Calls Tryz.prog 96 #[.agg #[.int .i64 x.node, .int .i64 x.boot, .int .i64 x.above, .int .i64 x.pos, .int .i64 x.y.t, .int .i64 x.pos, .slice none 0 0, .int .i64 x.q.f, .int .i64 x.q.g, .slice x.qA x.q.os.length x.qc, .slice none 0 0, .slice none 0 0, .slice none 0 0, .slice none 0 0, .slice x.y.bA x.y.base.length x.y.bc, .int .i64 x.y.t, .slice x.y.oA x.y.ops.length x.y.oc, .slice x.y.uA x.y.us.length x.y.uc, .slice x.y.wA x.y.now.length x.y.wc, .slice x.cA x.l.length x.cc, .int .i64 x.inc, .int .i64 x.mode, .int .i64 x.clock, .int .i64 x.sent, .slice x.pA 0 x.pc, .int .i64 x.late], .agg #[.int .i64 m.C, .int .i64 m.D, .int .i64 m.I, .int .i64 m.M, .int .i64 m.K, .int .i64 m.U, .string m.s]] w fun e w' => ∃ z : Dw, e = .returned (.agg #[.int .i64 z.node, .int .i64 z.boot, .int .i64 z.above, .int .i64 z.pos, .int .i64 z.y.t, .int .i64 z.pos, .slice none 0 0, .int .i64 z.q.f, .int .i64 z.q.g, .slice z.qA z.q.os.length z.qc, .slice none 0 0, .slice none 0 0, .slice none 0 0, .slice none 0 0, .slice z.y.bA z.y.base.length z.y.bc, .int .i64 z.y.t, .slice z.y.oA z.y.ops.length z.y.oc, .slice z.y.uA z.y.us.length z.y.uc, .slice z.y.wA z.y.now.length z.y.wc, .slice z.cA z.l.length z.cc, .int .i64 z.inc, .int .i64 z.mode, .int .i64 z.clock, .int .i64 z.sent, .slice z.pA 0 z.pc, .int .i64 z.late]) ∧ z.ok w' ∧ z.v = learnD x.v m ∧ Below w.heap.size w w' := by
  obtain ⟨hE, hM, hR, hB, hok⟩ := le_boxes x m w hx
  have CA := Lib.hid (fun (wx : World) (h : PastOk wx x.y) => pAdd_any x.y m wx h hI hl)
  obtain ⟨ck, hck⟩ : ∃ ck, max x.clock m.C = ck := ⟨_, rfl⟩
  obtain ⟨lt, hlt⟩ : ∃ lt, x.late + 1 = lt := ⟨_, rfl⟩
  have hwl : IntKind.i64.wrap (x.late + 1) = lt := by rw [IntKind.wrap_i64]; omega
  have HLT := Lib.hid hlt
  clear hx hI hl hla hlt
  go_enter Tryz.func96, Tryz.ntmps96
  go_upto_region 1 with (first | (refine wpList_alloc_dv rfl rfl ?_) | fail)
  simp only [alloc_size, Nat.add_assoc, Nat.reduceAdd]
  generalize ((w.alloc (.cells #[.int .i64 x.node, .int .i64 x.boot, .int .i64 x.above, .int .i64 x.pos, .int .i64 x.y.t, .int .i64 x.pos, .slice none 0 0, .int .i64 x.q.f, .int .i64 x.q.g, .slice x.qA x.q.os.length x.qc, .slice none 0 0, .slice none 0 0, .slice none 0 0, .slice none 0 0, .slice x.y.bA x.y.base.length x.y.bc, .int .i64 x.y.t, .slice x.y.oA x.y.ops.length x.y.oc, .slice x.y.uA x.y.us.length x.y.uc, .slice x.y.wA x.y.now.length x.y.wc, .slice x.cA x.l.length x.cc, .int .i64 x.inc, .int .i64 x.mode, .int .i64 x.clock, .int .i64 x.sent, .slice x.pA 0 x.pc, .int .i64 x.late] 44)).alloc (.cells #[.int .i64 m.C, .int .i64 m.D, .int .i64 m.I, .int .i64 m.M, .int .i64 m.K, .int .i64 m.U, .string m.s] 55)).alloc (.cells #[.int .i64 0, .int .i64 0, .int .i64 0, .int .i64 0, .int .i64 0, .int .i64 0, .slice none 0 0, .int .i64 0, .int .i64 0, .slice none 0 0, .slice none 0 0, .slice none 0 0, .slice none 0 0, .slice none 0 0, .slice none 0 0, .int .i64 0, .slice none 0 0, .slice none 0 0, .slice none 0 0, .slice none 0 0, .int .i64 0, .int .i64 0, .int .i64 0, .int .i64 0, .slice none 0 0, .int .i64 0] 44) = W at *
  obtain ⟨n1, h1⟩ : ∃ n1, w.heap.size = n1 := ⟨_, rfl⟩
  obtain ⟨n2, h2⟩ : ∃ n2, w.heap.size + 1 = n2 := ⟨_, rfl⟩
  obtain ⟨n3, h3⟩ : ∃ n3, w.heap.size + 2 = n3 := ⟨_, rfl⟩
  have hw1 : w.heap.size ≤ n1 := by omega
  have hw3 : w.heap.size ≤ n3 := by omega
  have e31 : n3 ≠ n1 := by omega
  have e21 : n2 ≠ n1 := by omega
  rw [h3] at hR ⊢
  rw [h2] at hM ⊢
  rw [h1] at hE ⊢
  clear h1 h2 h3
  have c22 : W.cell? ⟨n1, 22, none⟩ = some (.int .i64 x.clock) := hE.cell 22
  obtain ⟨q0, q1, q2, q3, q4, q5, q6⟩ := opIn7 hM
  have qf := hE.frozen
  clear q3 q4 q5 q6
  go_upto_region 2 with fail
  have HCK := Lib.hid hck
  clear c22 qf hck q0 q1 q2
  have g1 := by_cell W n1 22 (.int .i64 ck)
  replace hok : ({ x with clock := ck } : Dw).ok (W.setCell ⟨n1, 22, none⟩ (.int .i64 ck)) := by
    obtain ⟨a, b, c, d⟩ := hok.keepZ hE g1
    exact ⟨a, b, c, d⟩
  replace hE := hE.put ⟨{ x with clock := ck }, x.pos, x.y.t⟩ 22 (.int .i64 ck) rfl
  replace hR := hR.other n1 22 (.int .i64 ck) e31
  replace hM := hM.other n1 22 (.int .i64 ck) e21
  replace hB := Below.setCell hB (p := ⟨n1, 22, none⟩) hw1 (.int .i64 ck)
  clear g1
  generalize W.setCell ⟨n1, 22, none⟩ (.int .i64 ck) = V at *
  obtain ⟨y, hy⟩ : ∃ y, ({ x with clock := ck } : Dw) = y := ⟨_, rfl⟩
  have hE' : dzE.In V n1 y.z := by rw [← hy]; exact hE
  have HY := Lib.hid hy
  have hyn : y.node = x.node := by rw [← hy]
  have hyi : y.inc = x.inc := by rw [← hy]
  have hyy : y.y = x.y := by rw [← hy]
  have hyl : y.late = x.late := by rw [← hy]
  rw [hy] at hok
  clear hE hy
  have hE := hE'
  have HV : Hid (learnD x.v m = if m.D = y.node ∧ m.I = y.inc then y.v else { y.v with y := (addV y.y.v m).1, late := if (addV y.y.v m).2 = true then y.late else lt }) := Lib.hid (by
    rw [← HY.out, ← HCK.out, ← HLT.out]; rfl)
  rw [← hyy] at CA
  rw [← hyl] at hwl
  clear hE' hyn hyi hyy hyl HY HCK HLT
  obtain ⟨q0, q1, q2, q3, q4, q5, q6⟩ := opIn7 hM
  have c0 : V.cell? ⟨n1, 0, none⟩ = some (.int .i64 y.node) := hE.cell 0
  have c20 : V.cell? ⟨n1, 20, none⟩ = some (.int .i64 y.inc) := hE.cell 20
  clear q0 q3 q4 q5 q6
  by_cases hown : m.D = y.node ∧ m.I = y.inc
  · have f1 : (m.D == y.node) = true := beq_iff_eq.2 hown.1
    have f2 : (m.I == y.inc) = true := beq_iff_eq.2 hown.2
    have f3 : decide (m.D = y.node) = true := decide_eq_true hown.1
    have f4 : decide (m.I = y.inc) = true := decide_eq_true hown.2
    have HV2 := Lib.hid (show learnD x.v m = y.v by rw [HV.out, if_pos hown])
    clear hown CA hwl
    go_wp2_with (first | (refine El.load dzRow rfl _ rfl n1 0 rfl y.z hE.at #[.int .i64 y.node, .int .i64 y.boot, .int .i64 y.above, .int .i64 y.pos, .int .i64 y.y.t, .int .i64 y.pos, .slice none 0 0, .int .i64 y.q.f, .int .i64 y.q.g, .slice y.qA y.q.os.length y.qc, .slice none 0 0, .slice none 0 0, .slice none 0 0, .slice none 0 0, .slice y.y.bA y.y.base.length y.y.bc, .int .i64 y.y.t, .slice y.y.oA y.y.ops.length y.y.oc, .slice y.y.uA y.y.us.length y.y.uc, .slice y.y.wA y.y.now.length y.y.wc, .slice y.cA y.l.length y.cc, .int .i64 y.inc, .int .i64 y.mode, .int .i64 y.clock, .int .i64 y.sent, .slice y.pA 0 y.pc, .int .i64 y.late] rfl ?_) | (refine El.store dvRow rfl _ _ rfl n3 y #[.int .i64 y.node, .int .i64 y.boot, .int .i64 y.above, .int .i64 y.pos, .int .i64 y.y.t, .int .i64 y.pos, .slice none 0 0, .int .i64 y.q.f, .int .i64 y.q.g, .slice y.qA y.q.os.length y.qc, .slice none 0 0, .slice none 0 0, .slice none 0 0, .slice none 0 0, .slice y.y.bA y.y.base.length y.y.bc, .int .i64 y.y.t, .slice y.y.oA y.y.ops.length y.y.oc, .slice y.y.uA y.y.us.length y.y.uc, .slice y.y.wA y.y.now.length y.y.wc, .slice y.cA y.l.length y.cc, .int .i64 y.inc, .int .i64 y.mode, .int .i64 y.clock, .int .i64 y.sent, .slice y.pA 0 y.pc, .int .i64 y.late] rfl rfl rfl Dw.zero hR ?_) | fail)
    refine El.ret1 dvRow (hR.set y _ rfl) rfl rfl rfl _ rfl ?_
    refine ⟨y, rfl, Dw.ok.keepB hok hR (by_row _ _ _), ?_, below_setRow hB hw3 _⟩
    exact HV2.out.symm
  · have HOW := Lib.hid hown
    by_cases hd : m.D = y.node
    · have f1 : (m.D == y.node) = true := beq_iff_eq.2 hd
      have f3 : decide (m.D = y.node) = true := decide_eq_true hd
      have f2 : (m.I == y.inc) = false := beq_eq_false_iff_ne.2 (fun e => hown ⟨hd, e⟩)
      have f4 : decide (m.I = y.inc) = false := decide_eq_false (fun e => hown ⟨hd, e⟩)
      clear hd hown
      go_wp2_with (first | (refine El.load pwRow rfl _ rfl n1 14 rfl y.y (dz_p hE) #[.slice y.y.bA y.y.base.length y.y.bc, .int .i64 y.y.t, .slice y.y.oA y.y.ops.length y.y.oc, .slice y.y.uA y.y.us.length y.y.uc, .slice y.y.wA y.y.now.length y.y.wc] rfl ?_) | (refine El.load opRow rfl _ rfl n2 0 rfl m hM.at #[.int .i64 m.C, .int .i64 m.D, .int .i64 m.I, .int .i64 m.M, .int .i64 m.K, .int .i64 m.U, .string m.s] rfl ?_) | fail)
      refine (CA.out _ hok.p).mono ?_
      rintro e w3 ⟨y', rfl, hy', hyv', hb3⟩
      replace hE := hE.below hb3
      replace hR := hR.below hb3
      replace hok := hok.below hb3
      replace hB := below_then hB hb3
      clear hb3 CA hM c0 c20
      have hz6 : pwE.In (w3.alloc (.cells #[.slice none 0 0, .int .i64 0, .slice none 0 0, .slice none 0 0, .slice none 0 0] 40)) w3.heap.size Pw.zero := El.In.new (E := pwE) w3 Pw.zero #[.slice none 0 0, .int .i64 0, .slice none 0 0, .slice none 0 0, .slice none 0 0] rfl
      obtain ⟨bd, hbd⟩ : ∃ bd, (addV y.y.v m).2 = bd := ⟨_, rfl⟩
      rw [hbd]
      have HBD := Lib.hid hbd
      have HYV := Lib.hid hyv'
      clear hbd hyv'
      go_upto_region 5 with (first | (refine El.store pwRow rfl _ _ rfl w3.heap.size y' #[.slice y'.bA y'.base.length y'.bc, .int .i64 y'.t, .slice y'.oA y'.ops.length y'.oc, .slice y'.uA y'.us.length y'.uc, .slice y'.wA y'.now.length y'.wc] rfl rfl rfl Pw.zero hz6 ?_) | fail)
      have hal := below_setRow (below_alloc (Below.refl w3.heap.size w3) (.cells #[.slice none 0 0, .int .i64 0, .slice none 0 0, .slice none 0 0, .slice none 0 0] 40)) (Nat.le_refl _) #[.slice y'.bA y'.base.length y'.bc, .int .i64 y'.t, .slice y'.oA y'.ops.length y'.oc, .slice y'.uA y'.us.length y'.uc, .slice y'.wA y'.now.length y'.wc]
      have hN := hz6.set y' #[.slice y'.bA y'.base.length y'.bc, .int .i64 y'.t, .slice y'.oA y'.ops.length y'.oc, .slice y'.uA y'.us.length y'.uc, .slice y'.wA y'.now.length y'.wc] rfl
      replace hE := hE.below hal
      replace hR := hR.below hal
      replace hok := hok.below hal
      replace hy' := hy'.below hal
      replace hB := below_then hB hal
      clear hal hz6
      generalize (w3.alloc (.cells #[.slice none 0 0, .int .i64 0, .slice none 0 0, .slice none 0 0, .slice none 0 0] 40)).setRow w3.heap.size #[.slice y'.bA y'.base.length y'.bc, .int .i64 y'.t, .slice y'.oA y'.ops.length y'.oc, .slice y'.uA y'.us.length y'.uc, .slice y'.wA y'.now.length y'.wc] = W7 at *
      generalize w3.heap.size = n6 at *
      cases bd with
      | false =>
        have HV2 := Lib.hid (show learnD x.v m = ({ y with late := lt } : Dw).v by
          rw [HV.out, if_neg HOW.out, addV_noch HBD.out, HBD.out]; rfl)
        have c25 : W7.cell? ⟨n1, 25, none⟩ = some (.int .i64 y.late) := hE.cell 25
        have qf := hE.frozen
        clear hy' hN
        go_upto_region 7 with fail
        clear c25 qf hwl
        have g1 := by_cell W7 n1 25 (.int .i64 lt)
        replace hok : ({ y with late := lt } : Dw).ok (W7.setCell ⟨n1, 25, none⟩ (.int .i64 lt)) := by
          obtain ⟨a, b, c, d⟩ := hok.keepZ hE g1
          exact ⟨a, b, c, d⟩
        replace hE := hE.put ⟨{ y with late := lt }, y.pos, y.y.t⟩ 25 (.int .i64 lt) rfl
        replace hR := hR.other n1 25 (.int .i64 lt) e31
        replace hB := Below.setCell hB (p := ⟨n1, 25, none⟩) hw1 (.int .i64 lt)
        clear g1
        generalize W7.setCell ⟨n1, 25, none⟩ (.int .i64 lt) = V8 at *
        go_wp2_with (first | (refine El.load dzRow rfl _ rfl n1 0 rfl ⟨{ y with late := lt }, y.pos, y.y.t⟩ hE.at #[.int .i64 ({ y with late := lt } : Dw).node, .int .i64 ({ y with late := lt } : Dw).boot, .int .i64 ({ y with late := lt } : Dw).above, .int .i64 ({ y with late := lt } : Dw).pos, .int .i64 ({ y with late := lt } : Dw).y.t, .int .i64 ({ y with late := lt } : Dw).pos, .slice none 0 0, .int .i64 ({ y with late := lt } : Dw).q.f, .int .i64 ({ y with late := lt } : Dw).q.g, .slice ({ y with late := lt } : Dw).qA ({ y with late := lt } : Dw).q.os.length ({ y with late := lt } : Dw).qc, .slice none 0 0, .slice none 0 0, .slice none 0 0, .slice none 0 0, .slice ({ y with late := lt } : Dw).y.bA ({ y with late := lt } : Dw).y.base.length ({ y with late := lt } : Dw).y.bc, .int .i64 ({ y with late := lt } : Dw).y.t, .slice ({ y with late := lt } : Dw).y.oA ({ y with late := lt } : Dw).y.ops.length ({ y with late := lt } : Dw).y.oc, .slice ({ y with late := lt } : Dw).y.uA ({ y with late := lt } : Dw).y.us.length ({ y with late := lt } : Dw).y.uc, .slice ({ y with late := lt } : Dw).y.wA ({ y with late := lt } : Dw).y.now.length ({ y with late := lt } : Dw).y.wc, .slice ({ y with late := lt } : Dw).cA ({ y with late := lt } : Dw).l.length ({ y with late := lt } : Dw).cc, .int .i64 ({ y with late := lt } : Dw).inc, .int .i64 ({ y with late := lt } : Dw).mode, .int .i64 ({ y with late := lt } : Dw).clock, .int .i64 ({ y with late := lt } : Dw).sent, .slice ({ y with late := lt } : Dw).pA 0 ({ y with late := lt } : Dw).pc, .int .i64 ({ y with late := lt } : Dw).late] rfl ?_) | (refine El.store dvRow rfl _ _ rfl n3 ({ y with late := lt } : Dw) #[.int .i64 ({ y with late := lt } : Dw).node, .int .i64 ({ y with late := lt } : Dw).boot, .int .i64 ({ y with late := lt } : Dw).above, .int .i64 ({ y with late := lt } : Dw).pos, .int .i64 ({ y with late := lt } : Dw).y.t, .int .i64 ({ y with late := lt } : Dw).pos, .slice none 0 0, .int .i64 ({ y with late := lt } : Dw).q.f, .int .i64 ({ y with late := lt } : Dw).q.g, .slice ({ y with late := lt } : Dw).qA ({ y with late := lt } : Dw).q.os.length ({ y with late := lt } : Dw).qc, .slice none 0 0, .slice none 0 0, .slice none 0 0, .slice none 0 0, .slice ({ y with late := lt } : Dw).y.bA ({ y with late := lt } : Dw).y.base.length ({ y with late := lt } : Dw).y.bc, .int .i64 ({ y with late := lt } : Dw).y.t, .slice ({ y with late := lt } : Dw).y.oA ({ y with late := lt } : Dw).y.ops.length ({ y with late := lt } : Dw).y.oc, .slice ({ y with late := lt } : Dw).y.uA ({ y with late := lt } : Dw).y.us.length ({ y with late := lt } : Dw).y.uc, .slice ({ y with late := lt } : Dw).y.wA ({ y with late := lt } : Dw).y.now.length ({ y with late := lt } : Dw).y.wc, .slice ({ y with late := lt } : Dw).cA ({ y with late := lt } : Dw).l.length ({ y with late := lt } : Dw).cc, .int .i64 ({ y with late := lt } : Dw).inc, .int .i64 ({ y with late := lt } : Dw).mode, .int .i64 ({ y with late := lt } : Dw).clock, .int .i64 ({ y with late := lt } : Dw).sent, .slice ({ y with late := lt } : Dw).pA 0 ({ y with late := lt } : Dw).pc, .int .i64 ({ y with late := lt } : Dw).late] rfl rfl rfl Dw.zero hR ?_) | fail)
        refine El.ret1 dvRow (hR.set ({ y with late := lt } : Dw) _ rfl) rfl rfl rfl _ rfl ?_
        refine ⟨({ y with late := lt } : Dw), rfl, Dw.ok.keepB hok hR (by_row _ _ _), ?_, below_setRow hB hw3 _⟩
        exact HV2.out.symm
      | true =>
        have hok1 : ({ y with y := y' } : Dw).ok W7 := ⟨hy', hok.q, hok.c, hok.t⟩
        go_upto_region 9 with (first | (refine El.load pwRow rfl _ rfl n6 0 rfl y' hN.at #[.slice y'.bA y'.base.length y'.bc, .int .i64 y'.t, .slice y'.oA y'.ops.length y'.oc, .slice y'.uA y'.us.length y'.uc, .slice y'.wA y'.now.length y'.wc] rfl ?_) | (refine wpList_store_dz (T := 40) (k := 5) (by kernel_rfl) rfl _ _ rfl n1 14 y.z ⟨{ y with y := y' }, y.pos, y.y.t⟩ [.slice y'.bA y'.base.length y'.bc, .int .i64 y'.t, .slice y'.oA y'.ops.length y'.oc, .slice y'.uA y'.us.length y'.uc, .slice y'.wA y'.now.length y'.wc] rfl (by intro v hv; simp only [List.mem_cons, List.not_mem_nil, or_false] at hv; rcases hv with rfl | rfl | rfl | rfl | rfl <;> rfl) rfl rfl hE rfl (by show 14 + 5 ≤ 26; omega) ?_) | fail)
        replace hok := hok1.keepZ hE (by_row W7 n1 (dzE.c ⟨{ y with y := y' }, y.pos, y.y.t⟩).toArray)
        replace hR := hR.rowN n1 (dzE.c ⟨{ y with y := y' }, y.pos, y.y.t⟩).toArray e31
        replace hB := below_setRow hB hw1 (dzE.c ⟨{ y with y := y' }, y.pos, y.y.t⟩).toArray
        replace hE := hE.set ⟨{ y with y := y' }, y.pos, y.y.t⟩ (dzE.c ⟨{ y with y := y' }, y.pos, y.y.t⟩).toArray rfl
        clear hok1 hN hy'
        generalize W7.setRow n1 (dzE.c ⟨{ y with y := y' }, y.pos, y.y.t⟩).toArray = W8 at *
        have hyt : y.y.t = y'.t := by
          have h := congrArg Pv.t HYV.out
          rw [addV_tt] at h
          exact h.symm
        rw [hyt] at hE
        clear hyt
        have HV2 := Lib.hid (show learnD x.v m = ({ y with y := y' } : Dw).v by
          rw [HV.out, if_neg HOW.out, ← HYV.out, HBD.out]; rfl)
        obtain ⟨Z, hZ⟩ : ∃ Z, ({ y with y := y' } : Dw) = Z := ⟨_, rfl⟩
        have hE2 : dzE.In W8 n1 Z.z := by rw [← hZ]; exact hE
        rw [hZ] at hok HV2
        clear hZ hE
        have hE := hE2
        go_wp2_with (first | (refine El.load dzRow rfl _ rfl n1 0 rfl Z.z hE.at #[.int .i64 Z.node, .int .i64 Z.boot, .int .i64 Z.above, .int .i64 Z.pos, .int .i64 Z.y.t, .int .i64 Z.pos, .slice none 0 0, .int .i64 Z.q.f, .int .i64 Z.q.g, .slice Z.qA Z.q.os.length Z.qc, .slice none 0 0, .slice none 0 0, .slice none 0 0, .slice none 0 0, .slice Z.y.bA Z.y.base.length Z.y.bc, .int .i64 Z.y.t, .slice Z.y.oA Z.y.ops.length Z.y.oc, .slice Z.y.uA Z.y.us.length Z.y.uc, .slice Z.y.wA Z.y.now.length Z.y.wc, .slice Z.cA Z.l.length Z.cc, .int .i64 Z.inc, .int .i64 Z.mode, .int .i64 Z.clock, .int .i64 Z.sent, .slice Z.pA 0 Z.pc, .int .i64 Z.late] rfl ?_) | (refine El.store dvRow rfl _ _ rfl n3 Z #[.int .i64 Z.node, .int .i64 Z.boot, .int .i64 Z.above, .int .i64 Z.pos, .int .i64 Z.y.t, .int .i64 Z.pos, .slice none 0 0, .int .i64 Z.q.f, .int .i64 Z.q.g, .slice Z.qA Z.q.os.length Z.qc, .slice none 0 0, .slice none 0 0, .slice none 0 0, .slice none 0 0, .slice Z.y.bA Z.y.base.length Z.y.bc, .int .i64 Z.y.t, .slice Z.y.oA Z.y.ops.length Z.y.oc, .slice Z.y.uA Z.y.us.length Z.y.uc, .slice Z.y.wA Z.y.now.length Z.y.wc, .slice Z.cA Z.l.length Z.cc, .int .i64 Z.inc, .int .i64 Z.mode, .int .i64 Z.clock, .int .i64 Z.sent, .slice Z.pA 0 Z.pc, .int .i64 Z.late] rfl rfl rfl Dw.zero hR ?_) | fail)
        refine El.ret1 dvRow (hR.set Z _ rfl) rfl rfl rfl _ rfl ?_
        refine ⟨Z, rfl, Dw.ok.keepB hok hR (by_row _ _ _), ?_, below_setRow hB hw3 _⟩
        exact HV2.out.symm
    · have f1 : (m.D == y.node) = false := beq_eq_false_iff_ne.2 hd
      have f3 : decide (m.D = y.node) = false := decide_eq_false hd
      clear hd hown
      go_wp2_with (first | (refine El.load pwRow rfl _ rfl n1 14 rfl y.y (dz_p hE) #[.slice y.y.bA y.y.base.length y.y.bc, .int .i64 y.y.t, .slice y.y.oA y.y.ops.length y.y.oc, .slice y.y.uA y.y.us.length y.y.uc, .slice y.y.wA y.y.now.length y.y.wc] rfl ?_) | (refine El.load opRow rfl _ rfl n2 0 rfl m hM.at #[.int .i64 m.C, .int .i64 m.D, .int .i64 m.I, .int .i64 m.M, .int .i64 m.K, .int .i64 m.U, .string m.s] rfl ?_) | fail)
      refine (CA.out _ hok.p).mono ?_
      rintro e w3 ⟨y', rfl, hy', hyv', hb3⟩
      replace hE := hE.below hb3
      replace hR := hR.below hb3
      replace hok := hok.below hb3
      replace hB := below_then hB hb3
      clear hb3 CA hM c0 c20
      have hz6 : pwE.In (w3.alloc (.cells #[.slice none 0 0, .int .i64 0, .slice none 0 0, .slice none 0 0, .slice none 0 0] 40)) w3.heap.size Pw.zero := El.In.new (E := pwE) w3 Pw.zero #[.slice none 0 0, .int .i64 0, .slice none 0 0, .slice none 0 0, .slice none 0 0] rfl
      obtain ⟨bd, hbd⟩ : ∃ bd, (addV y.y.v m).2 = bd := ⟨_, rfl⟩
      rw [hbd]
      have HBD := Lib.hid hbd
      have HYV := Lib.hid hyv'
      clear hbd hyv'
      go_upto_region 5 with (first | (refine El.store pwRow rfl _ _ rfl w3.heap.size y' #[.slice y'.bA y'.base.length y'.bc, .int .i64 y'.t, .slice y'.oA y'.ops.length y'.oc, .slice y'.uA y'.us.length y'.uc, .slice y'.wA y'.now.length y'.wc] rfl rfl rfl Pw.zero hz6 ?_) | fail)
      have hal := below_setRow (below_alloc (Below.refl w3.heap.size w3) (.cells #[.slice none 0 0, .int .i64 0, .slice none 0 0, .slice none 0 0, .slice none 0 0] 40)) (Nat.le_refl _) #[.slice y'.bA y'.base.length y'.bc, .int .i64 y'.t, .slice y'.oA y'.ops.length y'.oc, .slice y'.uA y'.us.length y'.uc, .slice y'.wA y'.now.length y'.wc]
      have hN := hz6.set y' #[.slice y'.bA y'.base.length y'.bc, .int .i64 y'.t, .slice y'.oA y'.ops.length y'.oc, .slice y'.uA y'.us.length y'.uc, .slice y'.wA y'.now.length y'.wc] rfl
      replace hE := hE.below hal
      replace hR := hR.below hal
      replace hok := hok.below hal
      replace hy' := hy'.below hal
      replace hB := below_then hB hal
      clear hal hz6
      generalize (w3.alloc (.cells #[.slice none 0 0, .int .i64 0, .slice none 0 0, .slice none 0 0, .slice none 0 0] 40)).setRow w3.heap.size #[.slice y'.bA y'.base.length y'.bc, .int .i64 y'.t, .slice y'.oA y'.ops.length y'.oc, .slice y'.uA y'.us.length y'.uc, .slice y'.wA y'.now.length y'.wc] = W7 at *
      generalize w3.heap.size = n6 at *
      cases bd with
      | false =>
        have HV2 := Lib.hid (show learnD x.v m = ({ y with late := lt } : Dw).v by
          rw [HV.out, if_neg HOW.out, addV_noch HBD.out, HBD.out]; rfl)
        have c25 : W7.cell? ⟨n1, 25, none⟩ = some (.int .i64 y.late) := hE.cell 25
        have qf := hE.frozen
        clear hy' hN
        go_upto_region 7 with fail
        clear c25 qf hwl
        have g1 := by_cell W7 n1 25 (.int .i64 lt)
        replace hok : ({ y with late := lt } : Dw).ok (W7.setCell ⟨n1, 25, none⟩ (.int .i64 lt)) := by
          obtain ⟨a, b, c, d⟩ := hok.keepZ hE g1
          exact ⟨a, b, c, d⟩
        replace hE := hE.put ⟨{ y with late := lt }, y.pos, y.y.t⟩ 25 (.int .i64 lt) rfl
        replace hR := hR.other n1 25 (.int .i64 lt) e31
        replace hB := Below.setCell hB (p := ⟨n1, 25, none⟩) hw1 (.int .i64 lt)
        clear g1
        generalize W7.setCell ⟨n1, 25, none⟩ (.int .i64 lt) = V8 at *
        go_wp2_with (first | (refine El.load dzRow rfl _ rfl n1 0 rfl ⟨{ y with late := lt }, y.pos, y.y.t⟩ hE.at #[.int .i64 ({ y with late := lt } : Dw).node, .int .i64 ({ y with late := lt } : Dw).boot, .int .i64 ({ y with late := lt } : Dw).above, .int .i64 ({ y with late := lt } : Dw).pos, .int .i64 ({ y with late := lt } : Dw).y.t, .int .i64 ({ y with late := lt } : Dw).pos, .slice none 0 0, .int .i64 ({ y with late := lt } : Dw).q.f, .int .i64 ({ y with late := lt } : Dw).q.g, .slice ({ y with late := lt } : Dw).qA ({ y with late := lt } : Dw).q.os.length ({ y with late := lt } : Dw).qc, .slice none 0 0, .slice none 0 0, .slice none 0 0, .slice none 0 0, .slice ({ y with late := lt } : Dw).y.bA ({ y with late := lt } : Dw).y.base.length ({ y with late := lt } : Dw).y.bc, .int .i64 ({ y with late := lt } : Dw).y.t, .slice ({ y with late := lt } : Dw).y.oA ({ y with late := lt } : Dw).y.ops.length ({ y with late := lt } : Dw).y.oc, .slice ({ y with late := lt } : Dw).y.uA ({ y with late := lt } : Dw).y.us.length ({ y with late := lt } : Dw).y.uc, .slice ({ y with late := lt } : Dw).y.wA ({ y with late := lt } : Dw).y.now.length ({ y with late := lt } : Dw).y.wc, .slice ({ y with late := lt } : Dw).cA ({ y with late := lt } : Dw).l.length ({ y with late := lt } : Dw).cc, .int .i64 ({ y with late := lt } : Dw).inc, .int .i64 ({ y with late := lt } : Dw).mode, .int .i64 ({ y with late := lt } : Dw).clock, .int .i64 ({ y with late := lt } : Dw).sent, .slice ({ y with late := lt } : Dw).pA 0 ({ y with late := lt } : Dw).pc, .int .i64 ({ y with late := lt } : Dw).late] rfl ?_) | (refine El.store dvRow rfl _ _ rfl n3 ({ y with late := lt } : Dw) #[.int .i64 ({ y with late := lt } : Dw).node, .int .i64 ({ y with late := lt } : Dw).boot, .int .i64 ({ y with late := lt } : Dw).above, .int .i64 ({ y with late := lt } : Dw).pos, .int .i64 ({ y with late := lt } : Dw).y.t, .int .i64 ({ y with late := lt } : Dw).pos, .slice none 0 0, .int .i64 ({ y with late := lt } : Dw).q.f, .int .i64 ({ y with late := lt } : Dw).q.g, .slice ({ y with late := lt } : Dw).qA ({ y with late := lt } : Dw).q.os.length ({ y with late := lt } : Dw).qc, .slice none 0 0, .slice none 0 0, .slice none 0 0, .slice none 0 0, .slice ({ y with late := lt } : Dw).y.bA ({ y with late := lt } : Dw).y.base.length ({ y with late := lt } : Dw).y.bc, .int .i64 ({ y with late := lt } : Dw).y.t, .slice ({ y with late := lt } : Dw).y.oA ({ y with late := lt } : Dw).y.ops.length ({ y with late := lt } : Dw).y.oc, .slice ({ y with late := lt } : Dw).y.uA ({ y with late := lt } : Dw).y.us.length ({ y with late := lt } : Dw).y.uc, .slice ({ y with late := lt } : Dw).y.wA ({ y with late := lt } : Dw).y.now.length ({ y with late := lt } : Dw).y.wc, .slice ({ y with late := lt } : Dw).cA ({ y with late := lt } : Dw).l.length ({ y with late := lt } : Dw).cc, .int .i64 ({ y with late := lt } : Dw).inc, .int .i64 ({ y with late := lt } : Dw).mode, .int .i64 ({ y with late := lt } : Dw).clock, .int .i64 ({ y with late := lt } : Dw).sent, .slice ({ y with late := lt } : Dw).pA 0 ({ y with late := lt } : Dw).pc, .int .i64 ({ y with late := lt } : Dw).late] rfl rfl rfl Dw.zero hR ?_) | fail)
        refine El.ret1 dvRow (hR.set ({ y with late := lt } : Dw) _ rfl) rfl rfl rfl _ rfl ?_
        refine ⟨({ y with late := lt } : Dw), rfl, Dw.ok.keepB hok hR (by_row _ _ _), ?_, below_setRow hB hw3 _⟩
        exact HV2.out.symm
      | true =>
        have hok1 : ({ y with y := y' } : Dw).ok W7 := ⟨hy', hok.q, hok.c, hok.t⟩
        go_upto_region 9 with (first | (refine El.load pwRow rfl _ rfl n6 0 rfl y' hN.at #[.slice y'.bA y'.base.length y'.bc, .int .i64 y'.t, .slice y'.oA y'.ops.length y'.oc, .slice y'.uA y'.us.length y'.uc, .slice y'.wA y'.now.length y'.wc] rfl ?_) | (refine wpList_store_dz (T := 40) (k := 5) (by kernel_rfl) rfl _ _ rfl n1 14 y.z ⟨{ y with y := y' }, y.pos, y.y.t⟩ [.slice y'.bA y'.base.length y'.bc, .int .i64 y'.t, .slice y'.oA y'.ops.length y'.oc, .slice y'.uA y'.us.length y'.uc, .slice y'.wA y'.now.length y'.wc] rfl (by intro v hv; simp only [List.mem_cons, List.not_mem_nil, or_false] at hv; rcases hv with rfl | rfl | rfl | rfl | rfl <;> rfl) rfl rfl hE rfl (by show 14 + 5 ≤ 26; omega) ?_) | fail)
        replace hok := hok1.keepZ hE (by_row W7 n1 (dzE.c ⟨{ y with y := y' }, y.pos, y.y.t⟩).toArray)
        replace hR := hR.rowN n1 (dzE.c ⟨{ y with y := y' }, y.pos, y.y.t⟩).toArray e31
        replace hB := below_setRow hB hw1 (dzE.c ⟨{ y with y := y' }, y.pos, y.y.t⟩).toArray
        replace hE := hE.set ⟨{ y with y := y' }, y.pos, y.y.t⟩ (dzE.c ⟨{ y with y := y' }, y.pos, y.y.t⟩).toArray rfl
        clear hok1 hN hy'
        generalize W7.setRow n1 (dzE.c ⟨{ y with y := y' }, y.pos, y.y.t⟩).toArray = W8 at *
        have hyt : y.y.t = y'.t := by
          have h := congrArg Pv.t HYV.out
          rw [addV_tt] at h
          exact h.symm
        rw [hyt] at hE
        clear hyt
        have HV2 := Lib.hid (show learnD x.v m = ({ y with y := y' } : Dw).v by
          rw [HV.out, if_neg HOW.out, ← HYV.out, HBD.out]; rfl)
        obtain ⟨Z, hZ⟩ : ∃ Z, ({ y with y := y' } : Dw) = Z := ⟨_, rfl⟩
        have hE2 : dzE.In W8 n1 Z.z := by rw [← hZ]; exact hE
        rw [hZ] at hok HV2
        clear hZ hE
        have hE := hE2
        go_wp2_with (first | (refine El.load dzRow rfl _ rfl n1 0 rfl Z.z hE.at #[.int .i64 Z.node, .int .i64 Z.boot, .int .i64 Z.above, .int .i64 Z.pos, .int .i64 Z.y.t, .int .i64 Z.pos, .slice none 0 0, .int .i64 Z.q.f, .int .i64 Z.q.g, .slice Z.qA Z.q.os.length Z.qc, .slice none 0 0, .slice none 0 0, .slice none 0 0, .slice none 0 0, .slice Z.y.bA Z.y.base.length Z.y.bc, .int .i64 Z.y.t, .slice Z.y.oA Z.y.ops.length Z.y.oc, .slice Z.y.uA Z.y.us.length Z.y.uc, .slice Z.y.wA Z.y.now.length Z.y.wc, .slice Z.cA Z.l.length Z.cc, .int .i64 Z.inc, .int .i64 Z.mode, .int .i64 Z.clock, .int .i64 Z.sent, .slice Z.pA 0 Z.pc, .int .i64 Z.late] rfl ?_) | (refine El.store dvRow rfl _ _ rfl n3 Z #[.int .i64 Z.node, .int .i64 Z.boot, .int .i64 Z.above, .int .i64 Z.pos, .int .i64 Z.y.t, .int .i64 Z.pos, .slice none 0 0, .int .i64 Z.q.f, .int .i64 Z.q.g, .slice Z.qA Z.q.os.length Z.qc, .slice none 0 0, .slice none 0 0, .slice none 0 0, .slice none 0 0, .slice Z.y.bA Z.y.base.length Z.y.bc, .int .i64 Z.y.t, .slice Z.y.oA Z.y.ops.length Z.y.oc, .slice Z.y.uA Z.y.us.length Z.y.uc, .slice Z.y.wA Z.y.now.length Z.y.wc, .slice Z.cA Z.l.length Z.cc, .int .i64 Z.inc, .int .i64 Z.mode, .int .i64 Z.clock, .int .i64 Z.sent, .slice Z.pA 0 Z.pc, .int .i64 Z.late] rfl rfl rfl Dw.zero hR ?_) | fail)
        refine El.ret1 dvRow (hR.set Z _ rfl) rfl rfl rfl _ rfl ?_
        refine ⟨Z, rfl, Dw.ok.keepB hok hR (by_row _ _ _), ?_, below_setRow hB hw3 _⟩
        exact HV2.out.symm
end Go.Proofs.YtdcjffajmckleaaGreatDoor

/- The program's entered. -/
namespace Go.Proofs.YtdcjffajmckleaaGreatDoor
open Go.RowKit Nam Cod Tre Pst Pln

theorem followD_learn (x : Dv) (e : En) : followD x e = if e.k = 2 ∧ e.d = x.node ∧ e.i = x.inc then leaveD { x with pos := x.pos + 1, l := tally x.l e } else if e.k ≠ 1 then { x with pos := x.pos + 1, l := tally x.l e } else learnD { x with pos := x.pos + 1, l := tally x.l e } e.o := by
  unfold followD learnD
  rfl
theorem en_op {w : World} {b : Nat} {e : En} (h : enE.In w b e) : opE.At w b 3 e.o := fun j u hu => by
  match j, hu with
  | 0, hu => rw [h.cell]; exact hu
  | 1, hu => rw [h.cell]; exact hu
  | 2, hu => rw [h.cell]; exact hu
  | 3, hu => rw [h.cell]; exact hu
  | 4, hu => rw [h.cell]; exact hu
  | 5, hu => rw [h.cell]; exact hu
  | 6, hu => rw [h.cell]; exact hu
theorem et_boxes (x : Dw) (m : En) (w : World) (hx : x.ok w) :
    dzE.In (((w.alloc (.cells #[.int .i64 x.node, .int .i64 x.boot, .int .i64 x.above, .int .i64 x.pos, .int .i64 x.y.t, .int .i64 x.pos, .slice none 0 0, .int .i64 x.q.f, .int .i64 x.q.g, .slice x.qA x.q.os.length x.qc, .slice none 0 0, .slice none 0 0, .slice none 0 0, .slice none 0 0, .slice x.y.bA x.y.base.length x.y.bc, .int .i64 x.y.t, .slice x.y.oA x.y.ops.length x.y.oc, .slice x.y.uA x.y.us.length x.y.uc, .slice x.y.wA x.y.now.length x.y.wc, .slice x.cA x.l.length x.cc, .int .i64 x.inc, .int .i64 x.mode, .int .i64 x.clock, .int .i64 x.sent, .slice x.pA 0 x.pc, .int .i64 x.late] 44)).alloc (.cells #[.int .i64 m.k, .int .i64 m.d, .int .i64 m.i, .int .i64 m.o.C, .int .i64 m.o.D, .int .i64 m.o.I, .int .i64 m.o.M, .int .i64 m.o.K, .int .i64 m.o.U, .string m.o.s] 60)).alloc (.cells #[.int .i64 0, .int .i64 0, .int .i64 0, .int .i64 0, .int .i64 0, .int .i64 0, .slice none 0 0, .int .i64 0, .int .i64 0, .slice none 0 0, .slice none 0 0, .slice none 0 0, .slice none 0 0, .slice none 0 0, .slice none 0 0, .int .i64 0, .slice none 0 0, .slice none 0 0, .slice none 0 0, .slice none 0 0, .int .i64 0, .int .i64 0, .int .i64 0, .int .i64 0, .slice none 0 0, .int .i64 0] 44)) w.heap.size x.z ∧ enE.In (((w.alloc (.cells #[.int .i64 x.node, .int .i64 x.boot, .int .i64 x.above, .int .i64 x.pos, .int .i64 x.y.t, .int .i64 x.pos, .slice none 0 0, .int .i64 x.q.f, .int .i64 x.q.g, .slice x.qA x.q.os.length x.qc, .slice none 0 0, .slice none 0 0, .slice none 0 0, .slice none 0 0, .slice x.y.bA x.y.base.length x.y.bc, .int .i64 x.y.t, .slice x.y.oA x.y.ops.length x.y.oc, .slice x.y.uA x.y.us.length x.y.uc, .slice x.y.wA x.y.now.length x.y.wc, .slice x.cA x.l.length x.cc, .int .i64 x.inc, .int .i64 x.mode, .int .i64 x.clock, .int .i64 x.sent, .slice x.pA 0 x.pc, .int .i64 x.late] 44)).alloc (.cells #[.int .i64 m.k, .int .i64 m.d, .int .i64 m.i, .int .i64 m.o.C, .int .i64 m.o.D, .int .i64 m.o.I, .int .i64 m.o.M, .int .i64 m.o.K, .int .i64 m.o.U, .string m.o.s] 60)).alloc (.cells #[.int .i64 0, .int .i64 0, .int .i64 0, .int .i64 0, .int .i64 0, .int .i64 0, .slice none 0 0, .int .i64 0, .int .i64 0, .slice none 0 0, .slice none 0 0, .slice none 0 0, .slice none 0 0, .slice none 0 0, .slice none 0 0, .int .i64 0, .slice none 0 0, .slice none 0 0, .slice none 0 0, .slice none 0 0, .int .i64 0, .int .i64 0, .int .i64 0, .int .i64 0, .slice none 0 0, .int .i64 0] 44)) (w.heap.size + 1) m ∧ dvE.In (((w.alloc (.cells #[.int .i64 x.node, .int .i64 x.boot, .int .i64 x.above, .int .i64 x.pos, .int .i64 x.y.t, .int .i64 x.pos, .slice none 0 0, .int .i64 x.q.f, .int .i64 x.q.g, .slice x.qA x.q.os.length x.qc, .slice none 0 0, .slice none 0 0, .slice none 0 0, .slice none 0 0, .slice x.y.bA x.y.base.length x.y.bc, .int .i64 x.y.t, .slice x.y.oA x.y.ops.length x.y.oc, .slice x.y.uA x.y.us.length x.y.uc, .slice x.y.wA x.y.now.length x.y.wc, .slice x.cA x.l.length x.cc, .int .i64 x.inc, .int .i64 x.mode, .int .i64 x.clock, .int .i64 x.sent, .slice x.pA 0 x.pc, .int .i64 x.late] 44)).alloc (.cells #[.int .i64 m.k, .int .i64 m.d, .int .i64 m.i, .int .i64 m.o.C, .int .i64 m.o.D, .int .i64 m.o.I, .int .i64 m.o.M, .int .i64 m.o.K, .int .i64 m.o.U, .string m.o.s] 60)).alloc (.cells #[.int .i64 0, .int .i64 0, .int .i64 0, .int .i64 0, .int .i64 0, .int .i64 0, .slice none 0 0, .int .i64 0, .int .i64 0, .slice none 0 0, .slice none 0 0, .slice none 0 0, .slice none 0 0, .slice none 0 0, .slice none 0 0, .int .i64 0, .slice none 0 0, .slice none 0 0, .slice none 0 0, .slice none 0 0, .int .i64 0, .int .i64 0, .int .i64 0, .int .i64 0, .slice none 0 0, .int .i64 0] 44)) (w.heap.size + 2) Dw.zero ∧ Below w.heap.size w (((w.alloc (.cells #[.int .i64 x.node, .int .i64 x.boot, .int .i64 x.above, .int .i64 x.pos, .int .i64 x.y.t, .int .i64 x.pos, .slice none 0 0, .int .i64 x.q.f, .int .i64 x.q.g, .slice x.qA x.q.os.length x.qc, .slice none 0 0, .slice none 0 0, .slice none 0 0, .slice none 0 0, .slice x.y.bA x.y.base.length x.y.bc, .int .i64 x.y.t, .slice x.y.oA x.y.ops.length x.y.oc, .slice x.y.uA x.y.us.length x.y.uc, .slice x.y.wA x.y.now.length x.y.wc, .slice x.cA x.l.length x.cc, .int .i64 x.inc, .int .i64 x.mode, .int .i64 x.clock, .int .i64 x.sent, .slice x.pA 0 x.pc, .int .i64 x.late] 44)).alloc (.cells #[.int .i64 m.k, .int .i64 m.d, .int .i64 m.i, .int .i64 m.o.C, .int .i64 m.o.D, .int .i64 m.o.I, .int .i64 m.o.M, .int .i64 m.o.K, .int .i64 m.o.U, .string m.o.s] 60)).alloc (.cells #[.int .i64 0, .int .i64 0, .int .i64 0, .int .i64 0, .int .i64 0, .int .i64 0, .slice none 0 0, .int .i64 0, .int .i64 0, .slice none 0 0, .slice none 0 0, .slice none 0 0, .slice none 0 0, .slice none 0 0, .slice none 0 0, .int .i64 0, .slice none 0 0, .slice none 0 0, .slice none 0 0, .slice none 0 0, .int .i64 0, .int .i64 0, .int .i64 0, .int .i64 0, .slice none 0 0, .int .i64 0] 44)) ∧ x.ok (((w.alloc (.cells #[.int .i64 x.node, .int .i64 x.boot, .int .i64 x.above, .int .i64 x.pos, .int .i64 x.y.t, .int .i64 x.pos, .slice none 0 0, .int .i64 x.q.f, .int .i64 x.q.g, .slice x.qA x.q.os.length x.qc, .slice none 0 0, .slice none 0 0, .slice none 0 0, .slice none 0 0, .slice x.y.bA x.y.base.length x.y.bc, .int .i64 x.y.t, .slice x.y.oA x.y.ops.length x.y.oc, .slice x.y.uA x.y.us.length x.y.uc, .slice x.y.wA x.y.now.length x.y.wc, .slice x.cA x.l.length x.cc, .int .i64 x.inc, .int .i64 x.mode, .int .i64 x.clock, .int .i64 x.sent, .slice x.pA 0 x.pc, .int .i64 x.late] 44)).alloc (.cells #[.int .i64 m.k, .int .i64 m.d, .int .i64 m.i, .int .i64 m.o.C, .int .i64 m.o.D, .int .i64 m.o.I, .int .i64 m.o.M, .int .i64 m.o.K, .int .i64 m.o.U, .string m.o.s] 60)).alloc (.cells #[.int .i64 0, .int .i64 0, .int .i64 0, .int .i64 0, .int .i64 0, .int .i64 0, .slice none 0 0, .int .i64 0, .int .i64 0, .slice none 0 0, .slice none 0 0, .slice none 0 0, .slice none 0 0, .slice none 0 0, .slice none 0 0, .int .i64 0, .slice none 0 0, .slice none 0 0, .slice none 0 0, .slice none 0 0, .int .i64 0, .int .i64 0, .int .i64 0, .int .i64 0, .slice none 0 0, .int .i64 0] 44)) := by
  have b0 := below_alloc (Below.refl w.heap.size w) (.cells #[.int .i64 x.node, .int .i64 x.boot, .int .i64 x.above, .int .i64 x.pos, .int .i64 x.y.t, .int .i64 x.pos, .slice none 0 0, .int .i64 x.q.f, .int .i64 x.q.g, .slice x.qA x.q.os.length x.qc, .slice none 0 0, .slice none 0 0, .slice none 0 0, .slice none 0 0, .slice x.y.bA x.y.base.length x.y.bc, .int .i64 x.y.t, .slice x.y.oA x.y.ops.length x.y.oc, .slice x.y.uA x.y.us.length x.y.uc, .slice x.y.wA x.y.now.length x.y.wc, .slice x.cA x.l.length x.cc, .int .i64 x.inc, .int .i64 x.mode, .int .i64 x.clock, .int .i64 x.sent, .slice x.pA 0 x.pc, .int .i64 x.late] 44)
  have b1 := below_alloc (Below.refl (w.alloc (.cells #[.int .i64 x.node, .int .i64 x.boot, .int .i64 x.above, .int .i64 x.pos, .int .i64 x.y.t, .int .i64 x.pos, .slice none 0 0, .int .i64 x.q.f, .int .i64 x.q.g, .slice x.qA x.q.os.length x.qc, .slice none 0 0, .slice none 0 0, .slice none 0 0, .slice none 0 0, .slice x.y.bA x.y.base.length x.y.bc, .int .i64 x.y.t, .slice x.y.oA x.y.ops.length x.y.oc, .slice x.y.uA x.y.us.length x.y.uc, .slice x.y.wA x.y.now.length x.y.wc, .slice x.cA x.l.length x.cc, .int .i64 x.inc, .int .i64 x.mode, .int .i64 x.clock, .int .i64 x.sent, .slice x.pA 0 x.pc, .int .i64 x.late] 44)).heap.size (w.alloc (.cells #[.int .i64 x.node, .int .i64 x.boot, .int .i64 x.above, .int .i64 x.pos, .int .i64 x.y.t, .int .i64 x.pos, .slice none 0 0, .int .i64 x.q.f, .int .i64 x.q.g, .slice x.qA x.q.os.length x.qc, .slice none 0 0, .slice none 0 0, .slice none 0 0, .slice none 0 0, .slice x.y.bA x.y.base.length x.y.bc, .int .i64 x.y.t, .slice x.y.oA x.y.ops.length x.y.oc, .slice x.y.uA x.y.us.length x.y.uc, .slice x.y.wA x.y.now.length x.y.wc, .slice x.cA x.l.length x.cc, .int .i64 x.inc, .int .i64 x.mode, .int .i64 x.clock, .int .i64 x.sent, .slice x.pA 0 x.pc, .int .i64 x.late] 44))) (.cells #[.int .i64 m.k, .int .i64 m.d, .int .i64 m.i, .int .i64 m.o.C, .int .i64 m.o.D, .int .i64 m.o.I, .int .i64 m.o.M, .int .i64 m.o.K, .int .i64 m.o.U, .string m.o.s] 60)
  have b2 := below_alloc (Below.refl ((w.alloc (.cells #[.int .i64 x.node, .int .i64 x.boot, .int .i64 x.above, .int .i64 x.pos, .int .i64 x.y.t, .int .i64 x.pos, .slice none 0 0, .int .i64 x.q.f, .int .i64 x.q.g, .slice x.qA x.q.os.length x.qc, .slice none 0 0, .slice none 0 0, .slice none 0 0, .slice none 0 0, .slice x.y.bA x.y.base.length x.y.bc, .int .i64 x.y.t, .slice x.y.oA x.y.ops.length x.y.oc, .slice x.y.uA x.y.us.length x.y.uc, .slice x.y.wA x.y.now.length x.y.wc, .slice x.cA x.l.length x.cc, .int .i64 x.inc, .int .i64 x.mode, .int .i64 x.clock, .int .i64 x.sent, .slice x.pA 0 x.pc, .int .i64 x.late] 44)).alloc (.cells #[.int .i64 m.k, .int .i64 m.d, .int .i64 m.i, .int .i64 m.o.C, .int .i64 m.o.D, .int .i64 m.o.I, .int .i64 m.o.M, .int .i64 m.o.K, .int .i64 m.o.U, .string m.o.s] 60)).heap.size ((w.alloc (.cells #[.int .i64 x.node, .int .i64 x.boot, .int .i64 x.above, .int .i64 x.pos, .int .i64 x.y.t, .int .i64 x.pos, .slice none 0 0, .int .i64 x.q.f, .int .i64 x.q.g, .slice x.qA x.q.os.length x.qc, .slice none 0 0, .slice none 0 0, .slice none 0 0, .slice none 0 0, .slice x.y.bA x.y.base.length x.y.bc, .int .i64 x.y.t, .slice x.y.oA x.y.ops.length x.y.oc, .slice x.y.uA x.y.us.length x.y.uc, .slice x.y.wA x.y.now.length x.y.wc, .slice x.cA x.l.length x.cc, .int .i64 x.inc, .int .i64 x.mode, .int .i64 x.clock, .int .i64 x.sent, .slice x.pA 0 x.pc, .int .i64 x.late] 44)).alloc (.cells #[.int .i64 m.k, .int .i64 m.d, .int .i64 m.i, .int .i64 m.o.C, .int .i64 m.o.D, .int .i64 m.o.I, .int .i64 m.o.M, .int .i64 m.o.K, .int .i64 m.o.U, .string m.o.s] 60))) (.cells #[.int .i64 0, .int .i64 0, .int .i64 0, .int .i64 0, .int .i64 0, .int .i64 0, .slice none 0 0, .int .i64 0, .int .i64 0, .slice none 0 0, .slice none 0 0, .slice none 0 0, .slice none 0 0, .slice none 0 0, .slice none 0 0, .int .i64 0, .slice none 0 0, .slice none 0 0, .slice none 0 0, .slice none 0 0, .int .i64 0, .int .i64 0, .int .i64 0, .int .i64 0, .slice none 0 0, .int .i64 0] 44)
  have i0 : dzE.In (w.alloc (.cells #[.int .i64 x.node, .int .i64 x.boot, .int .i64 x.above, .int .i64 x.pos, .int .i64 x.y.t, .int .i64 x.pos, .slice none 0 0, .int .i64 x.q.f, .int .i64 x.q.g, .slice x.qA x.q.os.length x.qc, .slice none 0 0, .slice none 0 0, .slice none 0 0, .slice none 0 0, .slice x.y.bA x.y.base.length x.y.bc, .int .i64 x.y.t, .slice x.y.oA x.y.ops.length x.y.oc, .slice x.y.uA x.y.us.length x.y.uc, .slice x.y.wA x.y.now.length x.y.wc, .slice x.cA x.l.length x.cc, .int .i64 x.inc, .int .i64 x.mode, .int .i64 x.clock, .int .i64 x.sent, .slice x.pA 0 x.pc, .int .i64 x.late] 44)) w.heap.size x.z := El.In.new (E := dzE) w x.z _ rfl
  have i1 : enE.In ((w.alloc (.cells #[.int .i64 x.node, .int .i64 x.boot, .int .i64 x.above, .int .i64 x.pos, .int .i64 x.y.t, .int .i64 x.pos, .slice none 0 0, .int .i64 x.q.f, .int .i64 x.q.g, .slice x.qA x.q.os.length x.qc, .slice none 0 0, .slice none 0 0, .slice none 0 0, .slice none 0 0, .slice x.y.bA x.y.base.length x.y.bc, .int .i64 x.y.t, .slice x.y.oA x.y.ops.length x.y.oc, .slice x.y.uA x.y.us.length x.y.uc, .slice x.y.wA x.y.now.length x.y.wc, .slice x.cA x.l.length x.cc, .int .i64 x.inc, .int .i64 x.mode, .int .i64 x.clock, .int .i64 x.sent, .slice x.pA 0 x.pc, .int .i64 x.late] 44)).alloc (.cells #[.int .i64 m.k, .int .i64 m.d, .int .i64 m.i, .int .i64 m.o.C, .int .i64 m.o.D, .int .i64 m.o.I, .int .i64 m.o.M, .int .i64 m.o.K, .int .i64 m.o.U, .string m.o.s] 60)) (w.alloc (.cells #[.int .i64 x.node, .int .i64 x.boot, .int .i64 x.above, .int .i64 x.pos, .int .i64 x.y.t, .int .i64 x.pos, .slice none 0 0, .int .i64 x.q.f, .int .i64 x.q.g, .slice x.qA x.q.os.length x.qc, .slice none 0 0, .slice none 0 0, .slice none 0 0, .slice none 0 0, .slice x.y.bA x.y.base.length x.y.bc, .int .i64 x.y.t, .slice x.y.oA x.y.ops.length x.y.oc, .slice x.y.uA x.y.us.length x.y.uc, .slice x.y.wA x.y.now.length x.y.wc, .slice x.cA x.l.length x.cc, .int .i64 x.inc, .int .i64 x.mode, .int .i64 x.clock, .int .i64 x.sent, .slice x.pA 0 x.pc, .int .i64 x.late] 44)).heap.size m := El.In.new (E := enE) _ m _ rfl
  have i2 : dvE.In (((w.alloc (.cells #[.int .i64 x.node, .int .i64 x.boot, .int .i64 x.above, .int .i64 x.pos, .int .i64 x.y.t, .int .i64 x.pos, .slice none 0 0, .int .i64 x.q.f, .int .i64 x.q.g, .slice x.qA x.q.os.length x.qc, .slice none 0 0, .slice none 0 0, .slice none 0 0, .slice none 0 0, .slice x.y.bA x.y.base.length x.y.bc, .int .i64 x.y.t, .slice x.y.oA x.y.ops.length x.y.oc, .slice x.y.uA x.y.us.length x.y.uc, .slice x.y.wA x.y.now.length x.y.wc, .slice x.cA x.l.length x.cc, .int .i64 x.inc, .int .i64 x.mode, .int .i64 x.clock, .int .i64 x.sent, .slice x.pA 0 x.pc, .int .i64 x.late] 44)).alloc (.cells #[.int .i64 m.k, .int .i64 m.d, .int .i64 m.i, .int .i64 m.o.C, .int .i64 m.o.D, .int .i64 m.o.I, .int .i64 m.o.M, .int .i64 m.o.K, .int .i64 m.o.U, .string m.o.s] 60)).alloc (.cells #[.int .i64 0, .int .i64 0, .int .i64 0, .int .i64 0, .int .i64 0, .int .i64 0, .slice none 0 0, .int .i64 0, .int .i64 0, .slice none 0 0, .slice none 0 0, .slice none 0 0, .slice none 0 0, .slice none 0 0, .slice none 0 0, .int .i64 0, .slice none 0 0, .slice none 0 0, .slice none 0 0, .slice none 0 0, .int .i64 0, .int .i64 0, .int .i64 0, .int .i64 0, .slice none 0 0, .int .i64 0] 44)) ((w.alloc (.cells #[.int .i64 x.node, .int .i64 x.boot, .int .i64 x.above, .int .i64 x.pos, .int .i64 x.y.t, .int .i64 x.pos, .slice none 0 0, .int .i64 x.q.f, .int .i64 x.q.g, .slice x.qA x.q.os.length x.qc, .slice none 0 0, .slice none 0 0, .slice none 0 0, .slice none 0 0, .slice x.y.bA x.y.base.length x.y.bc, .int .i64 x.y.t, .slice x.y.oA x.y.ops.length x.y.oc, .slice x.y.uA x.y.us.length x.y.uc, .slice x.y.wA x.y.now.length x.y.wc, .slice x.cA x.l.length x.cc, .int .i64 x.inc, .int .i64 x.mode, .int .i64 x.clock, .int .i64 x.sent, .slice x.pA 0 x.pc, .int .i64 x.late] 44)).alloc (.cells #[.int .i64 m.k, .int .i64 m.d, .int .i64 m.i, .int .i64 m.o.C, .int .i64 m.o.D, .int .i64 m.o.I, .int .i64 m.o.M, .int .i64 m.o.K, .int .i64 m.o.U, .string m.o.s] 60)).heap.size Dw.zero := El.In.new (E := dvE) _ Dw.zero _ rfl
  rw [alloc_size, alloc_size] at i2
  rw [alloc_size] at i1
  exact ⟨(i0.below b1).below b2, i1.below b2, i2, below_then (below_then b0 b1) b2, ((hx.below b0).below b1).below b2⟩
set_option maxRecDepth 100000 in
set_option maxHeartbeats 8000000 in
theorem entered_any (x : Dw) (m : En) (w : World) (hI : PInv x.y.v) (hl : x.y.ops.length ≤ 200) (hc : x.l.length ≤ 1000) (hp : 0 ≤ x.pos ∧ x.pos ≤ 4611686018427387904) (hi : 1 ≤ x.inc ∧ x.inc ≤ 4611686018427387904) (hla : 0 ≤ x.late ∧ x.late ≤ 4611686018427387904) (hx : x.ok w) :
    Calls Tryz.prog 65 #[.agg #[.int .i64 x.node, .int .i64 x.boot, .int .i64 x.above, .int .i64 x.pos, .int .i64 x.y.t, .int .i64 x.pos, .slice none 0 0, .int .i64 x.q.f, .int .i64 x.q.g, .slice x.qA x.q.os.length x.qc, .slice none 0 0, .slice none 0 0, .slice none 0 0, .slice none 0 0, .slice x.y.bA x.y.base.length x.y.bc, .int .i64 x.y.t, .slice x.y.oA x.y.ops.length x.y.oc, .slice x.y.uA x.y.us.length x.y.uc, .slice x.y.wA x.y.now.length x.y.wc, .slice x.cA x.l.length x.cc, .int .i64 x.inc, .int .i64 x.mode, .int .i64 x.clock, .int .i64 x.sent, .slice x.pA 0 x.pc, .int .i64 x.late], .agg #[.int .i64 m.k, .int .i64 m.d, .int .i64 m.i, .int .i64 m.o.C, .int .i64 m.o.D, .int .i64 m.o.I, .int .i64 m.o.M, .int .i64 m.o.K, .int .i64 m.o.U, .string m.o.s]] w fun e w' => ∃ z : Dw, e = .returned (.agg #[.int .i64 z.node, .int .i64 z.boot, .int .i64 z.above, .int .i64 z.pos, .int .i64 z.y.t, .int .i64 z.pos, .slice none 0 0, .int .i64 z.q.f, .int .i64 z.q.g, .slice z.qA z.q.os.length z.qc, .slice none 0 0, .slice none 0 0, .slice none 0 0, .slice none 0 0, .slice z.y.bA z.y.base.length z.y.bc, .int .i64 z.y.t, .slice z.y.oA z.y.ops.length z.y.oc, .slice z.y.uA z.y.us.length z.y.uc, .slice z.y.wA z.y.now.length z.y.wc, .slice z.cA z.l.length z.cc, .int .i64 z.inc, .int .i64 z.mode, .int .i64 z.clock, .int .i64 z.sent, .slice z.pA 0 z.pc, .int .i64 z.late]) ∧ z.ok w' ∧ z.v = followD x.v m ∧ Below w.heap.size w w' := by
  obtain ⟨hE, hM, hR, hB, hok⟩ := et_boxes x m w hx
  obtain ⟨pp, hpp⟩ : ∃ pp, x.pos + 1 = pp := ⟨_, rfl⟩
  have hwp : IntKind.i64.wrap (x.pos + 1) = pp := by rw [IntKind.wrap_i64]; omega
  have HPP := Lib.hid hpp
  have HC := Lib.hid hc
  clear hpp hp hc hx
  go_enter Tryz.func65, Tryz.ntmps65
  go_upto_region 1 with (first | (refine wpList_alloc_dv rfl rfl ?_) | fail)
  simp only [alloc_size, Nat.add_assoc, Nat.reduceAdd]
  generalize ((w.alloc (.cells #[.int .i64 x.node, .int .i64 x.boot, .int .i64 x.above, .int .i64 x.pos, .int .i64 x.y.t, .int .i64 x.pos, .slice none 0 0, .int .i64 x.q.f, .int .i64 x.q.g, .slice x.qA x.q.os.length x.qc, .slice none 0 0, .slice none 0 0, .slice none 0 0, .slice none 0 0, .slice x.y.bA x.y.base.length x.y.bc, .int .i64 x.y.t, .slice x.y.oA x.y.ops.length x.y.oc, .slice x.y.uA x.y.us.length x.y.uc, .slice x.y.wA x.y.now.length x.y.wc, .slice x.cA x.l.length x.cc, .int .i64 x.inc, .int .i64 x.mode, .int .i64 x.clock, .int .i64 x.sent, .slice x.pA 0 x.pc, .int .i64 x.late] 44)).alloc (.cells #[.int .i64 m.k, .int .i64 m.d, .int .i64 m.i, .int .i64 m.o.C, .int .i64 m.o.D, .int .i64 m.o.I, .int .i64 m.o.M, .int .i64 m.o.K, .int .i64 m.o.U, .string m.o.s] 60)).alloc (.cells #[.int .i64 0, .int .i64 0, .int .i64 0, .int .i64 0, .int .i64 0, .int .i64 0, .slice none 0 0, .int .i64 0, .int .i64 0, .slice none 0 0, .slice none 0 0, .slice none 0 0, .slice none 0 0, .slice none 0 0, .slice none 0 0, .int .i64 0, .slice none 0 0, .slice none 0 0, .slice none 0 0, .slice none 0 0, .int .i64 0, .int .i64 0, .int .i64 0, .int .i64 0, .slice none 0 0, .int .i64 0] 44) = W at *
  obtain ⟨n1, h1⟩ : ∃ n1, w.heap.size = n1 := ⟨_, rfl⟩
  obtain ⟨n2, h2⟩ : ∃ n2, w.heap.size + 1 = n2 := ⟨_, rfl⟩
  obtain ⟨n3, h3⟩ : ∃ n3, w.heap.size + 2 = n3 := ⟨_, rfl⟩
  have hw1 : w.heap.size ≤ n1 := by omega
  have hw3 : w.heap.size ≤ n3 := by omega
  have e31 : n3 ≠ n1 := by omega
  have e21 : n2 ≠ n1 := by omega
  rw [h3] at hR ⊢
  rw [h2] at hM ⊢
  rw [h1] at hE ⊢
  clear h1 h2 h3
  have c5 : W.cell? ⟨n1, 5, none⟩ = some (.int .i64 x.pos) := hE.cell 5
  have c3 : W.cell? ⟨n1, 3, none⟩ = some (.int .i64 x.pos) := hE.cell 3
  have qf := hE.frozen
  go_upto_region 3 with fail
  clear c5 c3 qf hwp
  have g1 := by_cell2 (by_cell W n1 5 (.int .i64 pp)) 3 (.int .i64 pp)
  replace hok : ({ x with pos := pp } : Dw).ok ((W.setCell ⟨n1, 5, none⟩ (.int .i64 pp)).setCell ⟨n1, 3, none⟩ (.int .i64 pp)) := by
    obtain ⟨a, b, c, d⟩ := hok.keepZ hE g1
    exact ⟨a, b, c, d⟩
  replace hE := (hE.put ⟨{ x with pos := pp }, x.pos, x.y.t⟩ 5 (.int .i64 pp) rfl).put ⟨{ x with pos := pp }, pp, x.y.t⟩ 3 (.int .i64 pp) rfl
  replace hR := (hR.other n1 5 (.int .i64 pp) e31).other n1 3 (.int .i64 pp) e31
  replace hM := (hM.other n1 5 (.int .i64 pp) e21).other n1 3 (.int .i64 pp) e21
  replace hB := Below.setCell (Below.setCell hB (p := ⟨n1, 5, none⟩) hw1 (.int .i64 pp)) (p := ⟨n1, 3, none⟩) hw1 (.int .i64 pp)
  clear g1
  generalize (W.setCell ⟨n1, 5, none⟩ (.int .i64 pp)).setCell ⟨n1, 3, none⟩ (.int .i64 pp) = V at *
  have c19 : V.cell? ⟨n1, 19, none⟩ = some (.slice x.cA x.l.length x.cc) := hE.cell 19
  go_wp2_with (first | (refine El.load enRow rfl _ rfl n2 0 rfl m hM.at #[.int .i64 m.k, .int .i64 m.d, .int .i64 m.i, .int .i64 m.o.C, .int .i64 m.o.D, .int .i64 m.o.I, .int .i64 m.o.M, .int .i64 m.o.K, .int .i64 m.o.U, .string m.o.s] rfl ?_) | fail)
  refine (tallyT_any x.cA x.cc x.l m _ HC.out hok.c).mono ?_
  rintro e w3 ⟨A', c', rfl, hS, hct, hb3⟩
  replace hE := hE.below hb3
  replace hR := hR.below hb3
  replace hM := hM.below hb3
  replace hok := hok.below hb3
  replace hB := below_then hB hb3
  clear hb3 c19
  obtain ⟨TL, hTL⟩ : ∃ TL, tally x.l m = TL := ⟨_, rfl⟩
  rw [hTL] at hS ⊢
  have HTL := Lib.hid hTL
  clear hTL
  have c19 : w3.cell? ⟨n1, 19, none⟩ = some (.slice x.cA x.l.length x.cc) := hE.cell 19
  have qf := hE.frozen
  have hok1 : ({ x with pos := pp, cA := A', cc := c', l := TL } : Dw).ok w3 := ⟨hok.p, hok.q, hS, hct⟩
  go_upto_region 4 with fail
  clear c19 qf hS hct
  have g1 := by_cell w3 n1 19 (.slice A' TL.length c')
  replace hok : ({ x with pos := pp, cA := A', cc := c', l := TL } : Dw).ok (w3.setCell ⟨n1, 19, none⟩ (.slice A' TL.length c')) := hok1.keepZ hE g1
  replace hE := hE.put ⟨{ x with pos := pp, cA := A', cc := c', l := TL }, pp, x.y.t⟩ 19 (.slice A' TL.length c') rfl
  replace hR := hR.other n1 19 (.slice A' TL.length c') e31
  replace hM := hM.other n1 19 (.slice A' TL.length c') e21
  replace hB := Below.setCell hB (p := ⟨n1, 19, none⟩) hw1 (.slice A' TL.length c')
  clear g1 hok1
  generalize w3.setCell ⟨n1, 19, none⟩ (.slice A' TL.length c') = V at *
  obtain ⟨y, hy⟩ : ∃ y, ({ x with pos := pp, cA := A', cc := c', l := TL } : Dw) = y := ⟨_, rfl⟩
  have hE' : dzE.In V n1 y.z := by rw [← hy]; exact hE
  have HV : Hid (followD x.v m = if m.k = 2 ∧ m.d = y.node ∧ m.i = y.inc then leaveD y.v else if m.k ≠ 1 then y.v else learnD y.v m.o) := Lib.hid (by
    rw [followD_learn, ← hy, ← HTL.out, ← HPP.out]; rfl)
  have CL := Lib.hid (fun (wx : World) (h : y.ok wx) => leave18_any y wx h (by rw [← hy]; show -4611686018427387904 ≤ x.inc ∧ x.inc ≤ 4611686018427387904; omega))
  have CN := Lib.hid (fun (wx : World) (h : y.ok wx) => learned_any y m.o wx (by rw [← hy]; exact hI) (by rw [← hy]; exact hl) (by rw [← hy]; show -4611686018427387904 ≤ x.late ∧ x.late ≤ 4611686018427387904; omega) h)
  rw [hy] at hok
  clear hE hy HTL HPP HC hI hl hi hla
  have hE := hE'
  clear hE'
  obtain ⟨q0, q1, q2, q3, q4, q5, q6, q7, q8, q9⟩ := enIn10 hM
  have c0 : V.cell? ⟨n1, 0, none⟩ = some (.int .i64 y.node) := hE.cell 0
  have c20 : V.cell? ⟨n1, 20, none⟩ = some (.int .i64 y.inc) := hE.cell 20
  clear q3 q4 q5 q6 q7 q8 q9
  by_cases hk2 : m.k = 2
  · have f1 : (m.k == 2) = true := beq_iff_eq.2 hk2
    have f2 : (m.k == 1) = false := beq_eq_false_iff_ne.2 (by omega)
    by_cases hd : m.d = y.node
    · have f3 : (m.d == y.node) = true := beq_iff_eq.2 hd
      by_cases hi2 : m.i = y.inc
      · have f4 : (m.i == y.inc) = true := beq_iff_eq.2 hi2
        have HV2 := Lib.hid (show followD x.v m = leaveD y.v by rw [HV.out, if_pos ⟨hk2, hd, hi2⟩])
        clear hk2 hd hi2 CN
        go_wp2_with (first | (refine El.load dzRow rfl _ rfl n1 0 rfl y.z hE.at #[.int .i64 y.node, .int .i64 y.boot, .int .i64 y.above, .int .i64 y.pos, .int .i64 y.y.t, .int .i64 y.pos, .slice none 0 0, .int .i64 y.q.f, .int .i64 y.q.g, .slice y.qA y.q.os.length y.qc, .slice none 0 0, .slice none 0 0, .slice none 0 0, .slice none 0 0, .slice y.y.bA y.y.base.length y.y.bc, .int .i64 y.y.t, .slice y.y.oA y.y.ops.length y.y.oc, .slice y.y.uA y.y.us.length y.y.uc, .slice y.y.wA y.y.now.length y.y.wc, .slice y.cA y.l.length y.cc, .int .i64 y.inc, .int .i64 y.mode, .int .i64 y.clock, .int .i64 y.sent, .slice y.pA 0 y.pc, .int .i64 y.late] rfl ?_) | fail)
        refine (CL.out _ hok).mono ?_
        rintro e5 w5 ⟨rfl, hz, hb5⟩
        replace hR := hR.below hb5
        replace hB := below_then hB hb5
        clear hb5
        obtain ⟨z, hzz⟩ : ∃ z, leaveW y = z := ⟨_, rfl⟩
        have HZ := Lib.hid (show z.v = leaveD y.v by rw [← hzz]; rfl)
        rw [hzz] at hz ⊢
        clear hzz
        go_wp2_with (first | (refine El.store dvRow rfl _ _ rfl n3 z #[.int .i64 z.node, .int .i64 z.boot, .int .i64 z.above, .int .i64 z.pos, .int .i64 z.y.t, .int .i64 z.pos, .slice none 0 0, .int .i64 z.q.f, .int .i64 z.q.g, .slice z.qA z.q.os.length z.qc, .slice none 0 0, .slice none 0 0, .slice none 0 0, .slice none 0 0, .slice z.y.bA z.y.base.length z.y.bc, .int .i64 z.y.t, .slice z.y.oA z.y.ops.length z.y.oc, .slice z.y.uA z.y.us.length z.y.uc, .slice z.y.wA z.y.now.length z.y.wc, .slice z.cA z.l.length z.cc, .int .i64 z.inc, .int .i64 z.mode, .int .i64 z.clock, .int .i64 z.sent, .slice z.pA 0 z.pc, .int .i64 z.late] rfl rfl rfl Dw.zero hR ?_) | fail)
        refine El.ret1 dvRow (hR.set z _ rfl) rfl rfl rfl _ rfl ?_
        exact ⟨z, rfl, hz.keepB hR (by_row _ _ _), HZ.out.trans HV2.out.symm, below_setRow hB hw3 _⟩
      · have f4 : (m.i == y.inc) = false := beq_eq_false_iff_ne.2 hi2
        have HV2 := Lib.hid (show followD x.v m = y.v by rw [HV.out, if_neg (fun e => hi2 e.2.2), if_pos (by omega)])
        clear hk2 hd hi2 CN CL
        go_wp2_with (first | (refine El.load dzRow rfl _ rfl n1 0 rfl y.z hE.at #[.int .i64 y.node, .int .i64 y.boot, .int .i64 y.above, .int .i64 y.pos, .int .i64 y.y.t, .int .i64 y.pos, .slice none 0 0, .int .i64 y.q.f, .int .i64 y.q.g, .slice y.qA y.q.os.length y.qc, .slice none 0 0, .slice none 0 0, .slice none 0 0, .slice none 0 0, .slice y.y.bA y.y.base.length y.y.bc, .int .i64 y.y.t, .slice y.y.oA y.y.ops.length y.y.oc, .slice y.y.uA y.y.us.length y.y.uc, .slice y.y.wA y.y.now.length y.y.wc, .slice y.cA y.l.length y.cc, .int .i64 y.inc, .int .i64 y.mode, .int .i64 y.clock, .int .i64 y.sent, .slice y.pA 0 y.pc, .int .i64 y.late] rfl ?_) | (refine El.store dvRow rfl _ _ rfl n3 y #[.int .i64 y.node, .int .i64 y.boot, .int .i64 y.above, .int .i64 y.pos, .int .i64 y.y.t, .int .i64 y.pos, .slice none 0 0, .int .i64 y.q.f, .int .i64 y.q.g, .slice y.qA y.q.os.length y.qc, .slice none 0 0, .slice none 0 0, .slice none 0 0, .slice none 0 0, .slice y.y.bA y.y.base.length y.y.bc, .int .i64 y.y.t, .slice y.y.oA y.y.ops.length y.y.oc, .slice y.y.uA y.y.us.length y.y.uc, .slice y.y.wA y.y.now.length y.y.wc, .slice y.cA y.l.length y.cc, .int .i64 y.inc, .int .i64 y.mode, .int .i64 y.clock, .int .i64 y.sent, .slice y.pA 0 y.pc, .int .i64 y.late] rfl rfl rfl Dw.zero hR ?_) | fail)
        refine El.ret1 dvRow (hR.set y _ rfl) rfl rfl rfl _ rfl ?_
        exact ⟨y, rfl, hok.keepB hR (by_row _ _ _), HV2.out.symm, below_setRow hB hw3 _⟩
    · have f3 : (m.d == y.node) = false := beq_eq_false_iff_ne.2 hd
      have HV2 := Lib.hid (show followD x.v m = y.v by rw [HV.out, if_neg (fun e => hd e.2.1), if_pos (by omega)])
      clear hk2 hd CN CL
      go_wp2_with (first | (refine El.load dzRow rfl _ rfl n1 0 rfl y.z hE.at #[.int .i64 y.node, .int .i64 y.boot, .int .i64 y.above, .int .i64 y.pos, .int .i64 y.y.t, .int .i64 y.pos, .slice none 0 0, .int .i64 y.q.f, .int .i64 y.q.g, .slice y.qA y.q.os.length y.qc, .slice none 0 0, .slice none 0 0, .slice none 0 0, .slice none 0 0, .slice y.y.bA y.y.base.length y.y.bc, .int .i64 y.y.t, .slice y.y.oA y.y.ops.length y.y.oc, .slice y.y.uA y.y.us.length y.y.uc, .slice y.y.wA y.y.now.length y.y.wc, .slice y.cA y.l.length y.cc, .int .i64 y.inc, .int .i64 y.mode, .int .i64 y.clock, .int .i64 y.sent, .slice y.pA 0 y.pc, .int .i64 y.late] rfl ?_) | (refine El.store dvRow rfl _ _ rfl n3 y #[.int .i64 y.node, .int .i64 y.boot, .int .i64 y.above, .int .i64 y.pos, .int .i64 y.y.t, .int .i64 y.pos, .slice none 0 0, .int .i64 y.q.f, .int .i64 y.q.g, .slice y.qA y.q.os.length y.qc, .slice none 0 0, .slice none 0 0, .slice none 0 0, .slice none 0 0, .slice y.y.bA y.y.base.length y.y.bc, .int .i64 y.y.t, .slice y.y.oA y.y.ops.length y.y.oc, .slice y.y.uA y.y.us.length y.y.uc, .slice y.y.wA y.y.now.length y.y.wc, .slice y.cA y.l.length y.cc, .int .i64 y.inc, .int .i64 y.mode, .int .i64 y.clock, .int .i64 y.sent, .slice y.pA 0 y.pc, .int .i64 y.late] rfl rfl rfl Dw.zero hR ?_) | fail)
      refine El.ret1 dvRow (hR.set y _ rfl) rfl rfl rfl _ rfl ?_
      exact ⟨y, rfl, hok.keepB hR (by_row _ _ _), HV2.out.symm, below_setRow hB hw3 _⟩
  · have f1 : (m.k == 2) = false := beq_eq_false_iff_ne.2 hk2
    by_cases hk1 : m.k = 1
    · have f2 : (m.k == 1) = true := beq_iff_eq.2 hk1
      have HV2 := Lib.hid (show followD x.v m = learnD y.v m.o by rw [HV.out, if_neg (fun e => hk2 e.1), if_neg (fun e => e hk1)])
      clear hk2 hk1 CL
      go_wp2_with (first | (refine El.load dzRow rfl _ rfl n1 0 rfl y.z hE.at #[.int .i64 y.node, .int .i64 y.boot, .int .i64 y.above, .int .i64 y.pos, .int .i64 y.y.t, .int .i64 y.pos, .slice none 0 0, .int .i64 y.q.f, .int .i64 y.q.g, .slice y.qA y.q.os.length y.qc, .slice none 0 0, .slice none 0 0, .slice none 0 0, .slice none 0 0, .slice y.y.bA y.y.base.length y.y.bc, .int .i64 y.y.t, .slice y.y.oA y.y.ops.length y.y.oc, .slice y.y.uA y.y.us.length y.y.uc, .slice y.y.wA y.y.now.length y.y.wc, .slice y.cA y.l.length y.cc, .int .i64 y.inc, .int .i64 y.mode, .int .i64 y.clock, .int .i64 y.sent, .slice y.pA 0 y.pc, .int .i64 y.late] rfl ?_) | (refine El.load opRow rfl _ rfl n2 3 rfl m.o (en_op hM) #[.int .i64 m.o.C, .int .i64 m.o.D, .int .i64 m.o.I, .int .i64 m.o.M, .int .i64 m.o.K, .int .i64 m.o.U, .string m.o.s] rfl ?_) | fail)
      refine (CN.out _ hok).mono ?_
      rintro e5 w5 ⟨z, rfl, hz, hzv, hb5⟩
      replace hR := hR.below hb5
      replace hB := below_then hB hb5
      clear hb5
      go_wp2_with (first | (refine El.store dvRow rfl _ _ rfl n3 z #[.int .i64 z.node, .int .i64 z.boot, .int .i64 z.above, .int .i64 z.pos, .int .i64 z.y.t, .int .i64 z.pos, .slice none 0 0, .int .i64 z.q.f, .int .i64 z.q.g, .slice z.qA z.q.os.length z.qc, .slice none 0 0, .slice none 0 0, .slice none 0 0, .slice none 0 0, .slice z.y.bA z.y.base.length z.y.bc, .int .i64 z.y.t, .slice z.y.oA z.y.ops.length z.y.oc, .slice z.y.uA z.y.us.length z.y.uc, .slice z.y.wA z.y.now.length z.y.wc, .slice z.cA z.l.length z.cc, .int .i64 z.inc, .int .i64 z.mode, .int .i64 z.clock, .int .i64 z.sent, .slice z.pA 0 z.pc, .int .i64 z.late] rfl rfl rfl Dw.zero hR ?_) | fail)
      refine El.ret1 dvRow (hR.set z _ rfl) rfl rfl rfl _ rfl ?_
      exact ⟨z, rfl, hz.keepB hR (by_row _ _ _), hzv.trans HV2.out.symm, below_setRow hB hw3 _⟩
    · have f2 : (m.k == 1) = false := beq_eq_false_iff_ne.2 hk1
      have HV2 := Lib.hid (show followD x.v m = y.v by rw [HV.out, if_neg (fun e => hk2 e.1), if_pos hk1])
      clear hk2 hk1 CN CL
      go_wp2_with (first | (refine El.load dzRow rfl _ rfl n1 0 rfl y.z hE.at #[.int .i64 y.node, .int .i64 y.boot, .int .i64 y.above, .int .i64 y.pos, .int .i64 y.y.t, .int .i64 y.pos, .slice none 0 0, .int .i64 y.q.f, .int .i64 y.q.g, .slice y.qA y.q.os.length y.qc, .slice none 0 0, .slice none 0 0, .slice none 0 0, .slice none 0 0, .slice y.y.bA y.y.base.length y.y.bc, .int .i64 y.y.t, .slice y.y.oA y.y.ops.length y.y.oc, .slice y.y.uA y.y.us.length y.y.uc, .slice y.y.wA y.y.now.length y.y.wc, .slice y.cA y.l.length y.cc, .int .i64 y.inc, .int .i64 y.mode, .int .i64 y.clock, .int .i64 y.sent, .slice y.pA 0 y.pc, .int .i64 y.late] rfl ?_) | (refine El.store dvRow rfl _ _ rfl n3 y #[.int .i64 y.node, .int .i64 y.boot, .int .i64 y.above, .int .i64 y.pos, .int .i64 y.y.t, .int .i64 y.pos, .slice none 0 0, .int .i64 y.q.f, .int .i64 y.q.g, .slice y.qA y.q.os.length y.qc, .slice none 0 0, .slice none 0 0, .slice none 0 0, .slice none 0 0, .slice y.y.bA y.y.base.length y.y.bc, .int .i64 y.y.t, .slice y.y.oA y.y.ops.length y.y.oc, .slice y.y.uA y.y.us.length y.y.uc, .slice y.y.wA y.y.now.length y.y.wc, .slice y.cA y.l.length y.cc, .int .i64 y.inc, .int .i64 y.mode, .int .i64 y.clock, .int .i64 y.sent, .slice y.pA 0 y.pc, .int .i64 y.late] rfl rfl rfl Dw.zero hR ?_) | fail)
      refine El.ret1 dvRow (hR.set y _ rfl) rfl rfl rfl _ rfl ?_
      exact ⟨y, rfl, hok.keepB hR (by_row _ _ _), HV2.out.symm, below_setRow hB hw3 _⟩
end Go.Proofs.YtdcjffajmckleaaGreatDoor

/- The program's behind and followed. -/
namespace Go.Proofs.YtdcjffajmckleaaGreatDoor
open Go.RowKit Nam Cod Tre Pst Pln

theorem pFrE_es {A : Option Addr} {c : Nat} {l : List En} {w : World} {i : Nat} (h : SlV enE w A c l) (hi : i ≤ l.length) : ∃ A', (if c = i then A else Option.map (fun x => x.add (i * 10)) A) = A' ∧ SlV enE w A' (c - i) (l.drop i) := by
  obtain ⟨hT, hz, hlc⟩ := h
  refine ⟨_, rfl, hT.drop hlc rfl, El.drop_none hz rfl, ?_⟩
  rw [List.length_drop]; omega
set_option maxRecDepth 100000 in
set_option maxHeartbeats 8000000 in
theorem behind_any (f : Fw) (pos : Int) (w : World) (hf : SlV enE w f.eA f.ec f.x.es) (hp : 0 ≤ pos ∧ pos ≤ 4611686018427387904) (hs : 0 ≤ f.x.start ∧ f.x.start ≤ 4611686018427387904) (_hl : f.x.es.length ≤ 100000) :
    Calls Tryz.prog 64 #[.agg #[.int .i64 f.x.a, .int .i64 f.x.b, .int .i64 f.x.boot, .int .i64 f.x.first, .slice f.oA f.x.os.length f.oc, .int .i64 f.x.pos, .slice f.rA f.x.rs.length f.rc, .int .i64 f.x.start, .slice f.eA f.x.es.length f.ec, .int .i64 f.x.ack, .int .i64 f.x.grant, .int .i64 f.x.s, .int .i64 f.x.t, .slice f.gA f.x.gs.length f.gc], .int .i64 pos] w fun e w' => ∃ (A : Option Addr) (c : Nat) (l : List En), e = .returned (.slice A l.length c) ∧ SlV enE w' A c l ∧ (∀ x : Dv, x.pos = pos → goD x f.x.start f.x.es = goF x l) ∧ (∀ e ∈ l, e ∈ f.x.es) ∧ l.length ≤ f.x.es.length ∧ Below w.heap.size w w' := by
  have hF : frE.In (w.alloc (.cells #[.int .i64 f.x.a, .int .i64 f.x.b, .int .i64 f.x.boot, .int .i64 f.x.first, .slice f.oA f.x.os.length f.oc, .int .i64 f.x.pos, .slice f.rA f.x.rs.length f.rc, .int .i64 f.x.start, .slice f.eA f.x.es.length f.ec, .int .i64 f.x.ack, .int .i64 f.x.grant, .int .i64 f.x.s, .int .i64 f.x.t, .slice f.gA f.x.gs.length f.gc] 65)) w.heap.size f := El.In.new (E := frE) w f _ rfl
  have hB := below_alloc (Below.refl w.heap.size w) (.cells #[.int .i64 f.x.a, .int .i64 f.x.b, .int .i64 f.x.boot, .int .i64 f.x.first, .slice f.oA f.x.os.length f.oc, .int .i64 f.x.pos, .slice f.rA f.x.rs.length f.rc, .int .i64 f.x.start, .slice f.eA f.x.es.length f.ec, .int .i64 f.x.ack, .int .i64 f.x.grant, .int .i64 f.x.s, .int .i64 f.x.t, .slice f.gA f.x.gs.length f.gc] 65)
  have hS := SlV.below hf hB
  obtain ⟨p1, hp1⟩ : ∃ p1, pos + 1 = p1 := ⟨_, rfl⟩
  have hw1 : IntKind.i64.wrap (pos + 1) = p1 := by rw [IntKind.wrap_i64]; omega
  obtain ⟨d, hd⟩ : ∃ d, p1 - f.x.start = d := ⟨_, rfl⟩
  have hw2 : IntKind.i64.wrap (p1 - f.x.start) = d := by rw [IntKind.wrap_i64]; omega
  have HD := Lib.hid (show f.x.start + d = pos + 1 by omega)
  go_enter Tryz.func64, Tryz.ntmps64
  go_upto_region 1 with fail
  generalize w.alloc (.cells #[.int .i64 f.x.a, .int .i64 f.x.b, .int .i64 f.x.boot, .int .i64 f.x.first, .slice f.oA f.x.os.length f.oc, .int .i64 f.x.pos, .slice f.rA f.x.rs.length f.rc, .int .i64 f.x.start, .slice f.eA f.x.es.length f.ec, .int .i64 f.x.ack, .int .i64 f.x.grant, .int .i64 f.x.s, .int .i64 f.x.t, .slice f.gA f.x.gs.length f.gc] 65) = W at *
  obtain ⟨n1, hn1⟩ : ∃ n1, w.heap.size = n1 := ⟨_, rfl⟩
  rw [hn1] at hF ⊢
  clear hn1 hp1 hd hp hs hf
  have c7 : W.cell? ⟨n1, 7, none⟩ = some (.int .i64 f.x.start) := hF.cell 7
  have c8 : W.cell? ⟨n1, 8, none⟩ = some (.slice f.eA f.x.es.length f.ec) := hF.cell 8
  clear hF
  obtain ⟨es, hes⟩ : ∃ es, f.x.es = es := ⟨_, rfl⟩
  rw [hes] at hS c8
  have HES := Lib.hid hes
  clear hes
  by_cases hd0 : d < 0
  · have f1 : decide (d < 0) = true := decide_eq_true hd0
    have HG := Lib.hid (fun (x : Dv) (hx : x.pos = pos) => (goD_far es x f.x.start (by rw [hx]; have := HD.out; omega) : goD x f.x.start es = x))
    clear hd0
    go_wp2_with fail
    go_ret
    exact ⟨none, 0, [], rfl, SlV.nil _ _, fun x hx => by rw [HES.out]; exact HG.out x hx, (fun e h => by cases h), Nat.zero_le _, hB⟩
  · have f1 : decide (d < 0) = false := decide_eq_false hd0
    obtain ⟨i, rfl⟩ : ∃ i : Nat, d = (i : Int) := ⟨d.toNat, by omega⟩
    by_cases hi : es.length < i
    · have f2 : decide ((es.length : Int) < (i : Int)) = true := decide_eq_true (by omega)
      have f3 : decide (es.length < i) = true := decide_eq_true (by omega)
      have HG := Lib.hid (fun (x : Dv) (hx : x.pos = pos) => (goD_near es x f.x.start (by rw [hx]; have := HD.out; omega) : goD x f.x.start es = x))
      clear hd0 hi
      go_wp2_with fail
      go_ret
      exact ⟨none, 0, [], rfl, SlV.nil _ _, fun x hx => by rw [HES.out]; exact HG.out x hx, (fun e h => by cases h), Nat.zero_le _, hB⟩
    · have f2 : decide ((es.length : Int) < (i : Int)) = false := decide_eq_false (by omega)
      have f3 : decide (es.length < i) = false := decide_eq_false (by omega)
      have HG := Lib.hid (fun (x : Dv) (hx : x.pos = pos) => (goD_drop es x f.x.start i (by rw [hx]; exact HD.out) : goD x f.x.start es = goF x (es.drop i)))
      obtain ⟨A', hA', hS'⟩ := pFrE_es hS (show i ≤ es.length by omega)
      have hlc : es.length ≤ f.ec := hS.2.2
      obtain ⟨cap, hcap⟩ : ∃ cap, f.ec = cap := ⟨_, rfl⟩
      rw [hcap] at hA' hS' hlc c8
      clear hcap
      obtain ⟨A, hAA⟩ : ∃ A, f.eA = A := ⟨_, rfl⟩
      rw [hAA] at hA' c8
      clear hAA
      have g0 : (0 : Int) ≤ (i : Int) := by omega
      have g1 : (i : Int) ≤ (cap : Int) := by omega
      have g2 : (i : Int) ≤ (es.length : Int) := by omega
      have hll : (es.drop i).length = es.length - i := List.length_drop
      have HLL := Lib.hid hll
      have HMEM := Lib.hid (fun (e : En) (h : e ∈ es.drop i) => List.mem_of_mem_drop h)
      clear hd0 hi hS hll
      go_wp2_with fail
      go_ret
      exact ⟨A', cap - i, es.drop i, by rw [HLL.out]; rfl, hS', fun x hx => by rw [HES.out]; exact HG.out x hx, fun e h => by rw [HES.out]; exact HMEM.out e h, by rw [HLL.out, HES.out]; exact Nat.sub_le _ _, hB⟩
theorem fo_boxes (x : Dw) (m : Fw) (w : World) (hx : x.ok w) (hm : m.ok w) :
    dzE.In (((w.alloc (.cells #[.int .i64 x.node, .int .i64 x.boot, .int .i64 x.above, .int .i64 x.pos, .int .i64 x.y.t, .int .i64 x.pos, .slice none 0 0, .int .i64 x.q.f, .int .i64 x.q.g, .slice x.qA x.q.os.length x.qc, .slice none 0 0, .slice none 0 0, .slice none 0 0, .slice none 0 0, .slice x.y.bA x.y.base.length x.y.bc, .int .i64 x.y.t, .slice x.y.oA x.y.ops.length x.y.oc, .slice x.y.uA x.y.us.length x.y.uc, .slice x.y.wA x.y.now.length x.y.wc, .slice x.cA x.l.length x.cc, .int .i64 x.inc, .int .i64 x.mode, .int .i64 x.clock, .int .i64 x.sent, .slice x.pA 0 x.pc, .int .i64 x.late] 44)).alloc (.cells #[.int .i64 m.x.a, .int .i64 m.x.b, .int .i64 m.x.boot, .int .i64 m.x.first, .slice m.oA m.x.os.length m.oc, .int .i64 m.x.pos, .slice m.rA m.x.rs.length m.rc, .int .i64 m.x.start, .slice m.eA m.x.es.length m.ec, .int .i64 m.x.ack, .int .i64 m.x.grant, .int .i64 m.x.s, .int .i64 m.x.t, .slice m.gA m.x.gs.length m.gc] 65)).alloc (.cells #[.int .i64 0, .int .i64 0, .int .i64 0, .int .i64 0, .int .i64 0, .int .i64 0, .slice none 0 0, .int .i64 0, .int .i64 0, .slice none 0 0, .slice none 0 0, .slice none 0 0, .slice none 0 0, .slice none 0 0, .slice none 0 0, .int .i64 0, .slice none 0 0, .slice none 0 0, .slice none 0 0, .slice none 0 0, .int .i64 0, .int .i64 0, .int .i64 0, .int .i64 0, .slice none 0 0, .int .i64 0] 44)) w.heap.size x.z ∧ frE.In (((w.alloc (.cells #[.int .i64 x.node, .int .i64 x.boot, .int .i64 x.above, .int .i64 x.pos, .int .i64 x.y.t, .int .i64 x.pos, .slice none 0 0, .int .i64 x.q.f, .int .i64 x.q.g, .slice x.qA x.q.os.length x.qc, .slice none 0 0, .slice none 0 0, .slice none 0 0, .slice none 0 0, .slice x.y.bA x.y.base.length x.y.bc, .int .i64 x.y.t, .slice x.y.oA x.y.ops.length x.y.oc, .slice x.y.uA x.y.us.length x.y.uc, .slice x.y.wA x.y.now.length x.y.wc, .slice x.cA x.l.length x.cc, .int .i64 x.inc, .int .i64 x.mode, .int .i64 x.clock, .int .i64 x.sent, .slice x.pA 0 x.pc, .int .i64 x.late] 44)).alloc (.cells #[.int .i64 m.x.a, .int .i64 m.x.b, .int .i64 m.x.boot, .int .i64 m.x.first, .slice m.oA m.x.os.length m.oc, .int .i64 m.x.pos, .slice m.rA m.x.rs.length m.rc, .int .i64 m.x.start, .slice m.eA m.x.es.length m.ec, .int .i64 m.x.ack, .int .i64 m.x.grant, .int .i64 m.x.s, .int .i64 m.x.t, .slice m.gA m.x.gs.length m.gc] 65)).alloc (.cells #[.int .i64 0, .int .i64 0, .int .i64 0, .int .i64 0, .int .i64 0, .int .i64 0, .slice none 0 0, .int .i64 0, .int .i64 0, .slice none 0 0, .slice none 0 0, .slice none 0 0, .slice none 0 0, .slice none 0 0, .slice none 0 0, .int .i64 0, .slice none 0 0, .slice none 0 0, .slice none 0 0, .slice none 0 0, .int .i64 0, .int .i64 0, .int .i64 0, .int .i64 0, .slice none 0 0, .int .i64 0] 44)) (w.heap.size + 1) m ∧ dvE.In (((w.alloc (.cells #[.int .i64 x.node, .int .i64 x.boot, .int .i64 x.above, .int .i64 x.pos, .int .i64 x.y.t, .int .i64 x.pos, .slice none 0 0, .int .i64 x.q.f, .int .i64 x.q.g, .slice x.qA x.q.os.length x.qc, .slice none 0 0, .slice none 0 0, .slice none 0 0, .slice none 0 0, .slice x.y.bA x.y.base.length x.y.bc, .int .i64 x.y.t, .slice x.y.oA x.y.ops.length x.y.oc, .slice x.y.uA x.y.us.length x.y.uc, .slice x.y.wA x.y.now.length x.y.wc, .slice x.cA x.l.length x.cc, .int .i64 x.inc, .int .i64 x.mode, .int .i64 x.clock, .int .i64 x.sent, .slice x.pA 0 x.pc, .int .i64 x.late] 44)).alloc (.cells #[.int .i64 m.x.a, .int .i64 m.x.b, .int .i64 m.x.boot, .int .i64 m.x.first, .slice m.oA m.x.os.length m.oc, .int .i64 m.x.pos, .slice m.rA m.x.rs.length m.rc, .int .i64 m.x.start, .slice m.eA m.x.es.length m.ec, .int .i64 m.x.ack, .int .i64 m.x.grant, .int .i64 m.x.s, .int .i64 m.x.t, .slice m.gA m.x.gs.length m.gc] 65)).alloc (.cells #[.int .i64 0, .int .i64 0, .int .i64 0, .int .i64 0, .int .i64 0, .int .i64 0, .slice none 0 0, .int .i64 0, .int .i64 0, .slice none 0 0, .slice none 0 0, .slice none 0 0, .slice none 0 0, .slice none 0 0, .slice none 0 0, .int .i64 0, .slice none 0 0, .slice none 0 0, .slice none 0 0, .slice none 0 0, .int .i64 0, .int .i64 0, .int .i64 0, .int .i64 0, .slice none 0 0, .int .i64 0] 44)) (w.heap.size + 2) Dw.zero ∧ Below w.heap.size w (((w.alloc (.cells #[.int .i64 x.node, .int .i64 x.boot, .int .i64 x.above, .int .i64 x.pos, .int .i64 x.y.t, .int .i64 x.pos, .slice none 0 0, .int .i64 x.q.f, .int .i64 x.q.g, .slice x.qA x.q.os.length x.qc, .slice none 0 0, .slice none 0 0, .slice none 0 0, .slice none 0 0, .slice x.y.bA x.y.base.length x.y.bc, .int .i64 x.y.t, .slice x.y.oA x.y.ops.length x.y.oc, .slice x.y.uA x.y.us.length x.y.uc, .slice x.y.wA x.y.now.length x.y.wc, .slice x.cA x.l.length x.cc, .int .i64 x.inc, .int .i64 x.mode, .int .i64 x.clock, .int .i64 x.sent, .slice x.pA 0 x.pc, .int .i64 x.late] 44)).alloc (.cells #[.int .i64 m.x.a, .int .i64 m.x.b, .int .i64 m.x.boot, .int .i64 m.x.first, .slice m.oA m.x.os.length m.oc, .int .i64 m.x.pos, .slice m.rA m.x.rs.length m.rc, .int .i64 m.x.start, .slice m.eA m.x.es.length m.ec, .int .i64 m.x.ack, .int .i64 m.x.grant, .int .i64 m.x.s, .int .i64 m.x.t, .slice m.gA m.x.gs.length m.gc] 65)).alloc (.cells #[.int .i64 0, .int .i64 0, .int .i64 0, .int .i64 0, .int .i64 0, .int .i64 0, .slice none 0 0, .int .i64 0, .int .i64 0, .slice none 0 0, .slice none 0 0, .slice none 0 0, .slice none 0 0, .slice none 0 0, .slice none 0 0, .int .i64 0, .slice none 0 0, .slice none 0 0, .slice none 0 0, .slice none 0 0, .int .i64 0, .int .i64 0, .int .i64 0, .int .i64 0, .slice none 0 0, .int .i64 0] 44)) ∧ x.ok (((w.alloc (.cells #[.int .i64 x.node, .int .i64 x.boot, .int .i64 x.above, .int .i64 x.pos, .int .i64 x.y.t, .int .i64 x.pos, .slice none 0 0, .int .i64 x.q.f, .int .i64 x.q.g, .slice x.qA x.q.os.length x.qc, .slice none 0 0, .slice none 0 0, .slice none 0 0, .slice none 0 0, .slice x.y.bA x.y.base.length x.y.bc, .int .i64 x.y.t, .slice x.y.oA x.y.ops.length x.y.oc, .slice x.y.uA x.y.us.length x.y.uc, .slice x.y.wA x.y.now.length x.y.wc, .slice x.cA x.l.length x.cc, .int .i64 x.inc, .int .i64 x.mode, .int .i64 x.clock, .int .i64 x.sent, .slice x.pA 0 x.pc, .int .i64 x.late] 44)).alloc (.cells #[.int .i64 m.x.a, .int .i64 m.x.b, .int .i64 m.x.boot, .int .i64 m.x.first, .slice m.oA m.x.os.length m.oc, .int .i64 m.x.pos, .slice m.rA m.x.rs.length m.rc, .int .i64 m.x.start, .slice m.eA m.x.es.length m.ec, .int .i64 m.x.ack, .int .i64 m.x.grant, .int .i64 m.x.s, .int .i64 m.x.t, .slice m.gA m.x.gs.length m.gc] 65)).alloc (.cells #[.int .i64 0, .int .i64 0, .int .i64 0, .int .i64 0, .int .i64 0, .int .i64 0, .slice none 0 0, .int .i64 0, .int .i64 0, .slice none 0 0, .slice none 0 0, .slice none 0 0, .slice none 0 0, .slice none 0 0, .slice none 0 0, .int .i64 0, .slice none 0 0, .slice none 0 0, .slice none 0 0, .slice none 0 0, .int .i64 0, .int .i64 0, .int .i64 0, .int .i64 0, .slice none 0 0, .int .i64 0] 44)) ∧ m.ok (((w.alloc (.cells #[.int .i64 x.node, .int .i64 x.boot, .int .i64 x.above, .int .i64 x.pos, .int .i64 x.y.t, .int .i64 x.pos, .slice none 0 0, .int .i64 x.q.f, .int .i64 x.q.g, .slice x.qA x.q.os.length x.qc, .slice none 0 0, .slice none 0 0, .slice none 0 0, .slice none 0 0, .slice x.y.bA x.y.base.length x.y.bc, .int .i64 x.y.t, .slice x.y.oA x.y.ops.length x.y.oc, .slice x.y.uA x.y.us.length x.y.uc, .slice x.y.wA x.y.now.length x.y.wc, .slice x.cA x.l.length x.cc, .int .i64 x.inc, .int .i64 x.mode, .int .i64 x.clock, .int .i64 x.sent, .slice x.pA 0 x.pc, .int .i64 x.late] 44)).alloc (.cells #[.int .i64 m.x.a, .int .i64 m.x.b, .int .i64 m.x.boot, .int .i64 m.x.first, .slice m.oA m.x.os.length m.oc, .int .i64 m.x.pos, .slice m.rA m.x.rs.length m.rc, .int .i64 m.x.start, .slice m.eA m.x.es.length m.ec, .int .i64 m.x.ack, .int .i64 m.x.grant, .int .i64 m.x.s, .int .i64 m.x.t, .slice m.gA m.x.gs.length m.gc] 65)).alloc (.cells #[.int .i64 0, .int .i64 0, .int .i64 0, .int .i64 0, .int .i64 0, .int .i64 0, .slice none 0 0, .int .i64 0, .int .i64 0, .slice none 0 0, .slice none 0 0, .slice none 0 0, .slice none 0 0, .slice none 0 0, .slice none 0 0, .int .i64 0, .slice none 0 0, .slice none 0 0, .slice none 0 0, .slice none 0 0, .int .i64 0, .int .i64 0, .int .i64 0, .int .i64 0, .slice none 0 0, .int .i64 0] 44)) := by
  have b0 := below_alloc (Below.refl w.heap.size w) (.cells #[.int .i64 x.node, .int .i64 x.boot, .int .i64 x.above, .int .i64 x.pos, .int .i64 x.y.t, .int .i64 x.pos, .slice none 0 0, .int .i64 x.q.f, .int .i64 x.q.g, .slice x.qA x.q.os.length x.qc, .slice none 0 0, .slice none 0 0, .slice none 0 0, .slice none 0 0, .slice x.y.bA x.y.base.length x.y.bc, .int .i64 x.y.t, .slice x.y.oA x.y.ops.length x.y.oc, .slice x.y.uA x.y.us.length x.y.uc, .slice x.y.wA x.y.now.length x.y.wc, .slice x.cA x.l.length x.cc, .int .i64 x.inc, .int .i64 x.mode, .int .i64 x.clock, .int .i64 x.sent, .slice x.pA 0 x.pc, .int .i64 x.late] 44)
  have b1 := below_alloc (Below.refl (w.alloc (.cells #[.int .i64 x.node, .int .i64 x.boot, .int .i64 x.above, .int .i64 x.pos, .int .i64 x.y.t, .int .i64 x.pos, .slice none 0 0, .int .i64 x.q.f, .int .i64 x.q.g, .slice x.qA x.q.os.length x.qc, .slice none 0 0, .slice none 0 0, .slice none 0 0, .slice none 0 0, .slice x.y.bA x.y.base.length x.y.bc, .int .i64 x.y.t, .slice x.y.oA x.y.ops.length x.y.oc, .slice x.y.uA x.y.us.length x.y.uc, .slice x.y.wA x.y.now.length x.y.wc, .slice x.cA x.l.length x.cc, .int .i64 x.inc, .int .i64 x.mode, .int .i64 x.clock, .int .i64 x.sent, .slice x.pA 0 x.pc, .int .i64 x.late] 44)).heap.size (w.alloc (.cells #[.int .i64 x.node, .int .i64 x.boot, .int .i64 x.above, .int .i64 x.pos, .int .i64 x.y.t, .int .i64 x.pos, .slice none 0 0, .int .i64 x.q.f, .int .i64 x.q.g, .slice x.qA x.q.os.length x.qc, .slice none 0 0, .slice none 0 0, .slice none 0 0, .slice none 0 0, .slice x.y.bA x.y.base.length x.y.bc, .int .i64 x.y.t, .slice x.y.oA x.y.ops.length x.y.oc, .slice x.y.uA x.y.us.length x.y.uc, .slice x.y.wA x.y.now.length x.y.wc, .slice x.cA x.l.length x.cc, .int .i64 x.inc, .int .i64 x.mode, .int .i64 x.clock, .int .i64 x.sent, .slice x.pA 0 x.pc, .int .i64 x.late] 44))) (.cells #[.int .i64 m.x.a, .int .i64 m.x.b, .int .i64 m.x.boot, .int .i64 m.x.first, .slice m.oA m.x.os.length m.oc, .int .i64 m.x.pos, .slice m.rA m.x.rs.length m.rc, .int .i64 m.x.start, .slice m.eA m.x.es.length m.ec, .int .i64 m.x.ack, .int .i64 m.x.grant, .int .i64 m.x.s, .int .i64 m.x.t, .slice m.gA m.x.gs.length m.gc] 65)
  have b2 := below_alloc (Below.refl ((w.alloc (.cells #[.int .i64 x.node, .int .i64 x.boot, .int .i64 x.above, .int .i64 x.pos, .int .i64 x.y.t, .int .i64 x.pos, .slice none 0 0, .int .i64 x.q.f, .int .i64 x.q.g, .slice x.qA x.q.os.length x.qc, .slice none 0 0, .slice none 0 0, .slice none 0 0, .slice none 0 0, .slice x.y.bA x.y.base.length x.y.bc, .int .i64 x.y.t, .slice x.y.oA x.y.ops.length x.y.oc, .slice x.y.uA x.y.us.length x.y.uc, .slice x.y.wA x.y.now.length x.y.wc, .slice x.cA x.l.length x.cc, .int .i64 x.inc, .int .i64 x.mode, .int .i64 x.clock, .int .i64 x.sent, .slice x.pA 0 x.pc, .int .i64 x.late] 44)).alloc (.cells #[.int .i64 m.x.a, .int .i64 m.x.b, .int .i64 m.x.boot, .int .i64 m.x.first, .slice m.oA m.x.os.length m.oc, .int .i64 m.x.pos, .slice m.rA m.x.rs.length m.rc, .int .i64 m.x.start, .slice m.eA m.x.es.length m.ec, .int .i64 m.x.ack, .int .i64 m.x.grant, .int .i64 m.x.s, .int .i64 m.x.t, .slice m.gA m.x.gs.length m.gc] 65)).heap.size ((w.alloc (.cells #[.int .i64 x.node, .int .i64 x.boot, .int .i64 x.above, .int .i64 x.pos, .int .i64 x.y.t, .int .i64 x.pos, .slice none 0 0, .int .i64 x.q.f, .int .i64 x.q.g, .slice x.qA x.q.os.length x.qc, .slice none 0 0, .slice none 0 0, .slice none 0 0, .slice none 0 0, .slice x.y.bA x.y.base.length x.y.bc, .int .i64 x.y.t, .slice x.y.oA x.y.ops.length x.y.oc, .slice x.y.uA x.y.us.length x.y.uc, .slice x.y.wA x.y.now.length x.y.wc, .slice x.cA x.l.length x.cc, .int .i64 x.inc, .int .i64 x.mode, .int .i64 x.clock, .int .i64 x.sent, .slice x.pA 0 x.pc, .int .i64 x.late] 44)).alloc (.cells #[.int .i64 m.x.a, .int .i64 m.x.b, .int .i64 m.x.boot, .int .i64 m.x.first, .slice m.oA m.x.os.length m.oc, .int .i64 m.x.pos, .slice m.rA m.x.rs.length m.rc, .int .i64 m.x.start, .slice m.eA m.x.es.length m.ec, .int .i64 m.x.ack, .int .i64 m.x.grant, .int .i64 m.x.s, .int .i64 m.x.t, .slice m.gA m.x.gs.length m.gc] 65))) (.cells #[.int .i64 0, .int .i64 0, .int .i64 0, .int .i64 0, .int .i64 0, .int .i64 0, .slice none 0 0, .int .i64 0, .int .i64 0, .slice none 0 0, .slice none 0 0, .slice none 0 0, .slice none 0 0, .slice none 0 0, .slice none 0 0, .int .i64 0, .slice none 0 0, .slice none 0 0, .slice none 0 0, .slice none 0 0, .int .i64 0, .int .i64 0, .int .i64 0, .int .i64 0, .slice none 0 0, .int .i64 0] 44)
  have i0 : dzE.In (w.alloc (.cells #[.int .i64 x.node, .int .i64 x.boot, .int .i64 x.above, .int .i64 x.pos, .int .i64 x.y.t, .int .i64 x.pos, .slice none 0 0, .int .i64 x.q.f, .int .i64 x.q.g, .slice x.qA x.q.os.length x.qc, .slice none 0 0, .slice none 0 0, .slice none 0 0, .slice none 0 0, .slice x.y.bA x.y.base.length x.y.bc, .int .i64 x.y.t, .slice x.y.oA x.y.ops.length x.y.oc, .slice x.y.uA x.y.us.length x.y.uc, .slice x.y.wA x.y.now.length x.y.wc, .slice x.cA x.l.length x.cc, .int .i64 x.inc, .int .i64 x.mode, .int .i64 x.clock, .int .i64 x.sent, .slice x.pA 0 x.pc, .int .i64 x.late] 44)) w.heap.size x.z := El.In.new (E := dzE) w x.z _ rfl
  have i1 : frE.In ((w.alloc (.cells #[.int .i64 x.node, .int .i64 x.boot, .int .i64 x.above, .int .i64 x.pos, .int .i64 x.y.t, .int .i64 x.pos, .slice none 0 0, .int .i64 x.q.f, .int .i64 x.q.g, .slice x.qA x.q.os.length x.qc, .slice none 0 0, .slice none 0 0, .slice none 0 0, .slice none 0 0, .slice x.y.bA x.y.base.length x.y.bc, .int .i64 x.y.t, .slice x.y.oA x.y.ops.length x.y.oc, .slice x.y.uA x.y.us.length x.y.uc, .slice x.y.wA x.y.now.length x.y.wc, .slice x.cA x.l.length x.cc, .int .i64 x.inc, .int .i64 x.mode, .int .i64 x.clock, .int .i64 x.sent, .slice x.pA 0 x.pc, .int .i64 x.late] 44)).alloc (.cells #[.int .i64 m.x.a, .int .i64 m.x.b, .int .i64 m.x.boot, .int .i64 m.x.first, .slice m.oA m.x.os.length m.oc, .int .i64 m.x.pos, .slice m.rA m.x.rs.length m.rc, .int .i64 m.x.start, .slice m.eA m.x.es.length m.ec, .int .i64 m.x.ack, .int .i64 m.x.grant, .int .i64 m.x.s, .int .i64 m.x.t, .slice m.gA m.x.gs.length m.gc] 65)) (w.alloc (.cells #[.int .i64 x.node, .int .i64 x.boot, .int .i64 x.above, .int .i64 x.pos, .int .i64 x.y.t, .int .i64 x.pos, .slice none 0 0, .int .i64 x.q.f, .int .i64 x.q.g, .slice x.qA x.q.os.length x.qc, .slice none 0 0, .slice none 0 0, .slice none 0 0, .slice none 0 0, .slice x.y.bA x.y.base.length x.y.bc, .int .i64 x.y.t, .slice x.y.oA x.y.ops.length x.y.oc, .slice x.y.uA x.y.us.length x.y.uc, .slice x.y.wA x.y.now.length x.y.wc, .slice x.cA x.l.length x.cc, .int .i64 x.inc, .int .i64 x.mode, .int .i64 x.clock, .int .i64 x.sent, .slice x.pA 0 x.pc, .int .i64 x.late] 44)).heap.size m := El.In.new (E := frE) _ m _ rfl
  have i2 : dvE.In (((w.alloc (.cells #[.int .i64 x.node, .int .i64 x.boot, .int .i64 x.above, .int .i64 x.pos, .int .i64 x.y.t, .int .i64 x.pos, .slice none 0 0, .int .i64 x.q.f, .int .i64 x.q.g, .slice x.qA x.q.os.length x.qc, .slice none 0 0, .slice none 0 0, .slice none 0 0, .slice none 0 0, .slice x.y.bA x.y.base.length x.y.bc, .int .i64 x.y.t, .slice x.y.oA x.y.ops.length x.y.oc, .slice x.y.uA x.y.us.length x.y.uc, .slice x.y.wA x.y.now.length x.y.wc, .slice x.cA x.l.length x.cc, .int .i64 x.inc, .int .i64 x.mode, .int .i64 x.clock, .int .i64 x.sent, .slice x.pA 0 x.pc, .int .i64 x.late] 44)).alloc (.cells #[.int .i64 m.x.a, .int .i64 m.x.b, .int .i64 m.x.boot, .int .i64 m.x.first, .slice m.oA m.x.os.length m.oc, .int .i64 m.x.pos, .slice m.rA m.x.rs.length m.rc, .int .i64 m.x.start, .slice m.eA m.x.es.length m.ec, .int .i64 m.x.ack, .int .i64 m.x.grant, .int .i64 m.x.s, .int .i64 m.x.t, .slice m.gA m.x.gs.length m.gc] 65)).alloc (.cells #[.int .i64 0, .int .i64 0, .int .i64 0, .int .i64 0, .int .i64 0, .int .i64 0, .slice none 0 0, .int .i64 0, .int .i64 0, .slice none 0 0, .slice none 0 0, .slice none 0 0, .slice none 0 0, .slice none 0 0, .slice none 0 0, .int .i64 0, .slice none 0 0, .slice none 0 0, .slice none 0 0, .slice none 0 0, .int .i64 0, .int .i64 0, .int .i64 0, .int .i64 0, .slice none 0 0, .int .i64 0] 44)) ((w.alloc (.cells #[.int .i64 x.node, .int .i64 x.boot, .int .i64 x.above, .int .i64 x.pos, .int .i64 x.y.t, .int .i64 x.pos, .slice none 0 0, .int .i64 x.q.f, .int .i64 x.q.g, .slice x.qA x.q.os.length x.qc, .slice none 0 0, .slice none 0 0, .slice none 0 0, .slice none 0 0, .slice x.y.bA x.y.base.length x.y.bc, .int .i64 x.y.t, .slice x.y.oA x.y.ops.length x.y.oc, .slice x.y.uA x.y.us.length x.y.uc, .slice x.y.wA x.y.now.length x.y.wc, .slice x.cA x.l.length x.cc, .int .i64 x.inc, .int .i64 x.mode, .int .i64 x.clock, .int .i64 x.sent, .slice x.pA 0 x.pc, .int .i64 x.late] 44)).alloc (.cells #[.int .i64 m.x.a, .int .i64 m.x.b, .int .i64 m.x.boot, .int .i64 m.x.first, .slice m.oA m.x.os.length m.oc, .int .i64 m.x.pos, .slice m.rA m.x.rs.length m.rc, .int .i64 m.x.start, .slice m.eA m.x.es.length m.ec, .int .i64 m.x.ack, .int .i64 m.x.grant, .int .i64 m.x.s, .int .i64 m.x.t, .slice m.gA m.x.gs.length m.gc] 65)).heap.size Dw.zero := El.In.new (E := dvE) _ Dw.zero _ rfl
  rw [alloc_size, alloc_size] at i2
  rw [alloc_size] at i1
  have hb := below_then (below_then b0 b1) b2
  exact ⟨(i0.below b1).below b2, i1.below b2, i2, hb, hx.below hb, Fw.ok.below hm hb⟩
theorem en_keep {w w' : World} {A : Option Addr} {c : Nat} {l : List En} {n : Nat} {z : Dw} (h : SlV enE w A c l) (hZ : dvE.In w n z) (hg : w.grownBy w' (some n)) : SlV enE w' A c l :=
  h.keepRD (fun o _ ha => by rcases dvE_cell hZ (ha 9 _ rfl) with ⟨_, h⟩ | ⟨_, _, _, h⟩ <;> cases h) hg
/-- A state as its past is settled. -/
def settleD (x : Dv) (t : Int) : Dv := { x with y := settleV x.y t, clock := max x.clock (settleV x.y t).t }
set_option maxRecDepth 100000 in
set_option maxHeartbeats 8000000 in
theorem followed_any (x : Dw) (f : Fw) (w : World) (hw : DvW 0 x.v) (hf : FrD f.x) (hx : x.ok w) (hm : f.ok w) :
    Calls Tryz.prog 37 #[.agg #[.int .i64 x.node, .int .i64 x.boot, .int .i64 x.above, .int .i64 x.pos, .int .i64 x.y.t, .int .i64 x.pos, .slice none 0 0, .int .i64 x.q.f, .int .i64 x.q.g, .slice x.qA x.q.os.length x.qc, .slice none 0 0, .slice none 0 0, .slice none 0 0, .slice none 0 0, .slice x.y.bA x.y.base.length x.y.bc, .int .i64 x.y.t, .slice x.y.oA x.y.ops.length x.y.oc, .slice x.y.uA x.y.us.length x.y.uc, .slice x.y.wA x.y.now.length x.y.wc, .slice x.cA x.l.length x.cc, .int .i64 x.inc, .int .i64 x.mode, .int .i64 x.clock, .int .i64 x.sent, .slice x.pA 0 x.pc, .int .i64 x.late], .agg #[.int .i64 f.x.a, .int .i64 f.x.b, .int .i64 f.x.boot, .int .i64 f.x.first, .slice f.oA f.x.os.length f.oc, .int .i64 f.x.pos, .slice f.rA f.x.rs.length f.rc, .int .i64 f.x.start, .slice f.eA f.x.es.length f.ec, .int .i64 f.x.ack, .int .i64 f.x.grant, .int .i64 f.x.s, .int .i64 f.x.t, .slice f.gA f.x.gs.length f.gc]] w fun e w' => ∃ z : Dw, e = .returned (.agg #[.int .i64 z.node, .int .i64 z.boot, .int .i64 z.above, .int .i64 z.pos, .int .i64 z.y.t, .int .i64 z.pos, .slice none 0 0, .int .i64 z.q.f, .int .i64 z.q.g, .slice z.qA z.q.os.length z.qc, .slice none 0 0, .slice none 0 0, .slice none 0 0, .slice none 0 0, .slice z.y.bA z.y.base.length z.y.bc, .int .i64 z.y.t, .slice z.y.oA z.y.ops.length z.y.oc, .slice z.y.uA z.y.us.length z.y.uc, .slice z.y.wA z.y.now.length z.y.wc, .slice z.cA z.l.length z.cc, .int .i64 z.inc, .int .i64 z.mode, .int .i64 z.clock, .int .i64 z.sent, .slice z.pA 0 z.pc, .int .i64 z.late]) ∧ z.ok w' ∧ z.v = (if x.pos < f.x.s then leaveD x.v else goD (settleD x.v f.x.t) f.x.start f.x.es) ∧ Below w.heap.size w w' := by
  obtain ⟨hE, hM, hR, hB, hok, hfo⟩ := fo_boxes x f w hx hm
  obtain ⟨rv, hrv⟩ : ∃ rv, (if x.pos < f.x.s then leaveD x.v else goD (settleD x.v f.x.t) f.x.start f.x.es) = rv := ⟨_, rfl⟩
  rw [hrv]
  have HRV := Lib.hid hrv
  clear hrv
  have HW := Lib.hid hw
  have HF := Lib.hid hf
  have hpos : 0 ≤ x.pos ∧ x.pos ≤ 4294967296 := hw.pos
  have HS := Lib.hid (show 0 ≤ f.x.start ∧ f.x.start ≤ 4294967296 from hf.n _ (by simp [frL]))
  have HT := Lib.hid (show 0 ≤ f.x.t ∧ f.x.t ≤ 4294967296 from hf.n _ (by simp [frL]))
  have CL := Lib.hid (fun (wx : World) (h : x.ok wx) => leave18_any x wx h (by have h2 := hw.inc; have h3 : 1 ≤ x.inc := h2.1; have h4 : x.inc ≤ 4294967296 + (0 : Nat) := h2.2; omega))
  have CS := Lib.hid (fun (wx : World) (h : PastOk wx x.y) => pSettle_any x.y f.x.t wx h hw.y (by have h2 : x.y.ops.length ≤ 60 + 0 := hw.yl; omega))
  have CB := Lib.hid (fun (wx : World) (h : SlV enE wx f.eA f.ec f.x.es) => behind_any f x.pos wx h (by omega) (by have := HS.out; omega) (by have := hf.l.2.2; omega))
  have HPO := Lib.hid hpos
  clear hw hf hpos hx hm
  go_enter Tryz.func37, Tryz.ntmps37
  go_upto_region 1 with (first | (refine wpList_alloc_dv rfl rfl ?_) | fail)
  simp only [alloc_size, Nat.add_assoc, Nat.reduceAdd]
  generalize ((w.alloc (.cells #[.int .i64 x.node, .int .i64 x.boot, .int .i64 x.above, .int .i64 x.pos, .int .i64 x.y.t, .int .i64 x.pos, .slice none 0 0, .int .i64 x.q.f, .int .i64 x.q.g, .slice x.qA x.q.os.length x.qc, .slice none 0 0, .slice none 0 0, .slice none 0 0, .slice none 0 0, .slice x.y.bA x.y.base.length x.y.bc, .int .i64 x.y.t, .slice x.y.oA x.y.ops.length x.y.oc, .slice x.y.uA x.y.us.length x.y.uc, .slice x.y.wA x.y.now.length x.y.wc, .slice x.cA x.l.length x.cc, .int .i64 x.inc, .int .i64 x.mode, .int .i64 x.clock, .int .i64 x.sent, .slice x.pA 0 x.pc, .int .i64 x.late] 44)).alloc (.cells #[.int .i64 f.x.a, .int .i64 f.x.b, .int .i64 f.x.boot, .int .i64 f.x.first, .slice f.oA f.x.os.length f.oc, .int .i64 f.x.pos, .slice f.rA f.x.rs.length f.rc, .int .i64 f.x.start, .slice f.eA f.x.es.length f.ec, .int .i64 f.x.ack, .int .i64 f.x.grant, .int .i64 f.x.s, .int .i64 f.x.t, .slice f.gA f.x.gs.length f.gc] 65)).alloc (.cells #[.int .i64 0, .int .i64 0, .int .i64 0, .int .i64 0, .int .i64 0, .int .i64 0, .slice none 0 0, .int .i64 0, .int .i64 0, .slice none 0 0, .slice none 0 0, .slice none 0 0, .slice none 0 0, .slice none 0 0, .slice none 0 0, .int .i64 0, .slice none 0 0, .slice none 0 0, .slice none 0 0, .slice none 0 0, .int .i64 0, .int .i64 0, .int .i64 0, .int .i64 0, .slice none 0 0, .int .i64 0] 44) = W at *
  obtain ⟨n1, h1⟩ : ∃ n1, w.heap.size = n1 := ⟨_, rfl⟩
  obtain ⟨n2, h2⟩ : ∃ n2, w.heap.size + 1 = n2 := ⟨_, rfl⟩
  obtain ⟨n3, h3⟩ : ∃ n3, w.heap.size + 2 = n3 := ⟨_, rfl⟩
  have hw1 : w.heap.size ≤ n1 := by omega
  have hw3 : w.heap.size ≤ n3 := by omega
  have e31 : n3 ≠ n1 := by omega
  have e21 : n2 ≠ n1 := by omega
  rw [h3] at hR ⊢
  rw [h2] at hM ⊢
  rw [h1] at hE ⊢
  clear h1 h2 h3
  have c5 : W.cell? ⟨n1, 5, none⟩ = some (.int .i64 x.pos) := hE.cell 5
  have m11 : W.cell? ⟨n2, 11, none⟩ = some (.int .i64 f.x.s) := hM.cell 11
  have m12 : W.cell? ⟨n2, 12, none⟩ = some (.int .i64 f.x.t) := hM.cell 12
  by_cases hs : x.pos < f.x.s
  · have f1 : decide (x.pos < f.x.s) = true := decide_eq_true hs
    have HV2 := Lib.hid (show rv = leaveD x.v by rw [← HRV.out, if_pos hs])
    clear hs CS CB m12
    go_wp2_with (first | (refine El.load dzRow rfl _ rfl n1 0 rfl x.z hE.at #[.int .i64 x.node, .int .i64 x.boot, .int .i64 x.above, .int .i64 x.pos, .int .i64 x.y.t, .int .i64 x.pos, .slice none 0 0, .int .i64 x.q.f, .int .i64 x.q.g, .slice x.qA x.q.os.length x.qc, .slice none 0 0, .slice none 0 0, .slice none 0 0, .slice none 0 0, .slice x.y.bA x.y.base.length x.y.bc, .int .i64 x.y.t, .slice x.y.oA x.y.ops.length x.y.oc, .slice x.y.uA x.y.us.length x.y.uc, .slice x.y.wA x.y.now.length x.y.wc, .slice x.cA x.l.length x.cc, .int .i64 x.inc, .int .i64 x.mode, .int .i64 x.clock, .int .i64 x.sent, .slice x.pA 0 x.pc, .int .i64 x.late] rfl ?_) | fail)
    refine (CL.out _ hok).mono ?_
    rintro e5 w5 ⟨rfl, hz, hb5⟩
    replace hR := hR.below hb5
    replace hB := below_then hB hb5
    clear hb5
    obtain ⟨z, hzz⟩ : ∃ z, leaveW x = z := ⟨_, rfl⟩
    have HZ := Lib.hid (show z.v = leaveD x.v by rw [← hzz]; rfl)
    rw [hzz] at hz ⊢
    clear hzz
    go_wp2_with (first | (refine El.store dvRow rfl _ _ rfl n3 z #[.int .i64 z.node, .int .i64 z.boot, .int .i64 z.above, .int .i64 z.pos, .int .i64 z.y.t, .int .i64 z.pos, .slice none 0 0, .int .i64 z.q.f, .int .i64 z.q.g, .slice z.qA z.q.os.length z.qc, .slice none 0 0, .slice none 0 0, .slice none 0 0, .slice none 0 0, .slice z.y.bA z.y.base.length z.y.bc, .int .i64 z.y.t, .slice z.y.oA z.y.ops.length z.y.oc, .slice z.y.uA z.y.us.length z.y.uc, .slice z.y.wA z.y.now.length z.y.wc, .slice z.cA z.l.length z.cc, .int .i64 z.inc, .int .i64 z.mode, .int .i64 z.clock, .int .i64 z.sent, .slice z.pA 0 z.pc, .int .i64 z.late] rfl rfl rfl Dw.zero hR ?_) | fail)
    refine El.ret1 dvRow (hR.set z _ rfl) rfl rfl rfl _ rfl ?_
    exact ⟨z, rfl, hz.keepB hR (by_row _ _ _), HZ.out.trans HV2.out.symm, below_setRow hB hw3 _⟩
  · have f1 : decide (x.pos < f.x.s) = false := decide_eq_false hs
    have HV := Lib.hid (show rv = goD (settleD x.v f.x.t) f.x.start f.x.es by rw [← HRV.out, if_neg hs])
    clear hs CL
    go_wp2_with (first | (refine El.load pwRow rfl _ rfl n1 14 rfl x.y (dz_p hE) #[.slice x.y.bA x.y.base.length x.y.bc, .int .i64 x.y.t, .slice x.y.oA x.y.ops.length x.y.oc, .slice x.y.uA x.y.us.length x.y.uc, .slice x.y.wA x.y.now.length x.y.wc] rfl ?_) | fail)
    refine (CS.out _ hok.p).mono ?_
    rintro e w3 ⟨y, rfl, hy, hyv, hb3⟩
    replace hE := hE.below hb3
    replace hR := hR.below hb3
    replace hM := hM.below hb3
    replace hok := hok.below hb3
    replace hfo := Fw.ok.below hfo hb3
    replace hB := below_then hB hb3
    clear hb3 CS c5 m11 m12 f1
    have HYV := Lib.hid hyv
    clear hyv
    have hok1 : ({ x with y := y } : Dw).ok w3 := ⟨hy, hok.q, hok.c, hok.t⟩
    go_upto_region 4 with (first | (refine wpList_store_dz (T := 40) (k := 5) (by kernel_rfl) rfl _ _ rfl n1 14 x.z ⟨{ x with y := y }, x.pos, x.y.t⟩ [.slice y.bA y.base.length y.bc, .int .i64 y.t, .slice y.oA y.ops.length y.oc, .slice y.uA y.us.length y.uc, .slice y.wA y.now.length y.wc] rfl (by intro v hv; simp only [List.mem_cons, List.not_mem_nil, or_false] at hv; rcases hv with rfl | rfl | rfl | rfl | rfl <;> rfl) rfl rfl hE rfl (by show 14 + 5 ≤ 26; omega) ?_) | fail)
    have hgr := by_row w3 n1 (dzE.c ⟨{ x with y := y }, x.pos, x.y.t⟩).toArray
    replace hok := hok1.keepZ hE hgr
    replace hR := hR.rowN n1 (dzE.c ⟨{ x with y := y }, x.pos, x.y.t⟩).toArray e31
    replace hM := hM.rowN n1 (dzE.c ⟨{ x with y := y }, x.pos, x.y.t⟩).toArray e21
    replace hfo : SlV enE _ f.eA f.ec f.x.es := SlV.keepRD hfo.e (fun o _ ha => by rcases dzE_cell hE (ha 9 _ rfl) with ⟨_, h⟩ | ⟨_, _, _, h⟩ <;> cases h) hgr
    replace hB := below_setRow hB hw1 (dzE.c ⟨{ x with y := y }, x.pos, x.y.t⟩).toArray
    replace hE := hE.set ⟨{ x with y := y }, x.pos, x.y.t⟩ (dzE.c ⟨{ x with y := y }, x.pos, x.y.t⟩).toArray rfl
    clear hok1 hgr hy
    generalize w3.setRow n1 (dzE.c ⟨{ x with y := y }, x.pos, x.y.t⟩).toArray = V at *
    obtain ⟨ck, hck⟩ : ∃ ck, max x.clock y.t = ck := ⟨_, rfl⟩
    have c15 : V.cell? ⟨n1, 15, none⟩ = some (.int .i64 y.t) := hE.cell 15
    have c4 : V.cell? ⟨n1, 4, none⟩ = some (.int .i64 x.y.t) := hE.cell 4
    have c22 : V.cell? ⟨n1, 22, none⟩ = some (.int .i64 x.clock) := hE.cell 22
    have qf := hE.frozen
    go_upto_region 6 with fail
    clear c15 c4 c22 qf
    have HCK := Lib.hid hck
    clear hck
    have g1 := by_cell2 (by_cell V n1 4 (.int .i64 y.t)) 22 (.int .i64 ck)
    replace hok : ({ x with y := y, clock := ck } : Dw).ok ((V.setCell ⟨n1, 4, none⟩ (.int .i64 y.t)).setCell ⟨n1, 22, none⟩ (.int .i64 ck)) := by
      obtain ⟨a, b, c, d⟩ := hok.keepZ hE g1
      exact ⟨a, b, c, d⟩
    replace hfo : SlV enE ((V.setCell ⟨n1, 4, none⟩ (.int .i64 y.t)).setCell ⟨n1, 22, none⟩ (.int .i64 ck)) f.eA f.ec f.x.es := SlV.keepRD hfo (fun o _ ha => by rcases dzE_cell hE (ha 9 _ rfl) with ⟨_, h⟩ | ⟨_, _, _, h⟩ <;> cases h) g1
    replace hE := (hE.put ⟨{ x with y := y }, x.pos, y.t⟩ 4 (.int .i64 y.t) rfl).put ⟨{ x with y := y, clock := ck }, x.pos, y.t⟩ 22 (.int .i64 ck) rfl
    replace hR := (hR.other n1 4 (.int .i64 y.t) e31).other n1 22 (.int .i64 ck) e31
    replace hM := (hM.other n1 4 (.int .i64 y.t) e21).other n1 22 (.int .i64 ck) e21
    replace hB := Below.setCell (Below.setCell hB (p := ⟨n1, 4, none⟩) hw1 (.int .i64 y.t)) (p := ⟨n1, 22, none⟩) hw1 (.int .i64 ck)
    clear g1
    generalize (V.setCell ⟨n1, 4, none⟩ (.int .i64 y.t)).setCell ⟨n1, 22, none⟩ (.int .i64 ck) = W3 at *
    obtain ⟨Y, hYY⟩ : ∃ Y, ({ x with y := y, clock := ck } : Dw) = Y := ⟨_, rfl⟩
    have hE2 : dvE.In W3 n1 Y := by rw [← hYY]; exact hE
    have HYD := Lib.hid (show Y.v = settleD x.v f.x.t by
      rw [← hYY, ← HCK.out]
      show ({ x.v with y := y.v, clock := max x.clock y.v.t } : Dv) = _
      rw [HYV.out]; rfl)
    have hyp : x.pos = Y.pos := by rw [← hYY]
    rw [hYY] at hok
    clear hE hYY HYV HCK
    have hE := hE2
    have c5 : W3.cell? ⟨n1, 5, none⟩ = some (.int .i64 x.pos) := by rw [hyp]; exact hE.cell 5
    have HYP := Lib.hid hyp
    clear hyp hE2
    go_wp2_with (first | (refine El.load frRow rfl _ rfl n2 0 rfl f hM.at #[.int .i64 f.x.a, .int .i64 f.x.b, .int .i64 f.x.boot, .int .i64 f.x.first, .slice f.oA f.x.os.length f.oc, .int .i64 f.x.pos, .slice f.rA f.x.rs.length f.rc, .int .i64 f.x.start, .slice f.eA f.x.es.length f.ec, .int .i64 f.x.ack, .int .i64 f.x.grant, .int .i64 f.x.s, .int .i64 f.x.t, .slice f.gA f.x.gs.length f.gc] rfl ?_) | fail)
    refine (CB.out _ hfo).mono ?_
    rintro e w4 ⟨A, c, L, rfl, hL, hgo, hmem, hlen, hb4⟩
    replace hE := hE.below hb4
    replace hR := hR.below hb4
    replace hok := hok.below hb4
    replace hB := below_then hB hb4
    clear hb4 CB c5 hM hfo
    have HL64 := Lib.hid (show L.length ≤ 64 by have := HF.out.l.2.2; omega)
    have HMEM := Lib.hid (fun e (h : e ∈ L) => (HF.out.es e (hmem e h)).1)
    have HVE := Lib.hid (show rv = goF (settleD x.v f.x.t) L by rw [HV.out]; exact hgo _ (by show x.pos = x.pos; rfl))
    have HWW := Lib.hid (show DvW 0 (settleD x.v f.x.t) by
      have h := HW.out
      have ht := HT.out
      exact ⟨h.pos, h.y.settle (by omega), by have := settle_ops x.v.y f.x.t; have h2 := h.yl; show (settleV x.v.y f.x.t).ops.length ≤ _; omega, h.l, h.inc, h.late⟩)
    clear hgo hmem hlen HF HW HS HT HPO HYP HV HRV
    go_wp2_with fail
    go_loopw [39] (fun i wr => ∃ (k : Nat) (z : Dw), k ≤ L.length ∧ i = .int .i64 k ∧ Hid (z.v = goF (settleD x.v f.x.t) (L.take k)) ∧ dvE.In wr n1 z ∧ z.ok wr ∧ dvE.In wr n3 Dw.zero ∧ SlV enE wr A c L ∧ Below w.heap.size w wr) (fun i _ => L.length - (intOf i).toNat)
    case atStart => exact ⟨0, Y, Nat.zero_le _, rfl, HYD, hE, hok, hR, hL, hB⟩
    case round =>
      clear hE hok hR hL hB
      obtain ⟨k, z, hk, rfl, HZ, hE, hok, hR, hL, hB⟩ := hrel
      by_cases hkl : k < L.length
      · have f2 : decide ((k : Int) < (L.length : Int)) = true := decide_eq_true (by omega)
        obtain ⟨b, off, eA, hbw, hc⟩ := hL.1 (by omega)
        have hat : enE.At wr b (off + k * 10) L[k] := hc k hkl
        obtain ⟨e1, he1⟩ : ∃ e1, L[k] = e1 := ⟨_, rfl⟩
        rw [he1] at hat
        have HE1 := Lib.hid he1
        have HL := Lib.hid hL
        have EA := Lib.hid eA
        clear hc hL he1
        subst eA
        have hz6 : enE.In (wr.alloc (.cells #[.int .i64 0, .int .i64 0, .int .i64 0, .int .i64 0, .int .i64 0, .int .i64 0, .int .i64 0, .int .i64 0, .int .i64 0, .string ⟨#[]⟩] 60)) wr.heap.size zeroEn := El.In.new (E := enE) wr zeroEn #[.int .i64 0, .int .i64 0, .int .i64 0, .int .i64 0, .int .i64 0, .int .i64 0, .int .i64 0, .int .i64 0, .int .i64 0, .string ⟨#[]⟩] rfl
        go_upto_region 9 with (first | (refine El.load enRow rfl _ rfl b (off + k * 10) rfl e1 hat #[.int .i64 e1.k, .int .i64 e1.d, .int .i64 e1.i, .int .i64 e1.o.C, .int .i64 e1.o.D, .int .i64 e1.o.I, .int .i64 e1.o.M, .int .i64 e1.o.K, .int .i64 e1.o.U, .string e1.o.s] rfl ?_) | (refine El.store enRow rfl _ _ rfl wr.heap.size e1 #[.int .i64 e1.k, .int .i64 e1.d, .int .i64 e1.i, .int .i64 e1.o.C, .int .i64 e1.o.D, .int .i64 e1.o.I, .int .i64 e1.o.M, .int .i64 e1.o.K, .int .i64 e1.o.U, .string e1.o.s] rfl rfl rfl zeroEn hz6 ?_) | fail)
        have hal := below_setRow (below_alloc (Below.refl wr.heap.size wr) (.cells #[.int .i64 0, .int .i64 0, .int .i64 0, .int .i64 0, .int .i64 0, .int .i64 0, .int .i64 0, .int .i64 0, .int .i64 0, .string ⟨#[]⟩] 60)) (Nat.le_refl _) #[.int .i64 e1.k, .int .i64 e1.d, .int .i64 e1.i, .int .i64 e1.o.C, .int .i64 e1.o.D, .int .i64 e1.o.I, .int .i64 e1.o.M, .int .i64 e1.o.K, .int .i64 e1.o.U, .string e1.o.s]
        have hN := hz6.set e1 #[.int .i64 e1.k, .int .i64 e1.d, .int .i64 e1.i, .int .i64 e1.o.C, .int .i64 e1.o.D, .int .i64 e1.o.I, .int .i64 e1.o.M, .int .i64 e1.o.K, .int .i64 e1.o.U, .string e1.o.s] rfl
        have hL2 := SlV.below HL.out hal
        replace hE := hE.below hal
        replace hR := hR.below hal
        replace hok := hok.below hal
        replace hB := below_then hB hal
        clear hal hz6 HL hat
        generalize (wr.alloc (.cells #[.int .i64 0, .int .i64 0, .int .i64 0, .int .i64 0, .int .i64 0, .int .i64 0, .int .i64 0, .int .i64 0, .int .i64 0, .string ⟨#[]⟩] 60)).setRow wr.heap.size #[.int .i64 e1.k, .int .i64 e1.d, .int .i64 e1.i, .int .i64 e1.o.C, .int .i64 e1.o.D, .int .i64 e1.o.I, .int .i64 e1.o.M, .int .i64 e1.o.K, .int .i64 e1.o.U, .string e1.o.s] = W5 at *
        generalize wr.heap.size = n6 at *
        have HLL := Lib.hid hL2
        clear hL2
        have c21 : W5.cell? ⟨n1, 21, none⟩ = some (.int .i64 z.mode) := hE.cell 21
        have HZM : Hid (z.v.mode = z.mode) := Lib.hid rfl
        by_cases hm : z.mode = 1
        · rw [hm] at c21
          have HM := Lib.hid hm
          clear hm
          have hdw := goF_w HWW.out (l := L) HMEM.out k
          rw [← HZ.out] at hdw
          have hk64 : k ≤ 64 := by have := HL64.out; omega
          have CE := entered_any z e1 W5 hdw.y (by have h2 : z.y.ops.length ≤ 60 + k := hdw.yl; omega) (by have h2 : z.l.length ≤ 12 + k := hdw.l; omega) (by have h2 : 0 ≤ z.pos := hdw.pos.1; have h3 : z.pos ≤ 4294967296 + (k : Nat) := hdw.pos.2; omega) (by have h2 : 1 ≤ z.inc := hdw.inc.1; have h3 : z.inc ≤ 4294967296 + (k : Nat) := hdw.inc.2; omega) (by have h2 : 0 ≤ z.late := hdw.late.1; have h3 : z.late ≤ 4294967296 + (k : Nat) := hdw.late.2; omega) hok
          clear hdw hk64
          go_wp2_with (first | (refine El.load dvRow rfl _ rfl n1 0 rfl z hE.at #[.int .i64 z.node, .int .i64 z.boot, .int .i64 z.above, .int .i64 z.pos, .int .i64 z.y.t, .int .i64 z.pos, .slice none 0 0, .int .i64 z.q.f, .int .i64 z.q.g, .slice z.qA z.q.os.length z.qc, .slice none 0 0, .slice none 0 0, .slice none 0 0, .slice none 0 0, .slice z.y.bA z.y.base.length z.y.bc, .int .i64 z.y.t, .slice z.y.oA z.y.ops.length z.y.oc, .slice z.y.uA z.y.us.length z.y.uc, .slice z.y.wA z.y.now.length z.y.wc, .slice z.cA z.l.length z.cc, .int .i64 z.inc, .int .i64 z.mode, .int .i64 z.clock, .int .i64 z.sent, .slice z.pA 0 z.pc, .int .i64 z.late] rfl ?_) | (refine El.load enRow rfl _ rfl n6 0 rfl e1 hN.at #[.int .i64 e1.k, .int .i64 e1.d, .int .i64 e1.i, .int .i64 e1.o.C, .int .i64 e1.o.D, .int .i64 e1.o.I, .int .i64 e1.o.M, .int .i64 e1.o.K, .int .i64 e1.o.U, .string e1.o.s] rfl ?_) | fail)
          refine CE.mono ?_
          rintro e w7 ⟨z', rfl, hz', hzv, hb7⟩
          replace hE := hE.below hb7
          replace hR := hR.below hb7
          replace hB := below_then hB hb7
          have HL7 := Lib.hid (SlV.below HLL.out hb7)
          have HV3 := Lib.hid (show z'.v = goF (settleD x.v f.x.t) (L.take (k + 1)) by
            rw [goF_next hkl _ (by rw [← HZ.out]; exact HM.out), HE1.out, ← HZ.out, hzv])
          clear hb7 CE c21 hN hzv HZ HM HLL
          have hgr := by_row w7 n1 #[.int .i64 z'.node, .int .i64 z'.boot, .int .i64 z'.above, .int .i64 z'.pos, .int .i64 z'.y.t, .int .i64 z'.pos, .slice none 0 0, .int .i64 z'.q.f, .int .i64 z'.q.g, .slice z'.qA z'.q.os.length z'.qc, .slice none 0 0, .slice none 0 0, .slice none 0 0, .slice none 0 0, .slice z'.y.bA z'.y.base.length z'.y.bc, .int .i64 z'.y.t, .slice z'.y.oA z'.y.ops.length z'.y.oc, .slice z'.y.uA z'.y.us.length z'.y.uc, .slice z'.y.wA z'.y.now.length z'.y.wc, .slice z'.cA z'.l.length z'.cc, .int .i64 z'.inc, .int .i64 z'.mode, .int .i64 z'.clock, .int .i64 z'.sent, .slice z'.pA 0 z'.pc, .int .i64 z'.late]
          have hl64 := HL64.out
          go_wp2_with (first | (refine El.store dvRow rfl _ _ rfl n1 z' #[.int .i64 z'.node, .int .i64 z'.boot, .int .i64 z'.above, .int .i64 z'.pos, .int .i64 z'.y.t, .int .i64 z'.pos, .slice none 0 0, .int .i64 z'.q.f, .int .i64 z'.q.g, .slice z'.qA z'.q.os.length z'.qc, .slice none 0 0, .slice none 0 0, .slice none 0 0, .slice none 0 0, .slice z'.y.bA z'.y.base.length z'.y.bc, .int .i64 z'.y.t, .slice z'.y.oA z'.y.ops.length z'.y.oc, .slice z'.y.uA z'.y.us.length z'.y.uc, .slice z'.y.wA z'.y.now.length z'.y.wc, .slice z'.cA z'.l.length z'.cc, .int .i64 z'.inc, .int .i64 z'.mode, .int .i64 z'.clock, .int .i64 z'.sent, .slice z'.pA 0 z'.pc, .int .i64 z'.late] rfl rfl rfl z hE ?_) | fail)
          go_roundw
          case rel =>
            refine ⟨k + 1, z', by omega, by go_num, HV3, hE.set z' #[.int .i64 z'.node, .int .i64 z'.boot, .int .i64 z'.above, .int .i64 z'.pos, .int .i64 z'.y.t, .int .i64 z'.pos, .slice none 0 0, .int .i64 z'.q.f, .int .i64 z'.q.g, .slice z'.qA z'.q.os.length z'.qc, .slice none 0 0, .slice none 0 0, .slice none 0 0, .slice none 0 0, .slice z'.y.bA z'.y.base.length z'.y.bc, .int .i64 z'.y.t, .slice z'.y.oA z'.y.ops.length z'.y.oc, .slice z'.y.uA z'.y.us.length z'.y.uc, .slice z'.y.wA z'.y.now.length z'.y.wc, .slice z'.cA z'.l.length z'.cc, .int .i64 z'.inc, .int .i64 z'.mode, .int .i64 z'.clock, .int .i64 z'.sent, .slice z'.pA 0 z'.pc, .int .i64 z'.late] rfl, hz'.keepB hE hgr, hR.rowN n1 #[.int .i64 z'.node, .int .i64 z'.boot, .int .i64 z'.above, .int .i64 z'.pos, .int .i64 z'.y.t, .int .i64 z'.pos, .slice none 0 0, .int .i64 z'.q.f, .int .i64 z'.q.g, .slice z'.qA z'.q.os.length z'.qc, .slice none 0 0, .slice none 0 0, .slice none 0 0, .slice none 0 0, .slice z'.y.bA z'.y.base.length z'.y.bc, .int .i64 z'.y.t, .slice z'.y.oA z'.y.ops.length z'.y.oc, .slice z'.y.uA z'.y.us.length z'.y.uc, .slice z'.y.wA z'.y.now.length z'.y.wc, .slice z'.cA z'.l.length z'.cc, .int .i64 z'.inc, .int .i64 z'.mode, .int .i64 z'.clock, .int .i64 z'.sent, .slice z'.pA 0 z'.pc, .int .i64 z'.late] e31, en_keep HL7.out hE hgr, below_setRow hB hw1 _⟩
          case measure => simp [intOf]; omega
        · have f3 : (z.mode != 1) = true := bne_iff_ne.2 hm
          have f4 : decide (z.mode = 1) = false := decide_eq_false hm
          have f5 : (z.mode == 1) = false := beq_eq_false_iff_ne.2 hm
          have HV2 := Lib.hid (show rv = z.v by rw [HVE.out, HZ.out, goF_end _ (by rw [← HZ.out]; exact hm)])
          clear hm hN HLL HZ
          go_wp2_with (first | (refine El.load dvRow rfl _ rfl n1 0 rfl z hE.at #[.int .i64 z.node, .int .i64 z.boot, .int .i64 z.above, .int .i64 z.pos, .int .i64 z.y.t, .int .i64 z.pos, .slice none 0 0, .int .i64 z.q.f, .int .i64 z.q.g, .slice z.qA z.q.os.length z.qc, .slice none 0 0, .slice none 0 0, .slice none 0 0, .slice none 0 0, .slice z.y.bA z.y.base.length z.y.bc, .int .i64 z.y.t, .slice z.y.oA z.y.ops.length z.y.oc, .slice z.y.uA z.y.us.length z.y.uc, .slice z.y.wA z.y.now.length z.y.wc, .slice z.cA z.l.length z.cc, .int .i64 z.inc, .int .i64 z.mode, .int .i64 z.clock, .int .i64 z.sent, .slice z.pA 0 z.pc, .int .i64 z.late] rfl ?_) | (refine El.store dvRow rfl _ _ rfl n3 z #[.int .i64 z.node, .int .i64 z.boot, .int .i64 z.above, .int .i64 z.pos, .int .i64 z.y.t, .int .i64 z.pos, .slice none 0 0, .int .i64 z.q.f, .int .i64 z.q.g, .slice z.qA z.q.os.length z.qc, .slice none 0 0, .slice none 0 0, .slice none 0 0, .slice none 0 0, .slice z.y.bA z.y.base.length z.y.bc, .int .i64 z.y.t, .slice z.y.oA z.y.ops.length z.y.oc, .slice z.y.uA z.y.us.length z.y.uc, .slice z.y.wA z.y.now.length z.y.wc, .slice z.cA z.l.length z.cc, .int .i64 z.inc, .int .i64 z.mode, .int .i64 z.clock, .int .i64 z.sent, .slice z.pA 0 z.pc, .int .i64 z.late] rfl rfl rfl Dw.zero hR ?_) | fail)
          refine El.ret1 dvRow (hR.set z _ rfl) rfl rfl rfl _ rfl ?_
          exact ⟨z, rfl, hok.keepB hR (by_row _ _ _), HV2.out.symm, below_setRow hB hw3 _⟩
      · obtain rfl : k = L.length := by omega
        have HV2 := Lib.hid (show rv = z.v by rw [HVE.out, HZ.out, List.take_length])
        clear hkl hk
        go_wp2_with (first | (refine El.load dvRow rfl _ rfl n1 0 rfl z hE.at #[.int .i64 z.node, .int .i64 z.boot, .int .i64 z.above, .int .i64 z.pos, .int .i64 z.y.t, .int .i64 z.pos, .slice none 0 0, .int .i64 z.q.f, .int .i64 z.q.g, .slice z.qA z.q.os.length z.qc, .slice none 0 0, .slice none 0 0, .slice none 0 0, .slice none 0 0, .slice z.y.bA z.y.base.length z.y.bc, .int .i64 z.y.t, .slice z.y.oA z.y.ops.length z.y.oc, .slice z.y.uA z.y.us.length z.y.uc, .slice z.y.wA z.y.now.length z.y.wc, .slice z.cA z.l.length z.cc, .int .i64 z.inc, .int .i64 z.mode, .int .i64 z.clock, .int .i64 z.sent, .slice z.pA 0 z.pc, .int .i64 z.late] rfl ?_) | (refine El.store dvRow rfl _ _ rfl n3 z #[.int .i64 z.node, .int .i64 z.boot, .int .i64 z.above, .int .i64 z.pos, .int .i64 z.y.t, .int .i64 z.pos, .slice none 0 0, .int .i64 z.q.f, .int .i64 z.q.g, .slice z.qA z.q.os.length z.qc, .slice none 0 0, .slice none 0 0, .slice none 0 0, .slice none 0 0, .slice z.y.bA z.y.base.length z.y.bc, .int .i64 z.y.t, .slice z.y.oA z.y.ops.length z.y.oc, .slice z.y.uA z.y.us.length z.y.uc, .slice z.y.wA z.y.now.length z.y.wc, .slice z.cA z.l.length z.cc, .int .i64 z.inc, .int .i64 z.mode, .int .i64 z.clock, .int .i64 z.sent, .slice z.pA 0 z.pc, .int .i64 z.late] rfl rfl rfl Dw.zero hR ?_) | fail)
        refine El.ret1 dvRow (hR.set z _ rfl) rfl rfl rfl _ rfl ?_
        exact ⟨z, rfl, hok.keepB hR (by_row _ _ _), HV2.out.symm, below_setRow hB hw3 _⟩
end Go.Proofs.YtdcjffajmckleaaGreatDoor

/- Paths, of the document: Path, Look. -/
namespace Go.Proofs.YtdcjffajmckleaaGreatDoor
open Go.RowKit Tre Cod Nam

/-- A list of what is shown, as it must be. -/
structure ShownL (l : List Pl) : Prop where
  nd : (l.map Pl.n).Nodup
  bh : Behind 0 l
  nz : ∀ q ∈ l, q.n ≠ 0
  sz : ∀ q ∈ l, q.s.size ≤ 37
theorem ShownL.nil : ShownL [] := ⟨List.nodup_nil, Behind.nil 0, fun q h => (by cases h), fun q h => (by cases h)⟩
/-- A node's path, by so many names. -/
def pathF (l : List Pl) : Nat → Int → ByteArray
  | 0, _ => ⟨#[]⟩
  | f + 1, n => match l.find? (fun q => decide (q.n = n)) with
    | none => ⟨#[]⟩
    | some q => pathF l f q.u ++ (⟨#[47]⟩ ++ q.s)
def pathL (l : List Pl) (n : Int) : ByteArray := pathF l l.length n
theorem nodup_at {l : List Pl} (h : (l.map Pl.n).Nodup) {j i : Nat} (hj : j < i) (hi : i < l.length) : (l[j]'(by omega)).n ≠ l[i].n := by
  have h1 := List.pairwise_iff_getElem.1 h j i (by rw [List.length_map]; omega) (by rw [List.length_map]; omega) hj
  simpa using h1
theorem find_at {l : List Pl} (h : (l.map Pl.n).Nodup) (i : Nat) (hi : i < l.length) : l.find? (fun q => decide (q.n = l[i].n)) = some l[i] := by
  rw [List.find?_eq_some_iff_append]
  refine ⟨by simp, l.take i, l.drop (i + 1), ?_, fun a ha => ?_⟩
  · rw [← List.drop_eq_getElem_cons hi, List.take_append_drop]
  · obtain ⟨j, hj, rfl⟩ := List.getElem_of_mem ha
    rw [List.length_take] at hj
    rw [List.getElem_take]
    have hne : l[j].n ≠ l[i].n := nodup_at h (by omega) hi
    simpa using hne
theorem find_no {l : List Pl} {n : Int} (h : ∀ i (hi : i < l.length), l[i].n ≠ n) : l.find? (fun q => decide (q.n = n)) = none := by
  rw [List.find?_eq_none]
  intro q hq
  obtain ⟨i, hi, rfl⟩ := List.getElem_of_mem hq
  simpa using h i hi
theorem pathF_no {l : List Pl} {n : Int} (h : ∀ i (hi : i < l.length), l[i].n ≠ n) : ∀ f, pathF l f n = ⟨#[]⟩
  | 0 => rfl
  | f + 1 => by unfold pathF; rw [find_no h]
theorem ShownL.zero {l : List Pl} (h : ShownL l) (f : Nat) : pathF l f 0 = ⟨#[]⟩ := pathF_no (fun i hi => h.nz _ (List.getElem_mem hi)) f
theorem ShownL.next {l : List Pl} (h : ShownL l) (i : Nat) (hi : i < l.length) (f : Nat) : pathF l (f + 1) l[i].n = pathF l f l[i].u ++ (⟨#[47]⟩ ++ l[i].s) := by
  conv => lhs; unfold pathF
  rw [find_at h.nd i hi]
theorem ShownL.at {l : List Pl} (h : ShownL l) : ∀ (m i : Nat) (hi : i < l.length), i ≤ m → ∀ f, i < f → pathF l f l[i].n = pathF l (i + 1) l[i].n
  | m, i, hi, him, f, hf => by
    obtain ⟨g, rfl⟩ : ∃ g, f = g + 1 := ⟨f - 1, by omega⟩
    rw [h.next i hi g, h.next i hi i]
    congr 1
    rcases h.bh i hi with e | ⟨k, hk, e⟩
    · rw [e, h.zero, h.zero]
    · rw [← e]
      cases m with
      | zero => omega
      | succ m => rw [h.at m k (by omega) (by omega) g (by omega), h.at m k (by omega) (by omega) i (by omega)]
/-- Where the walk up stands: at node 0, or at number m - 1 of the list. -/
def AtM (l : List Pl) (m : Nat) (x : Int) : Prop := (x = 0 ∧ m = 0) ∨ ∃ i, ∃ h : i < l.length, m = i + 1 ∧ l[i].n = x
theorem ShownL.up {l : List Pl} (h : ShownL l) (j : Nat) (hj : j < l.length) : ∃ m, m ≤ j ∧ AtM l m l[j].u ∧ pathF l (j + 1) l[j].n = pathF l m l[j].u ++ (⟨#[47]⟩ ++ l[j].s) := by
  rcases h.bh j hj with e | ⟨k, hk, e⟩
  · exact ⟨0, Nat.zero_le _, Or.inl ⟨e, rfl⟩, by rw [h.next j hj j, e, h.zero, h.zero]⟩
  · refine ⟨k + 1, by omega, Or.inr ⟨k, by omega, rfl, e⟩, ?_⟩
    rw [h.next j hj j, ← e, h.at j k (by omega) (by omega) j hk]
theorem ShownL.start {l : List Pl} (h : ShownL l) (n : Int) : (∃ m, AtM l m n ∧ pathL l n = pathF l m n) ∨ ((∀ i (hi : i < l.length), l[i].n ≠ n) ∧ n ≠ 0 ∧ pathL l n = ⟨#[]⟩) := by
  by_cases h0 : n = 0
  · left
    subst h0
    exact ⟨0, Or.inl ⟨rfl, rfl⟩, by unfold pathL; rw [h.zero, h.zero]⟩
  · by_cases he : ∃ i, ∃ hi : i < l.length, l[i].n = n
    · left
      obtain ⟨i, hi, e⟩ := he
      refine ⟨i + 1, Or.inr ⟨i, hi, rfl, e⟩, ?_⟩
      unfold pathL
      rw [← e, h.at i i hi (Nat.le_refl _) l.length hi]
    · right
      have hn : ∀ i (hi : i < l.length), l[i].n ≠ n := fun i hi e => he ⟨i, hi, e⟩
      exact ⟨hn, h0, pathF_no hn _⟩
end Go.Proofs.YtdcjffajmckleaaGreatDoor

/- What is shown, by a list of what is left to tell; which of those below one that have a name stands first. No call in it. -/
namespace Go.Proofs.YtdcjffajmckleaaGreatDoor
open Go.RowKit Nam Cod Tre

/-- Those right below a node, as they are shown; of the first k places. -/
def kidsK (t : List Pl) (a : Int) (k : Nat) : List Pl := ((t.take k).filter fun p => decide (p.u = a)).map (seen t)
def kidsV (t : List Pl) (a : Int) : List Pl := (t.filter fun p => decide (p.u = a)).map (seen t)
theorem kidsK_all (t : List Pl) (a : Int) : kidsK t a t.length = kidsV t a := by
  unfold kidsK kidsV; rw [List.take_length]
theorem kidsK_yes {t : List Pl} {a : Int} {k : Nat} {p : Pl} (h : k < t.length) (hp : t[k] = p) (hu : p.u = a) : kidsK t a (k + 1) = kidsK t a k ++ [seen t p] := by
  unfold kidsK
  rw [List.take_succ_eq_append_getElem h, List.filter_append, List.map_append, hp]
  simp [hu]
theorem kidsK_no {t : List Pl} {a : Int} {k : Nat} {p : Pl} (h : k < t.length) (hp : t[k] = p) (hu : ¬ p.u = a) : kidsK t a (k + 1) = kidsK t a k := by
  unfold kidsK
  rw [List.take_succ_eq_append_getElem h, List.filter_append, List.map_append, hp]
  simp [hu]
theorem kidsK_le (t : List Pl) (a : Int) (k : Nat) : (kidsK t a k).length ≤ t.length := by
  unfold kidsK
  rw [List.length_map]
  refine Nat.le_trans (List.length_filter_le _ _) ?_
  rw [List.length_take]; omega
theorem kidsV_le (t : List Pl) (a : Int) : (kidsV t a).length ≤ t.length := by
  rw [← kidsK_all]; exact kidsK_le t a _
theorem mem_kids {t : List Pl} {a : Int} {x : Pl} (h : x ∈ kidsV t a) : ∃ p ∈ t, x = seen t p ∧ p.u = a := by
  unfold kidsV at h
  obtain ⟨p, hp, rfl⟩ := List.mem_map.1 h
  rw [List.mem_filter, decide_eq_true_iff] at hp
  exact ⟨p, hp.1, rfl, hp.2⟩

/-- Those of the first k places that are below a. -/
def sibsK (t : List Pl) (a : Int) (k : Nat) : List Pl := (t.take k).filter fun p => decide (p.u = a)
theorem sibsK_yes {t : List Pl} {a : Int} {k : Nat} {p : Pl} (h : k < t.length) (hp : t[k] = p) (hu : p.u = a) : sibsK t a (k + 1) = sibsK t a k ++ [p] := by
  unfold sibsK
  rw [List.take_succ_eq_append_getElem h, List.filter_append, hp]
  simp [hu]
theorem sibsK_no {t : List Pl} {a : Int} {k : Nat} {p : Pl} (h : k < t.length) (hp : t[k] = p) (hu : ¬ p.u = a) : sibsK t a (k + 1) = sibsK t a k := by
  unfold sibsK
  rw [List.take_succ_eq_append_getElem h, List.filter_append, hp]
  simp [hu]
theorem sibsK_ahead {t : List Pl} (hs : Sorted t) {a : Int} {k : Nat} {p q : Pl} (h : k < t.length) (hp : t[k] = p) (hq : q ∈ sibsK t a k) : q.n < p.n := by
  unfold sibsK at hq
  rw [List.mem_filter] at hq
  obtain ⟨j, hj, rfl⟩ := List.getElem_of_mem hq.1
  rw [List.length_take] at hj
  rw [List.getElem_take, ← hp]
  exact List.pairwise_iff_getElem.1 (sorted_pw.1 hs) j k (by omega) h (by omega)
/-- It has its own name just if none ahead has it. -/
theorem first_sibs {t : List Pl} (hs : Sorted t) {a : Int} {k : Nat} {p : Pl} (h : k < t.length) (hp : t[k] = p) (hu : p.u = a) : firstB t p = true ↔ ∀ q ∈ sibsK t a k, q.s ≠ p.s := by
  rw [firstB_iff]
  constructor
  · intro hf q hq e
    have hlt := sibsK_ahead hs h hp hq
    unfold sibsK at hq
    rw [List.mem_filter, decide_eq_true_iff] at hq
    exact hf q (List.mem_of_mem_take hq.1) ⟨hq.2.trans hu.symm, e, hlt⟩
  · intro hf q hq ⟨e1, e2, e3⟩
    refine hf q ?_ e2
    unfold sibsK
    rw [List.mem_filter, decide_eq_true_iff]
    refine ⟨?_, e1.trans hu⟩
    obtain ⟨j, hj, rfl⟩ := List.getElem_of_mem hq
    rw [List.mem_take_iff_getElem]
    refine ⟨j, ?_, rfl⟩
    rcases Nat.lt_trichotomy j k with hjk | hjk | hjk
    · omega
    · subst hjk
      rw [hp] at e3; omega
    · have := List.pairwise_iff_getElem.1 (sorted_pw.1 hs) k j h hj hjk
      rw [hp] at this; omega

/-- All that is below a node. -/
def treeL (t : List Pl) (a : Int) : List Pl := belowL t t.length a
theorem flat_congr {α β : Type} {f g : α → List β} {l : List α} (h : ∀ x ∈ l, f x = g x) : l.flatMap f = l.flatMap g := by
  rw [List.flatMap_def, List.flatMap_def, List.map_congr_left h]
theorem belowL_deep {t : List Pl} (hs : Sorted t) : ∀ (f : Nat) (a : Int), Deep t f a → belowL t (f + 1) a = belowL t f a
  | 0, a, h => by
    rw [belowL_succ, List.filter_eq_nil_iff.2 (fun p hp => by simpa using h.zero p hp)]; rfl
  | f + 1, a, h => by
    rw [belowL_succ t (f + 1), belowL_succ t f]
    refine flat_congr fun p hp => ?_
    rw [List.mem_filter, decide_eq_true_iff] at hp
    rw [belowL_deep hs f p.n (h.next hs hp.1 hp.2)]
theorem TreeP.unfold {t : List Pl} (h : TreeP t) (a : Int) : treeL t a = (kidsV t a).flatMap fun s => s :: treeL t s.n := by
  unfold treeL kidsV
  rw [← belowL_deep h.s t.length a (deep_all h.s h.r a), belowL_succ, List.flatMap_map]
  rfl
/-- What is still to tell, where the last of them comes first. -/
def restL (t : List Pl) (l : List Pl) : List Pl := l.reverse.flatMap fun s => s :: treeL t s.n
theorem restL_nil (t : List Pl) : restL t [] = [] := rfl
theorem restL_app (t l m : List Pl) : restL t (l ++ m) = restL t m ++ restL t l := by
  unfold restL
  rw [List.reverse_append, List.flatMap_append]
theorem TreeP.start {t : List Pl} (h : TreeP t) (a : Int) : restL t ([] ++ (kidsV t a).reverse) = treeL t a := by
  rw [h.unfold a]
  unfold restL
  rw [List.nil_append, List.reverse_reverse]
theorem TreeP.tell {t : List Pl} (h : TreeP t) (l : List Pl) (s : Pl) : restL t (l ++ [s]) = s :: restL t (l ++ (kidsV t s.n).reverse) := by
  rw [restL_app, restL_app]
  show (s :: treeL t s.n ++ []) ++ restL t l = s :: (restL t (kidsV t s.n).reverse ++ restL t l)
  rw [List.append_nil, h.unfold s.n]
  unfold restL
  rw [List.reverse_reverse]; rfl
theorem restL_len (t : List Pl) : ∀ l : List Pl, l.length ≤ (restL t l).length := by
  intro l
  have h : ∀ m : List Pl, m.length ≤ (m.flatMap fun s => s :: treeL t s.n).length := by
    intro m
    induction m with
    | nil => exact Nat.le_refl _
    | cons x m ih => rw [List.flatMap_cons, List.length_append, List.length_cons, List.length_cons]; omega
  have := h l.reverse
  rw [List.length_reverse] at this
  exact this
end Go.Proofs.YtdcjffajmckleaaGreatDoor

/- What is right below a node, of the program: shown (by a map from names to nodes), below. -/
namespace Go.Proofs.YtdcjffajmckleaaGreatDoor
open Go.RowKit Tre Cod Nam Go.Maps
open Go.Lib (decDigits)

/-- What the program's Twin gives (proved where the library's Itoa is laid). -/
def TwinOk : Prop := ∀ (s : ByteArray) (n : Nat) (w : World), n < 100 → s.size ≤ 1000000 → Calls Tryz.prog 132 #[.string s, .int .i64 n] w fun e w' => e = .returned (.string (twinOf s n)) ∧ w = w'

theorem strKeyed : Keyed Tryz.prog 9 := string_keyed Tryz.underlying9
theorem zeroI (w : World) : (zeroValue 3).run Tryz.prog w = .ok (.int .i64 0) w := by kernel_rfl
abbrev keyS (s : ByteArray) : Lit := .string s.data.toList
theorem keyS_ne {s u : ByteArray} (h : s ≠ u) : keyS s ≠ keyS u := fun e => h (L_inj (by injection e))
/-- A map that has, at each name of these, the node of one of them, and nothing else. -/
structure OwnersAt (w : World) (B k : Nat) (m : List Pl) : Prop where
  ex : ∃ D : DataW Unit, w.ownsMap Tryz.prog 9 (plainElem Tryz.prog 3) B k D ∧ IsMap D ∧ ∀ s : ByteArray, ((∀ q ∈ m, q.s ≠ s) ∧ Maps.has D (keyS s) = false) ∨ ∃ q ∈ m, q.s = s ∧ Maps.has D (keyS s) = true ∧ D.atKey (keyS s) (.lit (.int .i64 0)) = .lit (.int .i64 q.n)
theorem OwnersAt.made (w : World) : OwnersAt (w.alloc (.map #[] 0)) w.heap.size 0 [] := ⟨.map [], World.ownsMap_made w _ _ _, isMap_empty, fun s => Or.inl ⟨(fun q hq => by cases hq), rfl⟩⟩
theorem OwnersAt.kept {w w' : World} {B k : Nat} {m : List Pl} {row : Option Nat} (h : OwnersAt w B k m) (hg : w.grownBy w' row) (hne : some B ≠ row) : OwnersAt w' B k m := by
  obtain ⟨D, h1, h2⟩ := h.ex
  exact ⟨D, h1.kept hg hne, h2⟩
theorem OwnersAt.below {w w' : World} {B k : Nat} {m : List Pl} (h : OwnersAt w B k m) (hb : Below w.heap.size w w') : OwnersAt w' B k m := h.kept (by_below hb none) (by simp)
theorem OwnersAt.mono {w : World} {B k k' : Nat} {m : List Pl} (h : OwnersAt w B k m) (hk : k ≤ k') : OwnersAt w B k' m := by
  obtain ⟨D, h1, h2⟩ := h.ex
  exact ⟨D, h1.mono hk, h2⟩
theorem OwnersAt.lt {w : World} {B k : Nat} {m : List Pl} (h : OwnersAt w B k m) : B < w.heap.size := by
  obtain ⟨D, h1, _⟩ := h.ex
  exact h1.lt
theorem OwnersAt.apart {w : World} {B k : Nat} {m : List Pl} (h : OwnersAt w B k m) {b o : Nat} {v : Value} (hc : w.cell? ⟨b, o, none⟩ = some v) : b ≠ B := fun e => by
  obtain ⟨D, h1, _⟩ := h.ex
  obtain ⟨es, cl, hb, _⟩ := h1
  subst e
  simp [World.cell?, hb] at hc
theorem OwnersAt.off {w : World} {B k : Nat} {m : List Pl} (h : OwnersAt w B k m) {B0 : Nat} {v : Value} {l : List Pl} (ho : seE.Own w B0 v l) : ∀ j, v.ownBlock = some j → j ≠ B := fun j ej e => by
  obtain ⟨D, h1, _⟩ := h.ex
  obtain ⟨es, cl, hb, _⟩ := h1
  unfold El.Own at ho
  rcases ho.2 with ⟨rfl, _⟩ | ⟨g, cap, cur, rfl, _, hg, _⟩
  · cases ej
  · have : g = j := Option.some.inj ej
    subst this; subst e
    rw [hb] at hg; cases hg
/-- Is the name there, and what stands at it? -/
theorem OwnersAt.ask {w : World} {B k : Nat} {m : List Pl} (h : OwnersAt w B k m) (s : ByteArray) (hs : s.size ≤ maxLen) : ∃ (v : Int) (b : Bool), (Instr.lookup 185 (.map (some B)) (.string s) true).run Tryz.prog w = .ok (.tuple #[.int .i64 v, .bool b]) w ∧ (Instr.lookup 185 (.map (some B)) (.string s) false).run Tryz.prog w = .ok (.int .i64 v) w ∧ ((b = false ∧ ∀ q ∈ m, q.s ≠ s) ∨ (b = true ∧ ∃ q ∈ m, q.s = s ∧ v = q.n)) := by
  obtain ⟨D, h1, hm, h2⟩ := h.ex
  have hkey := Go.WideMaps.keyOf_string_mk Tryz.underlying9 hs
  obtain ⟨c, hrun, hat, _⟩ := h1.lookup_int (t := 185) (e := 3) strKeyed Tryz.underlying185 Tryz.underlying3 (zeroI _) hkey
  obtain ⟨v, ps, hrun2, hv⟩ := h1.look_ok (t := 185) (e := 3) strKeyed Tryz.underlying185 (zeroI _) (plainElem_int Tryz.underlying3 (show (Lit.int .i64 0).wf = true by decide)) hkey
  obtain ⟨c2, rfl, hc2, _⟩ := plainElem_int_inv Tryz.underlying3 hv
  have e2 : c = c2 := by
    have h3 := congrArg Prod.fst hc2
    have h4 := hat.symm.trans h3
    simpa using h4
  subst e2
  refine ⟨c, _, hrun2, hrun, ?_⟩
  rcases h2 s with ⟨ha, hb⟩ | ⟨q, hq, hqs, hb, hd⟩
  · exact Or.inl ⟨hb, ha⟩
  · refine Or.inr ⟨hb, q, hq, hqs, ?_⟩
    have h4 := hat.symm.trans hd
    simpa using h4
/-- A new name. -/
theorem OwnersAt.put {w : World} {B k : Nat} {m : List Pl} (h : OwnersAt w B k m) (p : Pl) (hs : p.s.size ≤ maxLen) (hw : (Lit.int .i64 p.n).wf = true) (hk : k < maxLen) :
    ∃ w', (Instr.mapUpdate 185 (.map (some B)) (.string p.s) (.int .i64 p.n)).run Tryz.prog w = .ok () w' ∧ OwnersAt w' B (k + 1) (m ++ [p]) ∧ w.grownBy w' (some B) ∧ (Instr.lookup 185 (.map (some B)) (.string p.s) false).run Tryz.prog w' = .ok (.int .i64 p.n) w' := by
  obtain ⟨D, h1, hm, h2⟩ := h.ex
  have hkey := Go.WideMaps.keyOf_string_mk Tryz.underlying9 hs
  obtain ⟨w', hrun, ho, hg⟩ := h1.update (t := 185) (e := 3) strKeyed Tryz.underlying185 hk hkey (plainElem_int Tryz.underlying3 hw)
  obtain ⟨c, hrun2, hat, _⟩ := ho.lookup_int (t := 185) (e := 3) strKeyed Tryz.underlying185 Tryz.underlying3 (zeroI _) hkey
  have hsame := atKey_put_same (k := keyS p.s) hm (show WideAt.IsKeyLit (keyS p.s) from trivial) (.lit (.int .i64 p.n)) (.lit (.int .i64 0))
  have hc : p.n = c := by
    have h4 := hsame.symm.trans hat
    simpa using h4
  refine ⟨w', hrun, ⟨_, ho, hm.put _ _, fun s => ?_⟩, hg, by rw [hc]; exact hrun2⟩
  by_cases e : s = p.s
  · subst e
    exact Or.inr ⟨p, by simp, rfl, has_put_same hm (show WideAt.IsKeyLit (keyS p.s) from trivial) _, hsame⟩
  · rcases h2 s with ⟨ha, hb⟩ | ⟨q, hq, hqs, hb, hd⟩
    · refine Or.inl ⟨fun q hq => ?_, by rw [has_put_other (keyS_ne e)]; exact hb⟩
      rcases List.mem_append.1 hq with hq | hq
      · exact ha q hq
      · rw [List.mem_singleton] at hq
        subst hq; exact fun h => e h.symm
    · exact Or.inr ⟨q, List.mem_append_left _ hq, hqs, by rw [has_put_other (keyS_ne e)]; exact hb, by rw [atKey_put_other (keyS_ne e)]; exact hd⟩
/-- A name that is there. -/
theorem OwnersAt.same {w : World} {B k : Nat} {m : List Pl} (h : OwnersAt w B k m) {p : Pl} (hp : ∃ q ∈ m, q.s = p.s) : OwnersAt w B k (m ++ [p]) := by
  obtain ⟨D, h1, hm, h2⟩ := h.ex
  refine ⟨D, h1, hm, fun s => ?_⟩
  rcases h2 s with ⟨ha, hb⟩ | ⟨q, hq, hqs, hb, hd⟩
  · refine Or.inl ⟨fun q hq => ?_, hb⟩
    rcases List.mem_append.1 hq with hq | hq
    · exact ha q hq
    · rw [List.mem_singleton] at hq
      subst hq
      obtain ⟨q0, hq0, e0⟩ := hp
      exact fun e => ha q0 hq0 (e0.trans e)
  · exact Or.inr ⟨q, List.mem_append_left _ hq, hqs, hb, hd⟩

set_option maxRecDepth 100000 in
set_option maxHeartbeats 4000000 in
theorem shown_any (HT : TwinOk) (w : World) (B k : Nat) (m : List Pl) (p : Pl) (f : Bool) (hM : OwnersAt w B k m) (hk : k ≤ 1000) (hn : 0 ≤ p.n ∧ p.n < 64) (hs : p.s.size ≤ 1000) (hq : ∀ q ∈ m, q.n < p.n) (hf : f = true ↔ ∀ q ∈ m, q.s ≠ p.s) :
    Calls Tryz.prog 120 #[.map (some B), .agg #[.int .i64 p.n, .int .i64 p.u, .string p.s]] w fun e w' => e = .returned (.string (if f = true then p.s else twinOf p.s p.n.toNat)) ∧ OwnersAt w' B (k + 1) (m ++ [p]) ∧ w.grownBy w' (some B) := by
  obtain ⟨hn0, hn1⟩ := hn
  have hP : plE.In (w.alloc (.cells #[.int .i64 p.n, .int .i64 p.u, .string p.s] 50)) w.heap.size p := El.In.new (E := plE) w p _ rfl
  have hg0 : w.grownBy (w.alloc (.cells #[.int .i64 p.n, .int .i64 p.u, .string p.s] 50)) (some B) := World.grownBy_alloc _ _ _
  have hM0 : OwnersAt (w.alloc (.cells #[.int .i64 p.n, .int .i64 p.u, .string p.s] 50)) B k m := hM.kept (World.grownBy_alloc _ _ none) (by simp)
  have hBn : some w.heap.size ≠ some B := fun e => by have := hM.lt; have := Option.some.inj e; omega
  have hsm : p.s.size ≤ maxLen := by unfold maxLen; omega
  obtain ⟨p0, p1, p2⟩ := plIn3 hP
  obtain ⟨v, b, hr1, hr2, hb⟩ := hM0.ask p.s hsm
  cases f
  · have hyes : ∃ q ∈ m, q.s = p.s := by
      by_cases h : ∃ q ∈ m, q.s = p.s
      · exact h
      · exact absurd (hf.2 fun q hq2 e => h ⟨q, hq2, e⟩) (by simp)
    have hv : b = true ∧ (v == p.n) = false := by
      rcases hb with ⟨_, h⟩ | ⟨h1, q, hq2, _, h2⟩
      · obtain ⟨q, hq2, e⟩ := hyes
        exact absurd e (h q hq2)
      · refine ⟨h1, beq_eq_false_iff_ne.2 ?_⟩
        have := hq q hq2
        omega
    obtain ⟨rfl, hv⟩ := hv
    have HM := Lib.hid ((hM0.same hyes).mono (Nat.le_succ k))
    have HC := Lib.hid (fun wx => (by
      have h := HT p.s p.n.toNat wx (by omega) (by omega)
      rw [Int.toNat_of_nonneg (by omega)] at h
      exact h : Calls Tryz.prog 132 #[.string p.s, .int .i64 p.n] wx fun e w' => e = .returned (.string (twinOf p.s p.n.toNat)) ∧ wx = w'))
    have HG := Lib.hid hg0
    generalize twinOf p.s p.n.toNat = T at *
    clear hM hM0 hyes hb hf hq hg0 HT hP hBn
    go_enter Tryz.func120, Tryz.ntmps120
    go_wp2_with (go_at_call 132; (with_reducible refine (HC.out _).mono ?_); rintro e w1 ⟨rfl, rfl⟩)
    go_ret
    exact ⟨rfl, HM.out, HG.out⟩
  · have hno : ∀ q ∈ m, q.s ≠ p.s := hf.1 rfl
    have hv : b = false := by
      rcases hb with ⟨h, _⟩ | ⟨_, q, hq2, e, _⟩
      · exact h
      · exact absurd e (hno q hq2)
    subst hv
    obtain ⟨w9, hr3, hM9, hg9, hr4⟩ := hM0.put p hsm (WalkArith.wf_i64 (by omega)) (by unfold maxLen; omega)
    have q0 := hg9.cell p0 hBn
    have q2 := hg9.cell p2 hBn
    have HM := Lib.hid hM9
    have HG := Lib.hid (show w.grownBy w9 (some B) from ⟨hg9.os.trans hg0.os, hg9.tape.trans hg0.tape, hg9.output.trans hg0.output, Nat.le_trans hg0.size hg9.size, fun i hi hne => (hg9.block i (Nat.lt_of_lt_of_le hi hg0.size) hne).trans (hg0.block i hi hne)⟩)
    clear hM hM0 hno hb hf hq hg0 HT hP hBn hM9 hg9 hr2
    go_enter Tryz.func120, Tryz.ntmps120
    go_wp2_with fail
    go_ret
    exact ⟨rfl, HM.out, HG.out⟩
end Go.Proofs.YtdcjffajmckleaaGreatDoor
