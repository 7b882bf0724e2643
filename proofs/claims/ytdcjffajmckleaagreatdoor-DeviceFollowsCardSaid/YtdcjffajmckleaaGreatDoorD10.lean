/- Texts laid one behind the other: Rz, La, Lb, Wu, Yp. -/
import Derived.Test.YtdcjffajmckleaaGreatDoorD09
import Derived.Deep.CutRange
import Derived.Test.YtdcjffajmckleaaGreatDoorTie
import Derived.Test.YtdcjffajmckleaaGreatDoorCards
import Derived.LaidMore
import Derived.Stop.Joined
import Derived.Stop.LaidErr
import Derived.SevenTiedAt
/- The program's parent, Report, Frame, Vector, Read. -/
namespace Go.Proofs.YtdcjffajmckleaaGreatDoor
open Go.RowKit Nam Cod Tre Pst Pln

def vecO (x : Dw) : Mv := ⟨0, x.node, x.inc, x.sent, 0, 0, ⟨#[]⟩⟩
set_option maxRecDepth 100000 in
set_option maxHeartbeats 4000000 in
theorem parent_any (p : Pnw) (n : Int) (up : Int) (w : World) (hp : PlD p.p n up) (hT : inE.Sl w p.A p.p.u) :
    Calls Tryz.prog 33 #[.agg #[.slice p.A p.p.u.length p.c, .int .i64 p.p.q, .int .i64 p.p.r, .int .i64 p.p.b, .int .i64 p.p.l, .int .i64 p.p.w, .int .i64 p.p.c, .int .i64 p.p.k, .int .i64 p.p.i], .int .i64 n] w fun e w' => e = .returned (.tuple #[.int .i64 up, .bool true]) ∧ Below w.heap.size w w' := by
  obtain ⟨hn0, hu, hup⟩ := hp.up
  obtain ⟨k, rfl⟩ : ∃ k : Nat, n = (k : Int) := ⟨n.toNat, by omega⟩
  replace hu : p.p.u[k]? = some up := hu
  have hP : pnE.In (w.alloc (.cells #[.slice p.A p.p.u.length p.c, .int .i64 p.p.q, .int .i64 p.p.r, .int .i64 p.p.b, .int .i64 p.p.l, .int .i64 p.p.w, .int .i64 p.p.c, .int .i64 p.p.k, .int .i64 p.p.i] 26)) w.heap.size p := El.In.new (E := pnE) w p _ rfl
  have hB := below_alloc (Below.refl w.heap.size w) (.cells #[.slice p.A p.p.u.length p.c, .int .i64 p.p.q, .int .i64 p.p.r, .int .i64 p.p.b, .int .i64 p.p.l, .int .i64 p.p.w, .int .i64 p.p.c, .int .i64 p.p.k, .int .i64 p.p.i] 26)
  have hlt : k < p.p.u.length := by
    rcases Nat.lt_or_ge k p.p.u.length with h | h
    · exact h
    · rw [List.getElem?_eq_none h] at hu; cases hu
  obtain ⟨b, off, eA, hbw, hc⟩ := hT (by omega)
  have hcell : w.cell? ⟨b, off + k, none⟩ = some (.int .i64 up) := by
    have h := hc k hlt 0 (.int .i64 up) (by
      rw [List.getElem?_eq_getElem hlt] at hu
      rw [Option.some.inj hu]; rfl)
    rw [show off + k * inE.k + 0 = off + k from by show off + k * 1 + 0 = off + k; omega] at h
    exact h
  have hcB : (w.alloc (.cells #[.slice p.A p.p.u.length p.c, .int .i64 p.p.q, .int .i64 p.p.r, .int .i64 p.p.b, .int .i64 p.p.l, .int .i64 p.p.w, .int .i64 p.p.c, .int .i64 p.p.k, .int .i64 p.p.i] 26)).cell? ⟨b, off + k, none⟩ = some (.int .i64 up) := by rw [(bcell hB).1 _ _ hbw]; exact hcell
  have EA := Lib.hid eA
  clear eA
  go_enter Tryz.func33, Tryz.ntmps33
  go_upto_region 1 with fail
  generalize w.alloc (.cells #[.slice p.A p.p.u.length p.c, .int .i64 p.p.q, .int .i64 p.p.r, .int .i64 p.p.b, .int .i64 p.p.l, .int .i64 p.p.w, .int .i64 p.p.c, .int .i64 p.p.k, .int .i64 p.p.i] 26) = W at *
  obtain ⟨n1, hn1⟩ : ∃ n1, w.heap.size = n1 := ⟨_, rfl⟩
  rw [hn1] at hP ⊢
  obtain ⟨p0, p1, p2, p3, p4, p5, p6, p7, p8⟩ := pnIn9 hP
  have f1 : decide ((k : Int) < 0) = false := decide_eq_false (by omega)
  have f2 : decide ((p.p.u.length : Int) ≤ (k : Int)) = false := decide_eq_false (by omega)
  have f3 : decide (p.p.u.length ≤ k) = false := decide_eq_false (by omega)
  have hki : (k : Int) < (p.p.u.length : Int) := by omega
  clear hn1 hP p1 p2 p3 p4 p5 p6 p7 p8 hu hn0 hcell hc hT hup hp
  rw [EA.out] at p0
  go_wp2_with fail
  go_ret2
  exact ⟨rfl, hB⟩
set_option maxRecDepth 100000 in
set_option maxHeartbeats 4000000 in
theorem report18_any (x : Dw) (beat : Int) (w : World) : Calls Tryz.prog 44 #[.agg #[.int .i64 x.node, .int .i64 x.boot, .int .i64 x.above, .int .i64 x.pos, .int .i64 x.y.t, .int .i64 x.pos, .slice none 0 0, .int .i64 x.q.f, .int .i64 x.q.g, .slice x.qA x.q.os.length x.qc, .slice none 0 0, .slice none 0 0, .slice none 0 0, .slice none 0 0, .slice x.y.bA x.y.base.length x.y.bc, .int .i64 x.y.t, .slice x.y.oA x.y.ops.length x.y.oc, .slice x.y.uA x.y.us.length x.y.uc, .slice x.y.wA x.y.now.length x.y.wc, .slice x.cA x.l.length x.cc, .int .i64 x.inc, .int .i64 x.mode, .int .i64 x.clock, .int .i64 x.sent, .slice x.pA 0 x.pc, .int .i64 x.late], .int .i64 beat] w fun e w' => e = .returned (.agg #[.int .i64 (reportD x.v beat).d, .int .i64 (reportD x.v beat).i, .int .i64 (reportD x.v beat).b, .int .i64 (reportD x.v beat).t, .int .i64 (reportD x.v beat).m, .int .i64 (reportD x.v beat).p, .int .i64 (reportD x.v beat).c, .int .i64 (reportD x.v beat).s, .int .i64 (reportD x.v beat).k]) ∧ Below w.heap.size w w' := by
  have hE : dzE.In ((w.alloc (.cells #[.int .i64 x.node, .int .i64 x.boot, .int .i64 x.above, .int .i64 x.pos, .int .i64 x.y.t, .int .i64 x.pos, .slice none 0 0, .int .i64 x.q.f, .int .i64 x.q.g, .slice x.qA x.q.os.length x.qc, .slice none 0 0, .slice none 0 0, .slice none 0 0, .slice none 0 0, .slice x.y.bA x.y.base.length x.y.bc, .int .i64 x.y.t, .slice x.y.oA x.y.ops.length x.y.oc, .slice x.y.uA x.y.us.length x.y.uc, .slice x.y.wA x.y.now.length x.y.wc, .slice x.cA x.l.length x.cc, .int .i64 x.inc, .int .i64 x.mode, .int .i64 x.clock, .int .i64 x.sent, .slice x.pA 0 x.pc, .int .i64 x.late] 44)).alloc (.cells #[.int .i64 0, .int .i64 0, .int .i64 0, .int .i64 0, .int .i64 0, .int .i64 0, .int .i64 0, .int .i64 0, .int .i64 0] 79)) w.heap.size x.z := (El.In.new (E := dzE) w x.z _ rfl).alloc _
  have hR : rpE.In ((w.alloc (.cells #[.int .i64 x.node, .int .i64 x.boot, .int .i64 x.above, .int .i64 x.pos, .int .i64 x.y.t, .int .i64 x.pos, .slice none 0 0, .int .i64 x.q.f, .int .i64 x.q.g, .slice x.qA x.q.os.length x.qc, .slice none 0 0, .slice none 0 0, .slice none 0 0, .slice none 0 0, .slice x.y.bA x.y.base.length x.y.bc, .int .i64 x.y.t, .slice x.y.oA x.y.ops.length x.y.oc, .slice x.y.uA x.y.us.length x.y.uc, .slice x.y.wA x.y.now.length x.y.wc, .slice x.cA x.l.length x.cc, .int .i64 x.inc, .int .i64 x.mode, .int .i64 x.clock, .int .i64 x.sent, .slice x.pA 0 x.pc, .int .i64 x.late] 44)).alloc (.cells #[.int .i64 0, .int .i64 0, .int .i64 0, .int .i64 0, .int .i64 0, .int .i64 0, .int .i64 0, .int .i64 0, .int .i64 0] 79)) (w.heap.size + 1) zeroRp := by
    have h := El.In.new (E := rpE) (w.alloc (.cells #[.int .i64 x.node, .int .i64 x.boot, .int .i64 x.above, .int .i64 x.pos, .int .i64 x.y.t, .int .i64 x.pos, .slice none 0 0, .int .i64 x.q.f, .int .i64 x.q.g, .slice x.qA x.q.os.length x.qc, .slice none 0 0, .slice none 0 0, .slice none 0 0, .slice none 0 0, .slice x.y.bA x.y.base.length x.y.bc, .int .i64 x.y.t, .slice x.y.oA x.y.ops.length x.y.oc, .slice x.y.uA x.y.us.length x.y.uc, .slice x.y.wA x.y.now.length x.y.wc, .slice x.cA x.l.length x.cc, .int .i64 x.inc, .int .i64 x.mode, .int .i64 x.clock, .int .i64 x.sent, .slice x.pA 0 x.pc, .int .i64 x.late] 44)) zeroRp #[.int .i64 0, .int .i64 0, .int .i64 0, .int .i64 0, .int .i64 0, .int .i64 0, .int .i64 0, .int .i64 0, .int .i64 0] rfl
    rw [alloc_size] at h; exact h
  have hB := below_alloc (below_alloc (Below.refl w.heap.size w) (.cells #[.int .i64 x.node, .int .i64 x.boot, .int .i64 x.above, .int .i64 x.pos, .int .i64 x.y.t, .int .i64 x.pos, .slice none 0 0, .int .i64 x.q.f, .int .i64 x.q.g, .slice x.qA x.q.os.length x.qc, .slice none 0 0, .slice none 0 0, .slice none 0 0, .slice none 0 0, .slice x.y.bA x.y.base.length x.y.bc, .int .i64 x.y.t, .slice x.y.oA x.y.ops.length x.y.oc, .slice x.y.uA x.y.us.length x.y.uc, .slice x.y.wA x.y.now.length x.y.wc, .slice x.cA x.l.length x.cc, .int .i64 x.inc, .int .i64 x.mode, .int .i64 x.clock, .int .i64 x.sent, .slice x.pA 0 x.pc, .int .i64 x.late] 44)) (.cells #[.int .i64 0, .int .i64 0, .int .i64 0, .int .i64 0, .int .i64 0, .int .i64 0, .int .i64 0, .int .i64 0, .int .i64 0] 79)
  go_enter Tryz.func44, Tryz.ntmps44
  go_upto_region 1 with fail
  generalize (w.alloc (.cells #[.int .i64 x.node, .int .i64 x.boot, .int .i64 x.above, .int .i64 x.pos, .int .i64 x.y.t, .int .i64 x.pos, .slice none 0 0, .int .i64 x.q.f, .int .i64 x.q.g, .slice x.qA x.q.os.length x.qc, .slice none 0 0, .slice none 0 0, .slice none 0 0, .slice none 0 0, .slice x.y.bA x.y.base.length x.y.bc, .int .i64 x.y.t, .slice x.y.oA x.y.ops.length x.y.oc, .slice x.y.uA x.y.us.length x.y.uc, .slice x.y.wA x.y.now.length x.y.wc, .slice x.cA x.l.length x.cc, .int .i64 x.inc, .int .i64 x.mode, .int .i64 x.clock, .int .i64 x.sent, .slice x.pA 0 x.pc, .int .i64 x.late] 44)).alloc (.cells #[.int .i64 0, .int .i64 0, .int .i64 0, .int .i64 0, .int .i64 0, .int .i64 0, .int .i64 0, .int .i64 0, .int .i64 0] 79) = W at *
  obtain ⟨n1, h1⟩ : ∃ n1, w.heap.size = n1 := ⟨_, rfl⟩
  obtain ⟨n2, h2⟩ : ∃ n2, w.heap.size + 1 = n2 := ⟨_, rfl⟩
  have hw2 : w.heap.size ≤ n2 := by omega
  rw [h2] at hR ⊢
  rw [h1] at hE ⊢
  clear h1 h2
  obtain ⟨z0, z1, z2, z3, z4, z5, z7, z9, z15, z18, z19, z20, z21, z22, z23, z24, z25⟩ := dzIn hE
  replace z0 : W.cell? ⟨n1, 0, none⟩ = some (.int .i64 x.node) := z0
  replace z1 : W.cell? ⟨n1, 1, none⟩ = some (.int .i64 x.boot) := z1
  replace z5 : W.cell? ⟨n1, 5, none⟩ = some (.int .i64 x.pos) := z5
  replace z20 : W.cell? ⟨n1, 20, none⟩ = some (.int .i64 x.inc) := z20
  replace z21 : W.cell? ⟨n1, 21, none⟩ = some (.int .i64 x.mode) := z21
  replace z22 : W.cell? ⟨n1, 22, none⟩ = some (.int .i64 x.clock) := z22
  replace z23 : W.cell? ⟨n1, 23, none⟩ = some (.int .i64 x.sent) := z23
  replace z24 : W.cell? ⟨n1, 24, none⟩ = some (.slice x.pA 0 x.pc) := z24
  clear z2 z3 z4 z7 z9 z15 z18 z19 z25 hE
  go_wp2_with (first | (refine El.store rpRow rfl _ _ rfl n2 (reportD x.v beat) #[.int .i64 (reportD x.v beat).d, .int .i64 (reportD x.v beat).i, .int .i64 (reportD x.v beat).b, .int .i64 (reportD x.v beat).t, .int .i64 (reportD x.v beat).m, .int .i64 (reportD x.v beat).p, .int .i64 (reportD x.v beat).c, .int .i64 (reportD x.v beat).s, .int .i64 (reportD x.v beat).k] rfl rfl rfl zeroRp hR ?_) | fail)
  refine El.ret1 rpRow (hR.set (reportD x.v beat) _ rfl) rfl rfl rfl _ rfl ?_
  exact ⟨rfl, below_setRow hB hw2 _⟩
set_option maxRecDepth 100000 in
set_option maxHeartbeats 4000000 in
theorem read18_any (x : Dw) (w : World) (hy : PInv x.y.v) (hx : x.ok w) : Calls Tryz.prog 15 #[.agg #[.int .i64 x.node, .int .i64 x.boot, .int .i64 x.above, .int .i64 x.pos, .int .i64 x.y.t, .int .i64 x.pos, .slice none 0 0, .int .i64 x.q.f, .int .i64 x.q.g, .slice x.qA x.q.os.length x.qc, .slice none 0 0, .slice none 0 0, .slice none 0 0, .slice none 0 0, .slice x.y.bA x.y.base.length x.y.bc, .int .i64 x.y.t, .slice x.y.oA x.y.ops.length x.y.oc, .slice x.y.uA x.y.us.length x.y.uc, .slice x.y.wA x.y.now.length x.y.wc, .slice x.cA x.l.length x.cc, .int .i64 x.inc, .int .i64 x.mode, .int .i64 x.clock, .int .i64 x.sent, .slice x.pA 0 x.pc, .int .i64 x.late]] w fun e w' => ∃ (A : Option Addr) (c : Nat) (l : List Pl) (b : Bool), e = .returned (.tuple #[.slice A l.length c, .bool b]) ∧ SlV seE w' A c l ∧ ((x.mode = 1 ∧ l = showV x.y.now ∧ b = true) ∨ (x.mode ≠ 1 ∧ l = [] ∧ b = false)) ∧ Below w.heap.size w w' := by
  have ht : treeB x.y.now = true := hy.ntree
  have hlen := tree_len ht
  have CS := Lib.hid (fun (wx : World) (h : PastOk wx x.y) => pShow_any x.y.wA x.y.wc x.y.now wx (by omega) (fun p hp => by have := (tree_fit ht p hp).s; omega) h.w.1)
  have hE : dzE.In (w.alloc (.cells #[.int .i64 x.node, .int .i64 x.boot, .int .i64 x.above, .int .i64 x.pos, .int .i64 x.y.t, .int .i64 x.pos, .slice none 0 0, .int .i64 x.q.f, .int .i64 x.q.g, .slice x.qA x.q.os.length x.qc, .slice none 0 0, .slice none 0 0, .slice none 0 0, .slice none 0 0, .slice x.y.bA x.y.base.length x.y.bc, .int .i64 x.y.t, .slice x.y.oA x.y.ops.length x.y.oc, .slice x.y.uA x.y.us.length x.y.uc, .slice x.y.wA x.y.now.length x.y.wc, .slice x.cA x.l.length x.cc, .int .i64 x.inc, .int .i64 x.mode, .int .i64 x.clock, .int .i64 x.sent, .slice x.pA 0 x.pc, .int .i64 x.late] 44)) w.heap.size x.z := El.In.new (E := dzE) w x.z _ rfl
  have hB := below_alloc (Below.refl w.heap.size w) (.cells #[.int .i64 x.node, .int .i64 x.boot, .int .i64 x.above, .int .i64 x.pos, .int .i64 x.y.t, .int .i64 x.pos, .slice none 0 0, .int .i64 x.q.f, .int .i64 x.q.g, .slice x.qA x.q.os.length x.qc, .slice none 0 0, .slice none 0 0, .slice none 0 0, .slice none 0 0, .slice x.y.bA x.y.base.length x.y.bc, .int .i64 x.y.t, .slice x.y.oA x.y.ops.length x.y.oc, .slice x.y.uA x.y.us.length x.y.uc, .slice x.y.wA x.y.now.length x.y.wc, .slice x.cA x.l.length x.cc, .int .i64 x.inc, .int .i64 x.mode, .int .i64 x.clock, .int .i64 x.sent, .slice x.pA 0 x.pc, .int .i64 x.late] 44)
  have hok := hx.below hB
  clear hy hx ht hlen
  go_enter Tryz.func15, Tryz.ntmps15
  go_upto_region 1 with fail
  generalize w.alloc (.cells #[.int .i64 x.node, .int .i64 x.boot, .int .i64 x.above, .int .i64 x.pos, .int .i64 x.y.t, .int .i64 x.pos, .slice none 0 0, .int .i64 x.q.f, .int .i64 x.q.g, .slice x.qA x.q.os.length x.qc, .slice none 0 0, .slice none 0 0, .slice none 0 0, .slice none 0 0, .slice x.y.bA x.y.base.length x.y.bc, .int .i64 x.y.t, .slice x.y.oA x.y.ops.length x.y.oc, .slice x.y.uA x.y.us.length x.y.uc, .slice x.y.wA x.y.now.length x.y.wc, .slice x.cA x.l.length x.cc, .int .i64 x.inc, .int .i64 x.mode, .int .i64 x.clock, .int .i64 x.sent, .slice x.pA 0 x.pc, .int .i64 x.late] 44) = W at *
  obtain ⟨n1, h1⟩ : ∃ n1, w.heap.size = n1 := ⟨_, rfl⟩
  rw [h1] at hE ⊢
  clear h1
  have c21 : W.cell? ⟨n1, 21, none⟩ = some (.int .i64 x.mode) := hE.cell 21
  have c18 : W.cell? ⟨n1, 18, none⟩ = some (.slice x.y.wA x.y.now.length x.y.wc) := hE.cell 18
  obtain ⟨md, hmd⟩ : ∃ md, x.mode = md := ⟨_, rfl⟩
  rw [hmd] at c21
  have HMD := Lib.hid hmd
  clear hmd hE
  by_cases hm : md = 1
  · subst hm
    go_wp2_with fail
    refine (CS.out _ hok.p).mono ?_
    rintro e w2 ⟨A', c', rfl, hS, hb2⟩
    go_wp2_with fail
    go_ret2
    exact ⟨A', c', _, true, rfl, hS, Or.inl ⟨HMD.out, rfl, rfl⟩, below_then hB hb2⟩
  · have f3 : (md != 1) = true := bne_iff_ne.2 hm
    have f4 : decide (md = 1) = false := decide_eq_false hm
    have f5 : (md == 1) = false := beq_eq_false_iff_ne.2 hm
    have HM := Lib.hid hm
    clear hm
    go_wp2_with fail
    go_ret2
    exact ⟨none, 0, [], false, rfl, SlV.nil _ _, Or.inr ⟨by rw [HMD.out]; exact HM.out, rfl, rfl⟩, hB⟩
set_option maxRecDepth 100000 in
set_option maxHeartbeats 4000000 in
theorem vector18_any (x : Dw) (w : World) (hl : x.l.length ≤ 1000) (hx : x.ok w) : Calls Tryz.prog 14 #[.agg #[.int .i64 x.node, .int .i64 x.boot, .int .i64 x.above, .int .i64 x.pos, .int .i64 x.y.t, .int .i64 x.pos, .slice none 0 0, .int .i64 x.q.f, .int .i64 x.q.g, .slice x.qA x.q.os.length x.qc, .slice none 0 0, .slice none 0 0, .slice none 0 0, .slice none 0 0, .slice x.y.bA x.y.base.length x.y.bc, .int .i64 x.y.t, .slice x.y.oA x.y.ops.length x.y.oc, .slice x.y.uA x.y.us.length x.y.uc, .slice x.y.wA x.y.now.length x.y.wc, .slice x.cA x.l.length x.cc, .int .i64 x.inc, .int .i64 x.mode, .int .i64 x.clock, .int .i64 x.sent, .slice x.pA 0 x.pc, .int .i64 x.late]] w fun e w' => ∃ (A : Option Addr) (c : Nat), e = .returned (.slice A (vectorD x.v).length c) ∧ SlV cnE w' A c (vectorD x.v) ∧ Below w.heap.size w w' := by
  have CC := Lib.hid (fun (wx : World) (h : x.ok wx) => cloneCnT_any x.cA x.cc x.l wx (by omega) h.c)
  have CT := Lib.hid (fun (wx : World) (h : x.ok wx) => tallyT_any x.cA x.cc x.l ⟨1, 0, 0, vecO x⟩ wx hl h.c)
  have HVV : Hid (vectorD x.v = if 0 < x.sent ∨ 1 < x.inc then tally x.l ⟨1, 0, 0, vecO x⟩ else x.l) := Lib.hid rfl
  obtain ⟨R, hR⟩ : ∃ R, vectorD x.v = R := ⟨_, rfl⟩
  rw [hR] at HVV ⊢
  clear hR
  have hE : dzE.In (w.alloc (.cells #[.int .i64 x.node, .int .i64 x.boot, .int .i64 x.above, .int .i64 x.pos, .int .i64 x.y.t, .int .i64 x.pos, .slice none 0 0, .int .i64 x.q.f, .int .i64 x.q.g, .slice x.qA x.q.os.length x.qc, .slice none 0 0, .slice none 0 0, .slice none 0 0, .slice none 0 0, .slice x.y.bA x.y.base.length x.y.bc, .int .i64 x.y.t, .slice x.y.oA x.y.ops.length x.y.oc, .slice x.y.uA x.y.us.length x.y.uc, .slice x.y.wA x.y.now.length x.y.wc, .slice x.cA x.l.length x.cc, .int .i64 x.inc, .int .i64 x.mode, .int .i64 x.clock, .int .i64 x.sent, .slice x.pA 0 x.pc, .int .i64 x.late] 44)) w.heap.size x.z := El.In.new (E := dzE) w x.z _ rfl
  have hB := below_alloc (Below.refl w.heap.size w) (.cells #[.int .i64 x.node, .int .i64 x.boot, .int .i64 x.above, .int .i64 x.pos, .int .i64 x.y.t, .int .i64 x.pos, .slice none 0 0, .int .i64 x.q.f, .int .i64 x.q.g, .slice x.qA x.q.os.length x.qc, .slice none 0 0, .slice none 0 0, .slice none 0 0, .slice none 0 0, .slice x.y.bA x.y.base.length x.y.bc, .int .i64 x.y.t, .slice x.y.oA x.y.ops.length x.y.oc, .slice x.y.uA x.y.us.length x.y.uc, .slice x.y.wA x.y.now.length x.y.wc, .slice x.cA x.l.length x.cc, .int .i64 x.inc, .int .i64 x.mode, .int .i64 x.clock, .int .i64 x.sent, .slice x.pA 0 x.pc, .int .i64 x.late] 44)
  have hok := hx.below hB
  clear hx hl
  go_enter Tryz.func14, Tryz.ntmps14
  go_upto_region 1 with fail
  generalize w.alloc (.cells #[.int .i64 x.node, .int .i64 x.boot, .int .i64 x.above, .int .i64 x.pos, .int .i64 x.y.t, .int .i64 x.pos, .slice none 0 0, .int .i64 x.q.f, .int .i64 x.q.g, .slice x.qA x.q.os.length x.qc, .slice none 0 0, .slice none 0 0, .slice none 0 0, .slice none 0 0, .slice x.y.bA x.y.base.length x.y.bc, .int .i64 x.y.t, .slice x.y.oA x.y.ops.length x.y.oc, .slice x.y.uA x.y.us.length x.y.uc, .slice x.y.wA x.y.now.length x.y.wc, .slice x.cA x.l.length x.cc, .int .i64 x.inc, .int .i64 x.mode, .int .i64 x.clock, .int .i64 x.sent, .slice x.pA 0 x.pc, .int .i64 x.late] 44) = W at *
  obtain ⟨n1, h1⟩ : ∃ n1, w.heap.size = n1 := ⟨_, rfl⟩
  rw [h1] at hE ⊢
  clear h1
  obtain ⟨z0, z1, z2, z3, z4, z5, z7, z9, z15, z18, z19, z20, z21, z22, z23, z24, z25⟩ := dzIn hE
  replace z0 : W.cell? ⟨n1, 0, none⟩ = some (.int .i64 x.node) := z0
  replace z19 : W.cell? ⟨n1, 19, none⟩ = some (.slice x.cA x.l.length x.cc) := z19
  replace z20 : W.cell? ⟨n1, 20, none⟩ = some (.int .i64 x.inc) := z20
  replace z23 : W.cell? ⟨n1, 23, none⟩ = some (.int .i64 x.sent) := z23
  clear z1 z2 z3 z4 z5 z7 z9 z15 z18 z21 z22 z24 z25
  by_cases h : 0 < x.sent ∨ 1 < x.inc
  · have HR := Lib.hid (show R = tally x.l ⟨1, 0, 0, vecO x⟩ by rw [HVV.out, if_pos h])
    have hz5 : opE.In (W.alloc (.cells #[.int .i64 0, .int .i64 0, .int .i64 0, .int .i64 0, .int .i64 0, .int .i64 0, .string ⟨#[]⟩] 55)) W.heap.size zeroMv := El.In.new (E := opE) W zeroMv #[.int .i64 0, .int .i64 0, .int .i64 0, .int .i64 0, .int .i64 0, .int .i64 0, .string ⟨#[]⟩] rfl
    have hal := below_setRow (below_alloc (Below.refl W.heap.size W) (.cells #[.int .i64 0, .int .i64 0, .int .i64 0, .int .i64 0, .int .i64 0, .int .i64 0, .string ⟨#[]⟩] 55)) (Nat.le_refl _) #[.int .i64 (vecO x).C, .int .i64 (vecO x).D, .int .i64 (vecO x).I, .int .i64 (vecO x).M, .int .i64 (vecO x).K, .int .i64 (vecO x).U, .string (vecO x).s]
    have hM := hz5.set (vecO x) #[.int .i64 (vecO x).C, .int .i64 (vecO x).D, .int .i64 (vecO x).I, .int .i64 (vecO x).M, .int .i64 (vecO x).K, .int .i64 (vecO x).U, .string (vecO x).s] rfl
    by_cases h0 : x.sent ≤ 0
    · have f1 : decide (x.sent ≤ 0) = true := decide_eq_true h0
      have f2 : decide (x.inc ≤ 1) = false := decide_eq_false (by omega)
      clear h h0
      go_upto_region 4 with (first | (refine El.store opRow rfl _ _ rfl W.heap.size (vecO x) #[.int .i64 (vecO x).C, .int .i64 (vecO x).D, .int .i64 (vecO x).I, .int .i64 (vecO x).M, .int .i64 (vecO x).K, .int .i64 (vecO x).U, .string (vecO x).s] rfl rfl rfl zeroMv hz5 ?_) | fail)
      replace hE := hE.below hal
      replace hok := hok.below hal
      replace hB := below_then hB hal
      clear hal hz5 z0 z19 z20 z23
      generalize (W.alloc (.cells #[.int .i64 0, .int .i64 0, .int .i64 0, .int .i64 0, .int .i64 0, .int .i64 0, .string ⟨#[]⟩] 55)).setRow W.heap.size #[.int .i64 (vecO x).C, .int .i64 (vecO x).D, .int .i64 (vecO x).I, .int .i64 (vecO x).M, .int .i64 (vecO x).K, .int .i64 (vecO x).U, .string (vecO x).s] = V at *
      generalize W.heap.size = n5 at *
      have z19 : V.cell? ⟨n1, 19, none⟩ = some (.slice x.cA x.l.length x.cc) := hE.cell 19
      go_wp2_with (first | (refine El.load opRow rfl _ rfl n5 0 rfl (vecO x) hM.at #[.int .i64 (vecO x).C, .int .i64 (vecO x).D, .int .i64 (vecO x).I, .int .i64 (vecO x).M, .int .i64 (vecO x).K, .int .i64 (vecO x).U, .string (vecO x).s] rfl ?_) | fail)
      refine (CT.out _ hok).mono ?_
      rintro e w2 ⟨A', c', rfl, hS, _, hb2⟩
      go_wp2_with fail
      go_ret
      exact ⟨A', c', by rw [HR.out]; rfl, by rw [HR.out]; exact hS, below_then hB hb2⟩
    · have f1 : decide (x.sent ≤ 0) = false := decide_eq_false h0
      clear h h0
      go_upto_region 4 with (first | (refine El.store opRow rfl _ _ rfl W.heap.size (vecO x) #[.int .i64 (vecO x).C, .int .i64 (vecO x).D, .int .i64 (vecO x).I, .int .i64 (vecO x).M, .int .i64 (vecO x).K, .int .i64 (vecO x).U, .string (vecO x).s] rfl rfl rfl zeroMv hz5 ?_) | fail)
      replace hE := hE.below hal
      replace hok := hok.below hal
      replace hB := below_then hB hal
      clear hal hz5 z0 z19 z20 z23
      generalize (W.alloc (.cells #[.int .i64 0, .int .i64 0, .int .i64 0, .int .i64 0, .int .i64 0, .int .i64 0, .string ⟨#[]⟩] 55)).setRow W.heap.size #[.int .i64 (vecO x).C, .int .i64 (vecO x).D, .int .i64 (vecO x).I, .int .i64 (vecO x).M, .int .i64 (vecO x).K, .int .i64 (vecO x).U, .string (vecO x).s] = V at *
      generalize W.heap.size = n5 at *
      have z19 : V.cell? ⟨n1, 19, none⟩ = some (.slice x.cA x.l.length x.cc) := hE.cell 19
      go_wp2_with (first | (refine El.load opRow rfl _ rfl n5 0 rfl (vecO x) hM.at #[.int .i64 (vecO x).C, .int .i64 (vecO x).D, .int .i64 (vecO x).I, .int .i64 (vecO x).M, .int .i64 (vecO x).K, .int .i64 (vecO x).U, .string (vecO x).s] rfl ?_) | fail)
      refine (CT.out _ hok).mono ?_
      rintro e w2 ⟨A', c', rfl, hS, _, hb2⟩
      go_wp2_with fail
      go_ret
      exact ⟨A', c', by rw [HR.out]; rfl, by rw [HR.out]; exact hS, below_then hB hb2⟩
  · have HR := Lib.hid (show R = x.l by rw [HVV.out, if_neg h])
    have f1 : decide (x.sent ≤ 0) = true := decide_eq_true (by omega)
    have f2 : decide (x.inc ≤ 1) = true := decide_eq_true (by omega)
    clear h CT HVV
    go_wp2_with fail
    refine (CC.out _ hok).mono ?_
    rintro e w2 ⟨A', c', rfl, hS, _, hb2⟩
    go_wp2_with fail
    go_ret
    exact ⟨A', c', by rw [HR.out]; rfl, by rw [HR.out]; exact hS, below_then hB hb2⟩
end Go.Proofs.YtdcjffajmckleaaGreatDoor

/- The program's Take, Frame; what the device's functions answer. -/
namespace Go.Proofs.YtdcjffajmckleaaGreatDoor
open Go.RowKit Nam Cod Tre Pst Pln

theorem ta_boxes (p : Pnw) (x : Dw) (m : Fw) (w : World)   :
    pnE.In ((((w.alloc (.cells #[.slice p.A p.p.u.length p.c, .int .i64 p.p.q, .int .i64 p.p.r, .int .i64 p.p.b, .int .i64 p.p.l, .int .i64 p.p.w, .int .i64 p.p.c, .int .i64 p.p.k, .int .i64 p.p.i] 26)).alloc (.cells #[.int .i64 x.node, .int .i64 x.boot, .int .i64 x.above, .int .i64 x.pos, .int .i64 x.y.t, .int .i64 x.pos, .slice none 0 0, .int .i64 x.q.f, .int .i64 x.q.g, .slice x.qA x.q.os.length x.qc, .slice none 0 0, .slice none 0 0, .slice none 0 0, .slice none 0 0, .slice x.y.bA x.y.base.length x.y.bc, .int .i64 x.y.t, .slice x.y.oA x.y.ops.length x.y.oc, .slice x.y.uA x.y.us.length x.y.uc, .slice x.y.wA x.y.now.length x.y.wc, .slice x.cA x.l.length x.cc, .int .i64 x.inc, .int .i64 x.mode, .int .i64 x.clock, .int .i64 x.sent, .slice x.pA 0 x.pc, .int .i64 x.late] 44)).alloc (.cells #[.int .i64 m.x.a, .int .i64 m.x.b, .int .i64 m.x.boot, .int .i64 m.x.first, .slice m.oA m.x.os.length m.oc, .int .i64 m.x.pos, .slice m.rA m.x.rs.length m.rc, .int .i64 m.x.start, .slice m.eA m.x.es.length m.ec, .int .i64 m.x.ack, .int .i64 m.x.grant, .int .i64 m.x.s, .int .i64 m.x.t, .slice m.gA m.x.gs.length m.gc] 65)).alloc (.cells #[.int .i64 0, .int .i64 0, .int .i64 0, .int .i64 0, .int .i64 0, .int .i64 0, .slice none 0 0, .int .i64 0, .int .i64 0, .slice none 0 0, .slice none 0 0, .slice none 0 0, .slice none 0 0, .slice none 0 0, .slice none 0 0, .int .i64 0, .slice none 0 0, .slice none 0 0, .slice none 0 0, .slice none 0 0, .int .i64 0, .int .i64 0, .int .i64 0, .int .i64 0, .slice none 0 0, .int .i64 0] 44)) w.heap.size p ∧ dzE.In ((((w.alloc (.cells #[.slice p.A p.p.u.length p.c, .int .i64 p.p.q, .int .i64 p.p.r, .int .i64 p.p.b, .int .i64 p.p.l, .int .i64 p.p.w, .int .i64 p.p.c, .int .i64 p.p.k, .int .i64 p.p.i] 26)).alloc (.cells #[.int .i64 x.node, .int .i64 x.boot, .int .i64 x.above, .int .i64 x.pos, .int .i64 x.y.t, .int .i64 x.pos, .slice none 0 0, .int .i64 x.q.f, .int .i64 x.q.g, .slice x.qA x.q.os.length x.qc, .slice none 0 0, .slice none 0 0, .slice none 0 0, .slice none 0 0, .slice x.y.bA x.y.base.length x.y.bc, .int .i64 x.y.t, .slice x.y.oA x.y.ops.length x.y.oc, .slice x.y.uA x.y.us.length x.y.uc, .slice x.y.wA x.y.now.length x.y.wc, .slice x.cA x.l.length x.cc, .int .i64 x.inc, .int .i64 x.mode, .int .i64 x.clock, .int .i64 x.sent, .slice x.pA 0 x.pc, .int .i64 x.late] 44)).alloc (.cells #[.int .i64 m.x.a, .int .i64 m.x.b, .int .i64 m.x.boot, .int .i64 m.x.first, .slice m.oA m.x.os.length m.oc, .int .i64 m.x.pos, .slice m.rA m.x.rs.length m.rc, .int .i64 m.x.start, .slice m.eA m.x.es.length m.ec, .int .i64 m.x.ack, .int .i64 m.x.grant, .int .i64 m.x.s, .int .i64 m.x.t, .slice m.gA m.x.gs.length m.gc] 65)).alloc (.cells #[.int .i64 0, .int .i64 0, .int .i64 0, .int .i64 0, .int .i64 0, .int .i64 0, .slice none 0 0, .int .i64 0, .int .i64 0, .slice none 0 0, .slice none 0 0, .slice none 0 0, .slice none 0 0, .slice none 0 0, .slice none 0 0, .int .i64 0, .slice none 0 0, .slice none 0 0, .slice none 0 0, .slice none 0 0, .int .i64 0, .int .i64 0, .int .i64 0, .int .i64 0, .slice none 0 0, .int .i64 0] 44)) (w.heap.size + 1) x.z ∧ frE.In ((((w.alloc (.cells #[.slice p.A p.p.u.length p.c, .int .i64 p.p.q, .int .i64 p.p.r, .int .i64 p.p.b, .int .i64 p.p.l, .int .i64 p.p.w, .int .i64 p.p.c, .int .i64 p.p.k, .int .i64 p.p.i] 26)).alloc (.cells #[.int .i64 x.node, .int .i64 x.boot, .int .i64 x.above, .int .i64 x.pos, .int .i64 x.y.t, .int .i64 x.pos, .slice none 0 0, .int .i64 x.q.f, .int .i64 x.q.g, .slice x.qA x.q.os.length x.qc, .slice none 0 0, .slice none 0 0, .slice none 0 0, .slice none 0 0, .slice x.y.bA x.y.base.length x.y.bc, .int .i64 x.y.t, .slice x.y.oA x.y.ops.length x.y.oc, .slice x.y.uA x.y.us.length x.y.uc, .slice x.y.wA x.y.now.length x.y.wc, .slice x.cA x.l.length x.cc, .int .i64 x.inc, .int .i64 x.mode, .int .i64 x.clock, .int .i64 x.sent, .slice x.pA 0 x.pc, .int .i64 x.late] 44)).alloc (.cells #[.int .i64 m.x.a, .int .i64 m.x.b, .int .i64 m.x.boot, .int .i64 m.x.first, .slice m.oA m.x.os.length m.oc, .int .i64 m.x.pos, .slice m.rA m.x.rs.length m.rc, .int .i64 m.x.start, .slice m.eA m.x.es.length m.ec, .int .i64 m.x.ack, .int .i64 m.x.grant, .int .i64 m.x.s, .int .i64 m.x.t, .slice m.gA m.x.gs.length m.gc] 65)).alloc (.cells #[.int .i64 0, .int .i64 0, .int .i64 0, .int .i64 0, .int .i64 0, .int .i64 0, .slice none 0 0, .int .i64 0, .int .i64 0, .slice none 0 0, .slice none 0 0, .slice none 0 0, .slice none 0 0, .slice none 0 0, .slice none 0 0, .int .i64 0, .slice none 0 0, .slice none 0 0, .slice none 0 0, .slice none 0 0, .int .i64 0, .int .i64 0, .int .i64 0, .int .i64 0, .slice none 0 0, .int .i64 0] 44)) (w.heap.size + 2) m ∧ dvE.In ((((w.alloc (.cells #[.slice p.A p.p.u.length p.c, .int .i64 p.p.q, .int .i64 p.p.r, .int .i64 p.p.b, .int .i64 p.p.l, .int .i64 p.p.w, .int .i64 p.p.c, .int .i64 p.p.k, .int .i64 p.p.i] 26)).alloc (.cells #[.int .i64 x.node, .int .i64 x.boot, .int .i64 x.above, .int .i64 x.pos, .int .i64 x.y.t, .int .i64 x.pos, .slice none 0 0, .int .i64 x.q.f, .int .i64 x.q.g, .slice x.qA x.q.os.length x.qc, .slice none 0 0, .slice none 0 0, .slice none 0 0, .slice none 0 0, .slice x.y.bA x.y.base.length x.y.bc, .int .i64 x.y.t, .slice x.y.oA x.y.ops.length x.y.oc, .slice x.y.uA x.y.us.length x.y.uc, .slice x.y.wA x.y.now.length x.y.wc, .slice x.cA x.l.length x.cc, .int .i64 x.inc, .int .i64 x.mode, .int .i64 x.clock, .int .i64 x.sent, .slice x.pA 0 x.pc, .int .i64 x.late] 44)).alloc (.cells #[.int .i64 m.x.a, .int .i64 m.x.b, .int .i64 m.x.boot, .int .i64 m.x.first, .slice m.oA m.x.os.length m.oc, .int .i64 m.x.pos, .slice m.rA m.x.rs.length m.rc, .int .i64 m.x.start, .slice m.eA m.x.es.length m.ec, .int .i64 m.x.ack, .int .i64 m.x.grant, .int .i64 m.x.s, .int .i64 m.x.t, .slice m.gA m.x.gs.length m.gc] 65)).alloc (.cells #[.int .i64 0, .int .i64 0, .int .i64 0, .int .i64 0, .int .i64 0, .int .i64 0, .slice none 0 0, .int .i64 0, .int .i64 0, .slice none 0 0, .slice none 0 0, .slice none 0 0, .slice none 0 0, .slice none 0 0, .slice none 0 0, .int .i64 0, .slice none 0 0, .slice none 0 0, .slice none 0 0, .slice none 0 0, .int .i64 0, .int .i64 0, .int .i64 0, .int .i64 0, .slice none 0 0, .int .i64 0] 44)) (w.heap.size + 3) Dw.zero ∧ Below w.heap.size w ((((w.alloc (.cells #[.slice p.A p.p.u.length p.c, .int .i64 p.p.q, .int .i64 p.p.r, .int .i64 p.p.b, .int .i64 p.p.l, .int .i64 p.p.w, .int .i64 p.p.c, .int .i64 p.p.k, .int .i64 p.p.i] 26)).alloc (.cells #[.int .i64 x.node, .int .i64 x.boot, .int .i64 x.above, .int .i64 x.pos, .int .i64 x.y.t, .int .i64 x.pos, .slice none 0 0, .int .i64 x.q.f, .int .i64 x.q.g, .slice x.qA x.q.os.length x.qc, .slice none 0 0, .slice none 0 0, .slice none 0 0, .slice none 0 0, .slice x.y.bA x.y.base.length x.y.bc, .int .i64 x.y.t, .slice x.y.oA x.y.ops.length x.y.oc, .slice x.y.uA x.y.us.length x.y.uc, .slice x.y.wA x.y.now.length x.y.wc, .slice x.cA x.l.length x.cc, .int .i64 x.inc, .int .i64 x.mode, .int .i64 x.clock, .int .i64 x.sent, .slice x.pA 0 x.pc, .int .i64 x.late] 44)).alloc (.cells #[.int .i64 m.x.a, .int .i64 m.x.b, .int .i64 m.x.boot, .int .i64 m.x.first, .slice m.oA m.x.os.length m.oc, .int .i64 m.x.pos, .slice m.rA m.x.rs.length m.rc, .int .i64 m.x.start, .slice m.eA m.x.es.length m.ec, .int .i64 m.x.ack, .int .i64 m.x.grant, .int .i64 m.x.s, .int .i64 m.x.t, .slice m.gA m.x.gs.length m.gc] 65)).alloc (.cells #[.int .i64 0, .int .i64 0, .int .i64 0, .int .i64 0, .int .i64 0, .int .i64 0, .slice none 0 0, .int .i64 0, .int .i64 0, .slice none 0 0, .slice none 0 0, .slice none 0 0, .slice none 0 0, .slice none 0 0, .slice none 0 0, .int .i64 0, .slice none 0 0, .slice none 0 0, .slice none 0 0, .slice none 0 0, .int .i64 0, .int .i64 0, .int .i64 0, .int .i64 0, .slice none 0 0, .int .i64 0] 44)) := by
  have b0 := below_alloc (Below.refl w.heap.size w) (.cells #[.slice p.A p.p.u.length p.c, .int .i64 p.p.q, .int .i64 p.p.r, .int .i64 p.p.b, .int .i64 p.p.l, .int .i64 p.p.w, .int .i64 p.p.c, .int .i64 p.p.k, .int .i64 p.p.i] 26)
  have b1 := below_alloc (Below.refl (w.alloc (.cells #[.slice p.A p.p.u.length p.c, .int .i64 p.p.q, .int .i64 p.p.r, .int .i64 p.p.b, .int .i64 p.p.l, .int .i64 p.p.w, .int .i64 p.p.c, .int .i64 p.p.k, .int .i64 p.p.i] 26)).heap.size (w.alloc (.cells #[.slice p.A p.p.u.length p.c, .int .i64 p.p.q, .int .i64 p.p.r, .int .i64 p.p.b, .int .i64 p.p.l, .int .i64 p.p.w, .int .i64 p.p.c, .int .i64 p.p.k, .int .i64 p.p.i] 26))) (.cells #[.int .i64 x.node, .int .i64 x.boot, .int .i64 x.above, .int .i64 x.pos, .int .i64 x.y.t, .int .i64 x.pos, .slice none 0 0, .int .i64 x.q.f, .int .i64 x.q.g, .slice x.qA x.q.os.length x.qc, .slice none 0 0, .slice none 0 0, .slice none 0 0, .slice none 0 0, .slice x.y.bA x.y.base.length x.y.bc, .int .i64 x.y.t, .slice x.y.oA x.y.ops.length x.y.oc, .slice x.y.uA x.y.us.length x.y.uc, .slice x.y.wA x.y.now.length x.y.wc, .slice x.cA x.l.length x.cc, .int .i64 x.inc, .int .i64 x.mode, .int .i64 x.clock, .int .i64 x.sent, .slice x.pA 0 x.pc, .int .i64 x.late] 44)
  have b2 := below_alloc (Below.refl ((w.alloc (.cells #[.slice p.A p.p.u.length p.c, .int .i64 p.p.q, .int .i64 p.p.r, .int .i64 p.p.b, .int .i64 p.p.l, .int .i64 p.p.w, .int .i64 p.p.c, .int .i64 p.p.k, .int .i64 p.p.i] 26)).alloc (.cells #[.int .i64 x.node, .int .i64 x.boot, .int .i64 x.above, .int .i64 x.pos, .int .i64 x.y.t, .int .i64 x.pos, .slice none 0 0, .int .i64 x.q.f, .int .i64 x.q.g, .slice x.qA x.q.os.length x.qc, .slice none 0 0, .slice none 0 0, .slice none 0 0, .slice none 0 0, .slice x.y.bA x.y.base.length x.y.bc, .int .i64 x.y.t, .slice x.y.oA x.y.ops.length x.y.oc, .slice x.y.uA x.y.us.length x.y.uc, .slice x.y.wA x.y.now.length x.y.wc, .slice x.cA x.l.length x.cc, .int .i64 x.inc, .int .i64 x.mode, .int .i64 x.clock, .int .i64 x.sent, .slice x.pA 0 x.pc, .int .i64 x.late] 44)).heap.size ((w.alloc (.cells #[.slice p.A p.p.u.length p.c, .int .i64 p.p.q, .int .i64 p.p.r, .int .i64 p.p.b, .int .i64 p.p.l, .int .i64 p.p.w, .int .i64 p.p.c, .int .i64 p.p.k, .int .i64 p.p.i] 26)).alloc (.cells #[.int .i64 x.node, .int .i64 x.boot, .int .i64 x.above, .int .i64 x.pos, .int .i64 x.y.t, .int .i64 x.pos, .slice none 0 0, .int .i64 x.q.f, .int .i64 x.q.g, .slice x.qA x.q.os.length x.qc, .slice none 0 0, .slice none 0 0, .slice none 0 0, .slice none 0 0, .slice x.y.bA x.y.base.length x.y.bc, .int .i64 x.y.t, .slice x.y.oA x.y.ops.length x.y.oc, .slice x.y.uA x.y.us.length x.y.uc, .slice x.y.wA x.y.now.length x.y.wc, .slice x.cA x.l.length x.cc, .int .i64 x.inc, .int .i64 x.mode, .int .i64 x.clock, .int .i64 x.sent, .slice x.pA 0 x.pc, .int .i64 x.late] 44))) (.cells #[.int .i64 m.x.a, .int .i64 m.x.b, .int .i64 m.x.boot, .int .i64 m.x.first, .slice m.oA m.x.os.length m.oc, .int .i64 m.x.pos, .slice m.rA m.x.rs.length m.rc, .int .i64 m.x.start, .slice m.eA m.x.es.length m.ec, .int .i64 m.x.ack, .int .i64 m.x.grant, .int .i64 m.x.s, .int .i64 m.x.t, .slice m.gA m.x.gs.length m.gc] 65)
  have b3 := below_alloc (Below.refl (((w.alloc (.cells #[.slice p.A p.p.u.length p.c, .int .i64 p.p.q, .int .i64 p.p.r, .int .i64 p.p.b, .int .i64 p.p.l, .int .i64 p.p.w, .int .i64 p.p.c, .int .i64 p.p.k, .int .i64 p.p.i] 26)).alloc (.cells #[.int .i64 x.node, .int .i64 x.boot, .int .i64 x.above, .int .i64 x.pos, .int .i64 x.y.t, .int .i64 x.pos, .slice none 0 0, .int .i64 x.q.f, .int .i64 x.q.g, .slice x.qA x.q.os.length x.qc, .slice none 0 0, .slice none 0 0, .slice none 0 0, .slice none 0 0, .slice x.y.bA x.y.base.length x.y.bc, .int .i64 x.y.t, .slice x.y.oA x.y.ops.length x.y.oc, .slice x.y.uA x.y.us.length x.y.uc, .slice x.y.wA x.y.now.length x.y.wc, .slice x.cA x.l.length x.cc, .int .i64 x.inc, .int .i64 x.mode, .int .i64 x.clock, .int .i64 x.sent, .slice x.pA 0 x.pc, .int .i64 x.late] 44)).alloc (.cells #[.int .i64 m.x.a, .int .i64 m.x.b, .int .i64 m.x.boot, .int .i64 m.x.first, .slice m.oA m.x.os.length m.oc, .int .i64 m.x.pos, .slice m.rA m.x.rs.length m.rc, .int .i64 m.x.start, .slice m.eA m.x.es.length m.ec, .int .i64 m.x.ack, .int .i64 m.x.grant, .int .i64 m.x.s, .int .i64 m.x.t, .slice m.gA m.x.gs.length m.gc] 65)).heap.size (((w.alloc (.cells #[.slice p.A p.p.u.length p.c, .int .i64 p.p.q, .int .i64 p.p.r, .int .i64 p.p.b, .int .i64 p.p.l, .int .i64 p.p.w, .int .i64 p.p.c, .int .i64 p.p.k, .int .i64 p.p.i] 26)).alloc (.cells #[.int .i64 x.node, .int .i64 x.boot, .int .i64 x.above, .int .i64 x.pos, .int .i64 x.y.t, .int .i64 x.pos, .slice none 0 0, .int .i64 x.q.f, .int .i64 x.q.g, .slice x.qA x.q.os.length x.qc, .slice none 0 0, .slice none 0 0, .slice none 0 0, .slice none 0 0, .slice x.y.bA x.y.base.length x.y.bc, .int .i64 x.y.t, .slice x.y.oA x.y.ops.length x.y.oc, .slice x.y.uA x.y.us.length x.y.uc, .slice x.y.wA x.y.now.length x.y.wc, .slice x.cA x.l.length x.cc, .int .i64 x.inc, .int .i64 x.mode, .int .i64 x.clock, .int .i64 x.sent, .slice x.pA 0 x.pc, .int .i64 x.late] 44)).alloc (.cells #[.int .i64 m.x.a, .int .i64 m.x.b, .int .i64 m.x.boot, .int .i64 m.x.first, .slice m.oA m.x.os.length m.oc, .int .i64 m.x.pos, .slice m.rA m.x.rs.length m.rc, .int .i64 m.x.start, .slice m.eA m.x.es.length m.ec, .int .i64 m.x.ack, .int .i64 m.x.grant, .int .i64 m.x.s, .int .i64 m.x.t, .slice m.gA m.x.gs.length m.gc] 65))) (.cells #[.int .i64 0, .int .i64 0, .int .i64 0, .int .i64 0, .int .i64 0, .int .i64 0, .slice none 0 0, .int .i64 0, .int .i64 0, .slice none 0 0, .slice none 0 0, .slice none 0 0, .slice none 0 0, .slice none 0 0, .slice none 0 0, .int .i64 0, .slice none 0 0, .slice none 0 0, .slice none 0 0, .slice none 0 0, .int .i64 0, .int .i64 0, .int .i64 0, .int .i64 0, .slice none 0 0, .int .i64 0] 44)
  have i0 : pnE.In (w.alloc (.cells #[.slice p.A p.p.u.length p.c, .int .i64 p.p.q, .int .i64 p.p.r, .int .i64 p.p.b, .int .i64 p.p.l, .int .i64 p.p.w, .int .i64 p.p.c, .int .i64 p.p.k, .int .i64 p.p.i] 26)) w.heap.size p := El.In.new (E := pnE) w p _ rfl
  have i1 : dzE.In ((w.alloc (.cells #[.slice p.A p.p.u.length p.c, .int .i64 p.p.q, .int .i64 p.p.r, .int .i64 p.p.b, .int .i64 p.p.l, .int .i64 p.p.w, .int .i64 p.p.c, .int .i64 p.p.k, .int .i64 p.p.i] 26)).alloc (.cells #[.int .i64 x.node, .int .i64 x.boot, .int .i64 x.above, .int .i64 x.pos, .int .i64 x.y.t, .int .i64 x.pos, .slice none 0 0, .int .i64 x.q.f, .int .i64 x.q.g, .slice x.qA x.q.os.length x.qc, .slice none 0 0, .slice none 0 0, .slice none 0 0, .slice none 0 0, .slice x.y.bA x.y.base.length x.y.bc, .int .i64 x.y.t, .slice x.y.oA x.y.ops.length x.y.oc, .slice x.y.uA x.y.us.length x.y.uc, .slice x.y.wA x.y.now.length x.y.wc, .slice x.cA x.l.length x.cc, .int .i64 x.inc, .int .i64 x.mode, .int .i64 x.clock, .int .i64 x.sent, .slice x.pA 0 x.pc, .int .i64 x.late] 44)) (w.alloc (.cells #[.slice p.A p.p.u.length p.c, .int .i64 p.p.q, .int .i64 p.p.r, .int .i64 p.p.b, .int .i64 p.p.l, .int .i64 p.p.w, .int .i64 p.p.c, .int .i64 p.p.k, .int .i64 p.p.i] 26)).heap.size x.z := El.In.new (E := dzE) _ x.z _ rfl
  have i2 : frE.In (((w.alloc (.cells #[.slice p.A p.p.u.length p.c, .int .i64 p.p.q, .int .i64 p.p.r, .int .i64 p.p.b, .int .i64 p.p.l, .int .i64 p.p.w, .int .i64 p.p.c, .int .i64 p.p.k, .int .i64 p.p.i] 26)).alloc (.cells #[.int .i64 x.node, .int .i64 x.boot, .int .i64 x.above, .int .i64 x.pos, .int .i64 x.y.t, .int .i64 x.pos, .slice none 0 0, .int .i64 x.q.f, .int .i64 x.q.g, .slice x.qA x.q.os.length x.qc, .slice none 0 0, .slice none 0 0, .slice none 0 0, .slice none 0 0, .slice x.y.bA x.y.base.length x.y.bc, .int .i64 x.y.t, .slice x.y.oA x.y.ops.length x.y.oc, .slice x.y.uA x.y.us.length x.y.uc, .slice x.y.wA x.y.now.length x.y.wc, .slice x.cA x.l.length x.cc, .int .i64 x.inc, .int .i64 x.mode, .int .i64 x.clock, .int .i64 x.sent, .slice x.pA 0 x.pc, .int .i64 x.late] 44)).alloc (.cells #[.int .i64 m.x.a, .int .i64 m.x.b, .int .i64 m.x.boot, .int .i64 m.x.first, .slice m.oA m.x.os.length m.oc, .int .i64 m.x.pos, .slice m.rA m.x.rs.length m.rc, .int .i64 m.x.start, .slice m.eA m.x.es.length m.ec, .int .i64 m.x.ack, .int .i64 m.x.grant, .int .i64 m.x.s, .int .i64 m.x.t, .slice m.gA m.x.gs.length m.gc] 65)) ((w.alloc (.cells #[.slice p.A p.p.u.length p.c, .int .i64 p.p.q, .int .i64 p.p.r, .int .i64 p.p.b, .int .i64 p.p.l, .int .i64 p.p.w, .int .i64 p.p.c, .int .i64 p.p.k, .int .i64 p.p.i] 26)).alloc (.cells #[.int .i64 x.node, .int .i64 x.boot, .int .i64 x.above, .int .i64 x.pos, .int .i64 x.y.t, .int .i64 x.pos, .slice none 0 0, .int .i64 x.q.f, .int .i64 x.q.g, .slice x.qA x.q.os.length x.qc, .slice none 0 0, .slice none 0 0, .slice none 0 0, .slice none 0 0, .slice x.y.bA x.y.base.length x.y.bc, .int .i64 x.y.t, .slice x.y.oA x.y.ops.length x.y.oc, .slice x.y.uA x.y.us.length x.y.uc, .slice x.y.wA x.y.now.length x.y.wc, .slice x.cA x.l.length x.cc, .int .i64 x.inc, .int .i64 x.mode, .int .i64 x.clock, .int .i64 x.sent, .slice x.pA 0 x.pc, .int .i64 x.late] 44)).heap.size m := El.In.new (E := frE) _ m _ rfl
  have i3 : dvE.In ((((w.alloc (.cells #[.slice p.A p.p.u.length p.c, .int .i64 p.p.q, .int .i64 p.p.r, .int .i64 p.p.b, .int .i64 p.p.l, .int .i64 p.p.w, .int .i64 p.p.c, .int .i64 p.p.k, .int .i64 p.p.i] 26)).alloc (.cells #[.int .i64 x.node, .int .i64 x.boot, .int .i64 x.above, .int .i64 x.pos, .int .i64 x.y.t, .int .i64 x.pos, .slice none 0 0, .int .i64 x.q.f, .int .i64 x.q.g, .slice x.qA x.q.os.length x.qc, .slice none 0 0, .slice none 0 0, .slice none 0 0, .slice none 0 0, .slice x.y.bA x.y.base.length x.y.bc, .int .i64 x.y.t, .slice x.y.oA x.y.ops.length x.y.oc, .slice x.y.uA x.y.us.length x.y.uc, .slice x.y.wA x.y.now.length x.y.wc, .slice x.cA x.l.length x.cc, .int .i64 x.inc, .int .i64 x.mode, .int .i64 x.clock, .int .i64 x.sent, .slice x.pA 0 x.pc, .int .i64 x.late] 44)).alloc (.cells #[.int .i64 m.x.a, .int .i64 m.x.b, .int .i64 m.x.boot, .int .i64 m.x.first, .slice m.oA m.x.os.length m.oc, .int .i64 m.x.pos, .slice m.rA m.x.rs.length m.rc, .int .i64 m.x.start, .slice m.eA m.x.es.length m.ec, .int .i64 m.x.ack, .int .i64 m.x.grant, .int .i64 m.x.s, .int .i64 m.x.t, .slice m.gA m.x.gs.length m.gc] 65)).alloc (.cells #[.int .i64 0, .int .i64 0, .int .i64 0, .int .i64 0, .int .i64 0, .int .i64 0, .slice none 0 0, .int .i64 0, .int .i64 0, .slice none 0 0, .slice none 0 0, .slice none 0 0, .slice none 0 0, .slice none 0 0, .slice none 0 0, .int .i64 0, .slice none 0 0, .slice none 0 0, .slice none 0 0, .slice none 0 0, .int .i64 0, .int .i64 0, .int .i64 0, .int .i64 0, .slice none 0 0, .int .i64 0] 44)) (((w.alloc (.cells #[.slice p.A p.p.u.length p.c, .int .i64 p.p.q, .int .i64 p.p.r, .int .i64 p.p.b, .int .i64 p.p.l, .int .i64 p.p.w, .int .i64 p.p.c, .int .i64 p.p.k, .int .i64 p.p.i] 26)).alloc (.cells #[.int .i64 x.node, .int .i64 x.boot, .int .i64 x.above, .int .i64 x.pos, .int .i64 x.y.t, .int .i64 x.pos, .slice none 0 0, .int .i64 x.q.f, .int .i64 x.q.g, .slice x.qA x.q.os.length x.qc, .slice none 0 0, .slice none 0 0, .slice none 0 0, .slice none 0 0, .slice x.y.bA x.y.base.length x.y.bc, .int .i64 x.y.t, .slice x.y.oA x.y.ops.length x.y.oc, .slice x.y.uA x.y.us.length x.y.uc, .slice x.y.wA x.y.now.length x.y.wc, .slice x.cA x.l.length x.cc, .int .i64 x.inc, .int .i64 x.mode, .int .i64 x.clock, .int .i64 x.sent, .slice x.pA 0 x.pc, .int .i64 x.late] 44)).alloc (.cells #[.int .i64 m.x.a, .int .i64 m.x.b, .int .i64 m.x.boot, .int .i64 m.x.first, .slice m.oA m.x.os.length m.oc, .int .i64 m.x.pos, .slice m.rA m.x.rs.length m.rc, .int .i64 m.x.start, .slice m.eA m.x.es.length m.ec, .int .i64 m.x.ack, .int .i64 m.x.grant, .int .i64 m.x.s, .int .i64 m.x.t, .slice m.gA m.x.gs.length m.gc] 65)).heap.size Dw.zero := El.In.new (E := dvE) _ Dw.zero _ rfl
  rw [alloc_size, alloc_size, alloc_size] at i3
  rw [alloc_size, alloc_size] at i2
  rw [alloc_size] at i1
  exact ⟨((i0.below b1).below b2).below b3, (i1.below b2).below b3, i2.below b3, i3, below_then (below_then (below_then b0 b1) b2) b3⟩
def MergeQ (F : Qw → Qw → Act) (R : Qw → Qw → World → Prop) : Exit → Act → World → Prop
  | .normal, a, w => ∃ x y, a = F x y ∧ R x y w
  | _, _, _ => False
theorem wp_mergeQ {P : Program} {c : Code} {Q : Exit → Act → World → Prop} {a : Act} {w : World} (R : Qw → Qw → World → Prop) {F : Qw → Qw → Act} (h : c.wp P (MergeQ F R) a w) (k : ∀ x y w, R x y w → Q .normal (F x y) w) : c.wp P Q a w :=
  Code.wp_mono (fun e a w h => by
    cases e with
    | normal => obtain ⟨x, y, rfl, hr⟩ := h; exact k x y w hr
    | _ => exact h.elim) h
def TkS (n2 n3 : Nat) (x : Dw) (f : Fw) (w : World) : Prop := w.cell? ⟨n2, 7, none⟩ = some (.int .i64 x.Q.x.f) ∧ w.cell? ⟨n2, 8, none⟩ = some (.int .i64 x.Q.x.g) ∧ w.cell? ⟨n2, 9, none⟩ = some (.slice x.Q.A x.Q.x.os.length x.Q.c) ∧ w.cell? ⟨n3, 9, none⟩ = some (.int .i64 f.x.ack) ∧ w.cell? ⟨n3, 10, none⟩ = some (.int .i64 f.x.grant)
theorem tkS_of {w : World} {n2 n3 : Nat} {z : Dz} {f : Fw} (h : dzE.In w n2 z) (hm : frE.In w n3 f) : TkS n2 n3 z.x f w := ⟨h.cell 7, h.cell 8, h.cell 9, hm.cell 9, hm.cell 10⟩
theorem quN_dv {x : Dv} (h : DvR x) : QuN x.q := ⟨by have := h.qf; omega, by have := h.qg; omega, by have := h.ql; omega⟩
theorem quN_ack {x : Dv} (h : DvR x) (a : Int) : QuN (ackQ x.q a) := by
  rw [ackQ_up]
  have h1 := h.qf
  have h2 := h.qg
  have h3 := h.ql
  have h4 := upQ_le x.q a
  exact ⟨by show -1000000000000000 ≤ x.q.f + (upQ x.q a : Int) ∧ x.q.f + (upQ x.q a : Int) ≤ 1000000000000000; omega, by show -1000000000000000 ≤ x.q.g ∧ x.q.g ≤ 1000000000000000; omega, by show (x.q.os.drop (upQ x.q a)).length ≤ 50000; rw [List.length_drop]; omega⟩
set_option maxRecDepth 100000 in
set_option maxHeartbeats 8000000 in
theorem pTake18_any (p : Pnw) (x : Dw) (f : Fw) (w : World) (up : Int) (hp : PlD p.p x.node up) (hr : DvR x.v) (hf : FrD f.x) (hT : inE.Sl w p.A p.p.u) (hx : x.ok w) (hfo : f.ok w) :
    Calls Tryz.prog 13 #[.agg #[.slice p.A p.p.u.length p.c, .int .i64 p.p.q, .int .i64 p.p.r, .int .i64 p.p.b, .int .i64 p.p.l, .int .i64 p.p.w, .int .i64 p.p.c, .int .i64 p.p.k, .int .i64 p.p.i], .agg #[.int .i64 x.node, .int .i64 x.boot, .int .i64 x.above, .int .i64 x.pos, .int .i64 x.y.t, .int .i64 x.pos, .slice none 0 0, .int .i64 x.q.f, .int .i64 x.q.g, .slice x.qA x.q.os.length x.qc, .slice none 0 0, .slice none 0 0, .slice none 0 0, .slice none 0 0, .slice x.y.bA x.y.base.length x.y.bc, .int .i64 x.y.t, .slice x.y.oA x.y.ops.length x.y.oc, .slice x.y.uA x.y.us.length x.y.uc, .slice x.y.wA x.y.now.length x.y.wc, .slice x.cA x.l.length x.cc, .int .i64 x.inc, .int .i64 x.mode, .int .i64 x.clock, .int .i64 x.sent, .slice x.pA 0 x.pc, .int .i64 x.late], .agg #[.int .i64 f.x.a, .int .i64 f.x.b, .int .i64 f.x.boot, .int .i64 f.x.first, .slice f.oA f.x.os.length f.oc, .int .i64 f.x.pos, .slice f.rA f.x.rs.length f.rc, .int .i64 f.x.start, .slice f.eA f.x.es.length f.ec, .int .i64 f.x.ack, .int .i64 f.x.grant, .int .i64 f.x.s, .int .i64 f.x.t, .slice f.gA f.x.gs.length f.gc]] w fun e w' => ∃ (z : Dw) (n : Int), e = .returned (.tuple #[.agg #[.int .i64 z.node, .int .i64 z.boot, .int .i64 z.above, .int .i64 z.pos, .int .i64 z.y.t, .int .i64 z.pos, .slice none 0 0, .int .i64 z.q.f, .int .i64 z.q.g, .slice z.qA z.q.os.length z.qc, .slice none 0 0, .slice none 0 0, .slice none 0 0, .slice none 0 0, .slice z.y.bA z.y.base.length z.y.bc, .int .i64 z.y.t, .slice z.y.oA z.y.ops.length z.y.oc, .slice z.y.uA z.y.us.length z.y.uc, .slice z.y.wA z.y.now.length z.y.wc, .slice z.cA z.l.length z.cc, .int .i64 z.inc, .int .i64 z.mode, .int .i64 z.clock, .int .i64 z.sent, .slice z.pA 0 z.pc, .int .i64 z.late], .int .i64 n]) ∧ z.ok w' ∧ takeD up x.v f.x = (z.v, n) ∧ Below w.heap.size w w' := by
  obtain ⟨hP, hE, hM, hR, hB⟩ := ta_boxes p x f w
  obtain ⟨rv, hrv⟩ : ∃ rv, takeD up x.v f.x = rv := ⟨_, rfl⟩
  rw [hrv]
  have HRV := Lib.hid hrv
  have hok := hx.below hB
  have HFO := Lib.hid hfo
  have HTW := Lib.hid (hT.below hB)
  have CP := Lib.hid (fun (wx : World) (h : inE.Sl wx p.A p.p.u) => parent_any p x.node up wx hp h)
  have HR := Lib.hid hr
  have HF := Lib.hid hf
  clear hrv hx hT hp hr hf hfo
  go_enter Tryz.func13, Tryz.ntmps13
  go_upto_region 1 with (first | (refine wpList_alloc_dv rfl rfl ?_) | fail)
  generalize (((w.alloc (.cells #[.slice p.A p.p.u.length p.c, .int .i64 p.p.q, .int .i64 p.p.r, .int .i64 p.p.b, .int .i64 p.p.l, .int .i64 p.p.w, .int .i64 p.p.c, .int .i64 p.p.k, .int .i64 p.p.i] 26)).alloc (.cells #[.int .i64 x.node, .int .i64 x.boot, .int .i64 x.above, .int .i64 x.pos, .int .i64 x.y.t, .int .i64 x.pos, .slice none 0 0, .int .i64 x.q.f, .int .i64 x.q.g, .slice x.qA x.q.os.length x.qc, .slice none 0 0, .slice none 0 0, .slice none 0 0, .slice none 0 0, .slice x.y.bA x.y.base.length x.y.bc, .int .i64 x.y.t, .slice x.y.oA x.y.ops.length x.y.oc, .slice x.y.uA x.y.us.length x.y.uc, .slice x.y.wA x.y.now.length x.y.wc, .slice x.cA x.l.length x.cc, .int .i64 x.inc, .int .i64 x.mode, .int .i64 x.clock, .int .i64 x.sent, .slice x.pA 0 x.pc, .int .i64 x.late] 44)).alloc (.cells #[.int .i64 f.x.a, .int .i64 f.x.b, .int .i64 f.x.boot, .int .i64 f.x.first, .slice f.oA f.x.os.length f.oc, .int .i64 f.x.pos, .slice f.rA f.x.rs.length f.rc, .int .i64 f.x.start, .slice f.eA f.x.es.length f.ec, .int .i64 f.x.ack, .int .i64 f.x.grant, .int .i64 f.x.s, .int .i64 f.x.t, .slice f.gA f.x.gs.length f.gc] 65)).alloc (.cells #[.int .i64 0, .int .i64 0, .int .i64 0, .int .i64 0, .int .i64 0, .int .i64 0, .slice none 0 0, .int .i64 0, .int .i64 0, .slice none 0 0, .slice none 0 0, .slice none 0 0, .slice none 0 0, .slice none 0 0, .slice none 0 0, .int .i64 0, .slice none 0 0, .slice none 0 0, .slice none 0 0, .slice none 0 0, .int .i64 0, .int .i64 0, .int .i64 0, .int .i64 0, .slice none 0 0, .int .i64 0] 44) = W at *
  obtain ⟨n1, h1⟩ : ∃ n1, w.heap.size = n1 := ⟨_, rfl⟩
  obtain ⟨n2, h2⟩ : ∃ n2, w.heap.size + 1 = n2 := ⟨_, rfl⟩
  obtain ⟨n3, h3⟩ : ∃ n3, w.heap.size + 2 = n3 := ⟨_, rfl⟩
  obtain ⟨n4, h4⟩ : ∃ n4, w.heap.size + 3 = n4 := ⟨_, rfl⟩
  have hw2 : w.heap.size ≤ n2 := by omega
  have hw4 : w.heap.size ≤ n4 := by omega
  have e24 : n4 ≠ n2 := by omega
  have e32 : n3 ≠ n2 := by omega
  rw [h4] at hR ⊢
  rw [h3] at hM ⊢
  rw [h2] at hE ⊢
  rw [h1] at hP ⊢
  clear h1 h2 h3 h4
  have c0 : W.cell? ⟨n2, 0, none⟩ = some (.int .i64 x.node) := hE.cell 0
  go_wp2_with (first | (refine El.load pnRow rfl _ rfl n1 0 rfl p hP.at #[.slice p.A p.p.u.length p.c, .int .i64 p.p.q, .int .i64 p.p.r, .int .i64 p.p.b, .int .i64 p.p.l, .int .i64 p.p.w, .int .i64 p.p.c, .int .i64 p.p.k, .int .i64 p.p.i] rfl ?_) | fail)
  refine (CP.out _ HTW.out).mono ?_
  rintro e w2 ⟨rfl, hb2⟩
  replace hE := hE.below hb2
  replace hM := hM.below hb2
  replace hR := hR.below hb2
  replace hok := hok.below hb2
  replace hB := below_then hB hb2
  clear hb2 CP HTW hP c0
  have c0 : w2.cell? ⟨n2, 0, none⟩ = some (.int .i64 x.node) := hE.cell 0
  have c2 : w2.cell? ⟨n2, 2, none⟩ = some (.int .i64 x.above) := hE.cell 2
  have m0 : w2.cell? ⟨n3, 0, none⟩ = some (.int .i64 f.x.a) := hM.cell 0
  have m1 : w2.cell? ⟨n3, 1, none⟩ = some (.int .i64 f.x.b) := hM.cell 1
  have m2 : w2.cell? ⟨n3, 2, none⟩ = some (.int .i64 f.x.boot) := hM.cell 2
  by_cases ha : f.x.a = up
  · have f1 : (f.x.a != up) = false := by simp [ha]
    have f2 : decide (f.x.a = up) = true := decide_eq_true ha
    have f3 : (f.x.a == up) = true := beq_iff_eq.2 ha
    by_cases hb : f.x.b = x.node
    · have f4 : (f.x.b != x.node) = false := by simp [hb]
      have f5 : decide (f.x.b = x.node) = true := decide_eq_true hb
      have f6 : (f.x.b == x.node) = true := beq_iff_eq.2 hb
      have HAB := Lib.hid (show f.x.b = x.v.node ∧ f.x.a = up from ⟨hb, ha⟩)
      clear ha hb
      by_cases hbt : f.x.boot < x.above
      · have f7 : decide (f.x.boot < x.above) = true := decide_eq_true hbt
        have HV2 := Lib.hid (show rv = (x.v, 7) by rw [← HRV.out]; unfold takeD; rw [if_neg (fun e => e HAB.out), if_pos (show f.x.boot < x.v.above from hbt)])
        clear hbt
        go_wp2_with (first | (refine El.load dzRow rfl _ rfl n2 0 rfl x.z hE.at #[.int .i64 x.node, .int .i64 x.boot, .int .i64 x.above, .int .i64 x.pos, .int .i64 x.y.t, .int .i64 x.pos, .slice none 0 0, .int .i64 x.q.f, .int .i64 x.q.g, .slice x.qA x.q.os.length x.qc, .slice none 0 0, .slice none 0 0, .slice none 0 0, .slice none 0 0, .slice x.y.bA x.y.base.length x.y.bc, .int .i64 x.y.t, .slice x.y.oA x.y.ops.length x.y.oc, .slice x.y.uA x.y.us.length x.y.uc, .slice x.y.wA x.y.now.length x.y.wc, .slice x.cA x.l.length x.cc, .int .i64 x.inc, .int .i64 x.mode, .int .i64 x.clock, .int .i64 x.sent, .slice x.pA 0 x.pc, .int .i64 x.late] rfl ?_) | (refine El.store dvRow rfl _ _ rfl n4 x #[.int .i64 x.node, .int .i64 x.boot, .int .i64 x.above, .int .i64 x.pos, .int .i64 x.y.t, .int .i64 x.pos, .slice none 0 0, .int .i64 x.q.f, .int .i64 x.q.g, .slice x.qA x.q.os.length x.qc, .slice none 0 0, .slice none 0 0, .slice none 0 0, .slice none 0 0, .slice x.y.bA x.y.base.length x.y.bc, .int .i64 x.y.t, .slice x.y.oA x.y.ops.length x.y.oc, .slice x.y.uA x.y.us.length x.y.uc, .slice x.y.wA x.y.now.length x.y.wc, .slice x.cA x.l.length x.cc, .int .i64 x.inc, .int .i64 x.mode, .int .i64 x.clock, .int .i64 x.sent, .slice x.pA 0 x.pc, .int .i64 x.late] rfl rfl rfl Dw.zero hR ?_) | fail)
        refine El.ret2 dvRow (hR.set x _ rfl) rfl rfl rfl rfl _ rfl ?_
        refine ⟨x, _, rfl, Dw.ok.keepB hok hR (by_row _ _ _), HV2.out, below_setRow hB hw4 _⟩
      · have f7 : decide (f.x.boot < x.above) = false := decide_eq_false hbt
        have HBT := Lib.hid (show ¬ f.x.boot < x.v.above from hbt)
        clear hbt
        have qf := hE.frozen
        go_upto_region 7 with fail
        clear qf c0 c2 m0 m1 m2
        have g1 := by_cell w2 n2 2 (.int .i64 f.x.boot)
        replace hok : ({ x with above := f.x.boot } : Dw).ok (w2.setCell ⟨n2, 2, none⟩ (.int .i64 f.x.boot)) := by
          obtain ⟨a, b, c, d⟩ := hok.keepZ hE g1
          exact ⟨a, b, c, d⟩
        replace hE := hE.put ({ x with above := f.x.boot } : Dw).z 2 (.int .i64 f.x.boot) rfl
        replace hR := hR.other n2 2 (.int .i64 f.x.boot) e24
        replace hM := hM.other n2 2 (.int .i64 f.x.boot) e32
        replace hB := Below.setCell hB (p := ⟨n2, 2, none⟩) hw2 (.int .i64 f.x.boot)
        clear g1
        generalize w2.setCell ⟨n2, 2, none⟩ (.int .i64 f.x.boot) = V at *
        obtain ⟨y, hy⟩ : ∃ y, ({ x with above := f.x.boot } : Dw) = y := ⟨_, rfl⟩
        have HY := Lib.hid (show y.v = { x.v with above := f.x.boot } by rw [← hy]; rfl)
        have hE2 : dzE.In V n2 y.z := by rw [← hy]; exact hE
        have hq : y.q = x.q := by rw [← hy]
        have CA := Lib.hid (fun (wx : World) (h : SlV opE wx y.qA y.qc y.q.os) => quAck_any y.Q f.x.ack wx (by show QuN y.q; rw [hq]; exact quN_dv HR.out) (by have h := HF.out.n f.x.ack (by simp [frL]); omega) h)
        have HQN := Lib.hid (show QuN (ackQ y.q f.x.ack) by rw [hq]; exact quN_ack HR.out _)
        rw [hy] at hok
        clear hE hy hq
        have hE := hE2
        clear hE2
        apply wp_mergeQ (fun _ qz w' => qz.x = allowQ (ackQ y.q f.x.ack) f.x.grant ∧ dvE.In w' n2 { y with qA := qz.A, qc := qz.c, q := qz.x } ∧ ({ y with qA := qz.A, qc := qz.c, q := qz.x } : Dw).ok w' ∧ frE.In w' n3 f ∧ dvE.In w' n4 Dw.zero ∧ Below w.heap.size w w')
        · refine region_anyG (S := TkS n2 n3 y f) 9 (by kernel_rfl) ?_
          have hd : Below V.heap.size V V.drew := (Below.refl _ _).drew
          replace hE : dzE.In V.drew n2 y.z := hE
          replace hM : frE.In V.drew n3 f := hM
          replace hR : dvE.In V.drew n4 Dw.zero := hR
          replace hok := hok.below hd
          replace hB := hB.drew
          clear hd
          generalize V.drew = X at *
          have hS : TkS n2 n3 y f X := tkS_of hE hM
          refine anyG_take (i := 0) (v := .pointer (some ⟨n2, 7, none⟩)) rfl (by kernel_rfl) (by kernel_rfl) (by kernel_rfl) (by kernel_rfl) (by kernel_rfl) (fun _ _ _ h => h) (Or.inl ⟨by rfl, fun w' hSw => by (obtain ⟨s0, s1, s2, s3, s4⟩ := hSw; go_simp)⟩) hS ?_
          try simp only [Act.put, List.setIfInBounds_toArray, List.set_cons_zero, List.set_cons_succ]
          refine anyG_take (i := 1) (v := .agg #[.int .i64 y.Q.x.f, .int .i64 y.Q.x.g, .slice y.Q.A y.Q.x.os.length y.Q.c]) rfl (by kernel_rfl) (by kernel_rfl) (by kernel_rfl) (by kernel_rfl) (by kernel_rfl) (fun _ _ _ h => h) (Or.inl ⟨by rfl, fun w' hSw => by (obtain ⟨s0, s1, s2, s3, s4⟩ := hSw; go_simp)⟩) hS ?_
          try simp only [Act.put, List.setIfInBounds_toArray, List.set_cons_zero, List.set_cons_succ]
          refine anyG_take (i := 2) (v := .pointer (some ⟨n3, 9, none⟩)) rfl (by kernel_rfl) (by kernel_rfl) (by kernel_rfl) (by kernel_rfl) (by kernel_rfl) (fun _ _ _ h => h) (Or.inl ⟨by rfl, fun w' hSw => by (obtain ⟨s0, s1, s2, s3, s4⟩ := hSw; go_simp)⟩) hS ?_
          try simp only [Act.put, List.setIfInBounds_toArray, List.set_cons_zero, List.set_cons_succ]
          refine anyG_take (i := 3) (v := .int .i64 f.x.ack) rfl (by kernel_rfl) (by kernel_rfl) (by kernel_rfl) (by kernel_rfl) (by kernel_rfl) (fun _ _ _ h => h) (Or.inl ⟨by rfl, fun w' hSw => by (obtain ⟨s0, s1, s2, s3, s4⟩ := hSw; go_simp)⟩) hS ?_
          try simp only [Act.put, List.setIfInBounds_toArray, List.set_cons_zero, List.set_cons_succ]
          refine anyG_take (i := 5) (v := .pointer (some ⟨n3, 10, none⟩)) rfl (by kernel_rfl) (by kernel_rfl) (by kernel_rfl) (by kernel_rfl) (by kernel_rfl) (fun _ _ _ h => h) (Or.inl ⟨by rfl, fun w' hSw => by (obtain ⟨s0, s1, s2, s3, s4⟩ := hSw; go_simp)⟩) hS ?_
          try simp only [Act.put, List.setIfInBounds_toArray, List.set_cons_zero, List.set_cons_succ]
          refine anyG_take (i := 6) (v := .int .i64 f.x.grant) rfl (by kernel_rfl) (by kernel_rfl) (by kernel_rfl) (by kernel_rfl) (by kernel_rfl) (fun _ _ _ h => h) (Or.inl ⟨by rfl, fun w' hSw => by (obtain ⟨s0, s1, s2, s3, s4⟩ := hSw; go_simp)⟩) hS ?_
          try simp only [Act.put, List.setIfInBounds_toArray, List.set_cons_zero, List.set_cons_succ]
          refine anyG_step (rs := [4]) (by kernel_rfl) (by simp) ?_
          refine AllG.cons rfl (fun K hK => ?_) AllG.nil
          go_simp
          refine (CA.out X hok.q).mono ?_
          rintro e W5 ⟨q5, rfl, hq5, hok5, hb5, _⟩
          have HQ5 := Lib.hid hq5
          clear hq5
          replace hE := hE.below hb5
          replace hM := hM.below hb5
          replace hR := hR.below hb5
          replace hok := hok.below hb5
          replace hB := below_then hB hb5
          clear hb5
          try go_wp2_with fail
          refine hK.out _ _ (tkS_of hE hM : TkS n2 n3 y f W5) ?_
          try simp only [Act.put, List.setIfInBounds_toArray, List.set_cons_zero, List.set_cons_succ]
          clear hK hS
          have hS : TkS n2 n3 y f W5 := tkS_of hE hM
          refine anyG_step (rs := [7]) (by kernel_rfl) (by simp) ?_
          refine AllG.cons rfl (fun K hK => ?_) AllG.nil
          go_simp
          refine (quAllow_any q5 f.x.grant W5 (by rw [HQ5.out]; exact HQN.out) hok5).mono ?_
          rintro e W6 ⟨q6, rfl, hq6, hok6, hb6, _⟩
          have HQ6 := Lib.hid (show q6.x = allowQ (ackQ y.q f.x.ack) f.x.grant by rw [hq6, HQ5.out]; rfl)
          clear hq6
          replace hE := hE.below hb6
          replace hM := hM.below hb6
          replace hR := hR.below hb6
          replace hok := hok.below hb6
          replace hB := below_then hB hb6
          clear hb6
          try go_wp2_with fail
          refine hK.out _ _ (tkS_of hE hM : TkS n2 n3 y f W6) ?_
          try simp only [Act.put, List.setIfInBounds_toArray, List.set_cons_zero, List.set_cons_succ]
          clear hK hS
          have hS : TkS n2 n3 y f W6 := tkS_of hE hM
          refine anyG_take (i := 8) (v := .pointer (some ⟨n2, 7, none⟩)) rfl (by kernel_rfl) (by kernel_rfl) (by kernel_rfl) (by kernel_rfl) (by kernel_rfl) (fun _ _ _ h => h) (Or.inl ⟨by rfl, fun w' hSw => by (obtain ⟨s0, s1, s2, s3, s4⟩ := hSw; go_simp)⟩) hS ?_
          try simp only [Act.put, List.setIfInBounds_toArray, List.set_cons_zero, List.set_cons_succ]
          refine anyG_step (rs := [9]) (by kernel_rfl) (by simp) ?_
          refine AllG.last (n := 9) rfl (fun K hK => ?_)
          have hok1 : ({ y with qA := q6.A, qc := q6.c, q := q6.x } : Dw).ok W6 := ⟨hok.p, hok6, hok.c, hok.t⟩
          refine step_store_dz (T := 33) (k := 3) (by kernel_rfl) rfl _ _ rfl n2 7 y.z ({ y with qA := q6.A, qc := q6.c, q := q6.x } : Dw).z [.int .i64 q6.x.f, .int .i64 q6.x.g, .slice q6.A q6.x.os.length q6.c] rfl (by intro v hv; simp only [List.mem_cons, List.not_mem_nil, or_false] at hv; rcases hv with rfl | rfl | rfl <;> rfl) rfl rfl hE rfl (by show 7 + 3 ≤ 26; omega) ?_
          refine hK.out _ _ ?_
          try simp only [Act.put, List.setIfInBounds_toArray, List.set_cons_zero, List.set_cons_succ]
          clear hK hS
          refine anyG_done (by kernel_rfl) ?_ _
          have hgr := by_row W6 n2 (dzE.c ({ y with qA := q6.A, qc := q6.c, q := q6.x } : Dw).z).toArray
          refine ⟨q5, q6, rfl, HQ6.out, ?_, ?_, ?_, ?_, ?_⟩
          · exact hE.set ({ y with qA := q6.A, qc := q6.c, q := q6.x } : Dw).z _ rfl
          · exact hok1.keepZ hE hgr
          · exact hM.rowN n2 _ e32
          · exact hR.rowN n2 _ e24
          · exact below_setRow hB hw2 _
        rintro qy qz W5 ⟨hqz, hE, hok, hM, hR, hB⟩
        obtain ⟨z, hzz⟩ : ∃ z, ({ y with qA := qz.A, qc := qz.c, q := qz.x } : Dw) = z := ⟨_, rfl⟩
        rw [hzz] at hE hok
        have HZ := Lib.hid (show z.v = { x.v with above := f.x.boot, q := allowQ (ackQ x.v.q f.x.ack) f.x.grant } by
          rw [← hzz]
          show ({ y.v with q := qz.x } : Dv) = _
          rw [hqz, HY.out]
          have h2 : y.q = x.v.q := congrArg Dv.q HY.out
          rw [h2])
        clear hzz hqz CA HQN HY
        have hgs := HF.out.gs
        have m13 : W5.cell? ⟨n3, 13, none⟩ = some (.slice f.gA f.x.gs.length f.gc) := hM.cell 13
        rw [hgs] at m13
        have c21 : W5.cell? ⟨n2, 21, none⟩ = some (.int .i64 z.mode) := hE.cell 21
        clear hgs
        go_wp2_with fail
        go_loopw [58] (fun i wr => i = .int .i64 0 ∧ wr = W5) (fun i _ => 0)
        case atStart => exact ⟨rfl, rfl⟩
        case round =>
          obtain ⟨rfl, rfl⟩ := hrel
          obtain ⟨md, hmd⟩ : ∃ md, z.mode = md := ⟨_, rfl⟩
          rw [hmd] at c21
          have HMD := Lib.hid (show x.v.mode = md by rw [← hmd]; exact (congrArg Dv.mode HZ.out).symm)
          clear hmd m13
          by_cases hm : md = 1
          · subst hm
            have hwz : DvW 0 z.v := by
              rw [HZ.out]
              have h := HR.out
              exact ⟨h.pos, h.y, h.yl, h.l.1, h.inc, h.late⟩
            have CF := followed_any z f wr hwz HF.out hok (Fw.ok.below HFO.out hB)
            clear hwz
            obtain ⟨rz, hrz⟩ : ∃ rz, (if z.pos < f.x.s then leaveD z.v else goD (settleD z.v f.x.t) f.x.start f.x.es) = rz := ⟨_, rfl⟩
            rw [hrz] at CF
            have HV2 := Lib.hid (show rv = (rz, 0) by
              rw [← hrz, ← HRV.out, HZ.out]
              unfold takeD
              rw [if_neg (fun e => e HAB.out), if_neg (by have h := HBT.out; omega : ¬ f.x.boot < x.v.above)]
              dsimp only
              rw [if_neg (fun e => e HMD.out)]
              have hpz : z.pos = x.v.pos := congrArg Dv.pos HZ.out
              rw [hpz]
              by_cases hps : x.v.pos < f.x.s
              · rw [if_pos hps, if_pos hps]
              · rw [if_neg hps, if_neg hps]; rfl)
            clear hrz
            go_wp2_with (first | (refine El.load dvRow rfl _ rfl n2 0 rfl z hE.at #[.int .i64 z.node, .int .i64 z.boot, .int .i64 z.above, .int .i64 z.pos, .int .i64 z.y.t, .int .i64 z.pos, .slice none 0 0, .int .i64 z.q.f, .int .i64 z.q.g, .slice z.qA z.q.os.length z.qc, .slice none 0 0, .slice none 0 0, .slice none 0 0, .slice none 0 0, .slice z.y.bA z.y.base.length z.y.bc, .int .i64 z.y.t, .slice z.y.oA z.y.ops.length z.y.oc, .slice z.y.uA z.y.us.length z.y.uc, .slice z.y.wA z.y.now.length z.y.wc, .slice z.cA z.l.length z.cc, .int .i64 z.inc, .int .i64 z.mode, .int .i64 z.clock, .int .i64 z.sent, .slice z.pA 0 z.pc, .int .i64 z.late] rfl ?_) | (refine El.load frRow rfl _ rfl n3 0 rfl f hM.at #[.int .i64 f.x.a, .int .i64 f.x.b, .int .i64 f.x.boot, .int .i64 f.x.first, .slice f.oA f.x.os.length f.oc, .int .i64 f.x.pos, .slice f.rA f.x.rs.length f.rc, .int .i64 f.x.start, .slice f.eA f.x.es.length f.ec, .int .i64 f.x.ack, .int .i64 f.x.grant, .int .i64 f.x.s, .int .i64 f.x.t, .slice f.gA f.x.gs.length f.gc] rfl ?_) | fail)
            refine CF.mono ?_
            rintro e w7 ⟨z', rfl, hz', hzv, hb7⟩
            replace hE := hE.below hb7
            replace hR := hR.below hb7
            replace hB := below_then hB hb7
            rw [← hzv] at HV2
            clear hb7 CF c21 hM hok hzv
            go_upto_region 15 with (first | (refine El.store dvRow rfl _ _ rfl n2 z' #[.int .i64 z'.node, .int .i64 z'.boot, .int .i64 z'.above, .int .i64 z'.pos, .int .i64 z'.y.t, .int .i64 z'.pos, .slice none 0 0, .int .i64 z'.q.f, .int .i64 z'.q.g, .slice z'.qA z'.q.os.length z'.qc, .slice none 0 0, .slice none 0 0, .slice none 0 0, .slice none 0 0, .slice z'.y.bA z'.y.base.length z'.y.bc, .int .i64 z'.y.t, .slice z'.y.oA z'.y.ops.length z'.y.oc, .slice z'.y.uA z'.y.us.length z'.y.uc, .slice z'.y.wA z'.y.now.length z'.y.wc, .slice z'.cA z'.l.length z'.cc, .int .i64 z'.inc, .int .i64 z'.mode, .int .i64 z'.clock, .int .i64 z'.sent, .slice z'.pA 0 z'.pc, .int .i64 z'.late] rfl rfl rfl z hE ?_) | fail)
            have hgr := by_row w7 n2 #[.int .i64 z'.node, .int .i64 z'.boot, .int .i64 z'.above, .int .i64 z'.pos, .int .i64 z'.y.t, .int .i64 z'.pos, .slice none 0 0, .int .i64 z'.q.f, .int .i64 z'.q.g, .slice z'.qA z'.q.os.length z'.qc, .slice none 0 0, .slice none 0 0, .slice none 0 0, .slice none 0 0, .slice z'.y.bA z'.y.base.length z'.y.bc, .int .i64 z'.y.t, .slice z'.y.oA z'.y.ops.length z'.y.oc, .slice z'.y.uA z'.y.us.length z'.y.uc, .slice z'.y.wA z'.y.now.length z'.y.wc, .slice z'.cA z'.l.length z'.cc, .int .i64 z'.inc, .int .i64 z'.mode, .int .i64 z'.clock, .int .i64 z'.sent, .slice z'.pA 0 z'.pc, .int .i64 z'.late]
            have hok := hz'.keepB hE hgr
            replace hR := hR.rowN n2 #[.int .i64 z'.node, .int .i64 z'.boot, .int .i64 z'.above, .int .i64 z'.pos, .int .i64 z'.y.t, .int .i64 z'.pos, .slice none 0 0, .int .i64 z'.q.f, .int .i64 z'.q.g, .slice z'.qA z'.q.os.length z'.qc, .slice none 0 0, .slice none 0 0, .slice none 0 0, .slice none 0 0, .slice z'.y.bA z'.y.base.length z'.y.bc, .int .i64 z'.y.t, .slice z'.y.oA z'.y.ops.length z'.y.oc, .slice z'.y.uA z'.y.us.length z'.y.uc, .slice z'.y.wA z'.y.now.length z'.y.wc, .slice z'.cA z'.l.length z'.cc, .int .i64 z'.inc, .int .i64 z'.mode, .int .i64 z'.clock, .int .i64 z'.sent, .slice z'.pA 0 z'.pc, .int .i64 z'.late] e24
            replace hB := below_setRow hB hw2 #[.int .i64 z'.node, .int .i64 z'.boot, .int .i64 z'.above, .int .i64 z'.pos, .int .i64 z'.y.t, .int .i64 z'.pos, .slice none 0 0, .int .i64 z'.q.f, .int .i64 z'.q.g, .slice z'.qA z'.q.os.length z'.qc, .slice none 0 0, .slice none 0 0, .slice none 0 0, .slice none 0 0, .slice z'.y.bA z'.y.base.length z'.y.bc, .int .i64 z'.y.t, .slice z'.y.oA z'.y.ops.length z'.y.oc, .slice z'.y.uA z'.y.us.length z'.y.uc, .slice z'.y.wA z'.y.now.length z'.y.wc, .slice z'.cA z'.l.length z'.cc, .int .i64 z'.inc, .int .i64 z'.mode, .int .i64 z'.clock, .int .i64 z'.sent, .slice z'.pA 0 z'.pc, .int .i64 z'.late]
            replace hE : dzE.In (w7.setRow n2 #[.int .i64 z'.node, .int .i64 z'.boot, .int .i64 z'.above, .int .i64 z'.pos, .int .i64 z'.y.t, .int .i64 z'.pos, .slice none 0 0, .int .i64 z'.q.f, .int .i64 z'.q.g, .slice z'.qA z'.q.os.length z'.qc, .slice none 0 0, .slice none 0 0, .slice none 0 0, .slice none 0 0, .slice z'.y.bA z'.y.base.length z'.y.bc, .int .i64 z'.y.t, .slice z'.y.oA z'.y.ops.length z'.y.oc, .slice z'.y.uA z'.y.us.length z'.y.uc, .slice z'.y.wA z'.y.now.length z'.y.wc, .slice z'.cA z'.l.length z'.cc, .int .i64 z'.inc, .int .i64 z'.mode, .int .i64 z'.clock, .int .i64 z'.sent, .slice z'.pA 0 z'.pc, .int .i64 z'.late]) n2 z'.z := hE.set z' #[.int .i64 z'.node, .int .i64 z'.boot, .int .i64 z'.above, .int .i64 z'.pos, .int .i64 z'.y.t, .int .i64 z'.pos, .slice none 0 0, .int .i64 z'.q.f, .int .i64 z'.q.g, .slice z'.qA z'.q.os.length z'.qc, .slice none 0 0, .slice none 0 0, .slice none 0 0, .slice none 0 0, .slice z'.y.bA z'.y.base.length z'.y.bc, .int .i64 z'.y.t, .slice z'.y.oA z'.y.ops.length z'.y.oc, .slice z'.y.uA z'.y.us.length z'.y.uc, .slice z'.y.wA z'.y.now.length z'.y.wc, .slice z'.cA z'.l.length z'.cc, .int .i64 z'.inc, .int .i64 z'.mode, .int .i64 z'.clock, .int .i64 z'.sent, .slice z'.pA 0 z'.pc, .int .i64 z'.late] rfl
            clear hgr hz'
            generalize w7.setRow n2 #[.int .i64 z'.node, .int .i64 z'.boot, .int .i64 z'.above, .int .i64 z'.pos, .int .i64 z'.y.t, .int .i64 z'.pos, .slice none 0 0, .int .i64 z'.q.f, .int .i64 z'.q.g, .slice z'.qA z'.q.os.length z'.qc, .slice none 0 0, .slice none 0 0, .slice none 0 0, .slice none 0 0, .slice z'.y.bA z'.y.base.length z'.y.bc, .int .i64 z'.y.t, .slice z'.y.oA z'.y.ops.length z'.y.oc, .slice z'.y.uA z'.y.us.length z'.y.uc, .slice z'.y.wA z'.y.now.length z'.y.wc, .slice z'.cA z'.l.length z'.cc, .int .i64 z'.inc, .int .i64 z'.mode, .int .i64 z'.clock, .int .i64 z'.sent, .slice z'.pA 0 z'.pc, .int .i64 z'.late] = W9 at *
            go_wp2_with (first | (refine El.load dzRow rfl _ rfl n2 0 rfl z'.z hE.at #[.int .i64 z'.node, .int .i64 z'.boot, .int .i64 z'.above, .int .i64 z'.pos, .int .i64 z'.y.t, .int .i64 z'.pos, .slice none 0 0, .int .i64 z'.q.f, .int .i64 z'.q.g, .slice z'.qA z'.q.os.length z'.qc, .slice none 0 0, .slice none 0 0, .slice none 0 0, .slice none 0 0, .slice z'.y.bA z'.y.base.length z'.y.bc, .int .i64 z'.y.t, .slice z'.y.oA z'.y.ops.length z'.y.oc, .slice z'.y.uA z'.y.us.length z'.y.uc, .slice z'.y.wA z'.y.now.length z'.y.wc, .slice z'.cA z'.l.length z'.cc, .int .i64 z'.inc, .int .i64 z'.mode, .int .i64 z'.clock, .int .i64 z'.sent, .slice z'.pA 0 z'.pc, .int .i64 z'.late] rfl ?_) | (refine El.store dvRow rfl _ _ rfl n4 z' #[.int .i64 z'.node, .int .i64 z'.boot, .int .i64 z'.above, .int .i64 z'.pos, .int .i64 z'.y.t, .int .i64 z'.pos, .slice none 0 0, .int .i64 z'.q.f, .int .i64 z'.q.g, .slice z'.qA z'.q.os.length z'.qc, .slice none 0 0, .slice none 0 0, .slice none 0 0, .slice none 0 0, .slice z'.y.bA z'.y.base.length z'.y.bc, .int .i64 z'.y.t, .slice z'.y.oA z'.y.ops.length z'.y.oc, .slice z'.y.uA z'.y.us.length z'.y.uc, .slice z'.y.wA z'.y.now.length z'.y.wc, .slice z'.cA z'.l.length z'.cc, .int .i64 z'.inc, .int .i64 z'.mode, .int .i64 z'.clock, .int .i64 z'.sent, .slice z'.pA 0 z'.pc, .int .i64 z'.late] rfl rfl rfl Dw.zero hR ?_) | fail)
            refine El.ret2 dvRow (hR.set z' _ rfl) rfl rfl rfl rfl _ rfl ?_
            refine ⟨z', _, rfl, Dw.ok.keepB hok hR (by_row _ _ _), HV2.out, below_setRow hB hw4 _⟩
          · have f3 : (md != 1) = true := bne_iff_ne.2 hm
            have f4 : decide (md = 1) = false := decide_eq_false hm
            have f5 : (md == 1) = false := beq_eq_false_iff_ne.2 hm
            have HV2 := Lib.hid (show rv = (z.v, 0) by
              rw [← HRV.out, HZ.out]
              unfold takeD
              rw [if_neg (fun e => e HAB.out), if_neg (by have h := HBT.out; omega : ¬ f.x.boot < x.v.above)]
              dsimp only
              rw [if_pos (by rw [HMD.out]; exact hm)])
            clear hm
            have hE : dzE.In wr n2 z.z := hE
            go_wp2_with (first | (refine El.load dzRow rfl _ rfl n2 0 rfl z.z hE.at #[.int .i64 z.node, .int .i64 z.boot, .int .i64 z.above, .int .i64 z.pos, .int .i64 z.y.t, .int .i64 z.pos, .slice none 0 0, .int .i64 z.q.f, .int .i64 z.q.g, .slice z.qA z.q.os.length z.qc, .slice none 0 0, .slice none 0 0, .slice none 0 0, .slice none 0 0, .slice z.y.bA z.y.base.length z.y.bc, .int .i64 z.y.t, .slice z.y.oA z.y.ops.length z.y.oc, .slice z.y.uA z.y.us.length z.y.uc, .slice z.y.wA z.y.now.length z.y.wc, .slice z.cA z.l.length z.cc, .int .i64 z.inc, .int .i64 z.mode, .int .i64 z.clock, .int .i64 z.sent, .slice z.pA 0 z.pc, .int .i64 z.late] rfl ?_) | (refine El.store dvRow rfl _ _ rfl n4 z #[.int .i64 z.node, .int .i64 z.boot, .int .i64 z.above, .int .i64 z.pos, .int .i64 z.y.t, .int .i64 z.pos, .slice none 0 0, .int .i64 z.q.f, .int .i64 z.q.g, .slice z.qA z.q.os.length z.qc, .slice none 0 0, .slice none 0 0, .slice none 0 0, .slice none 0 0, .slice z.y.bA z.y.base.length z.y.bc, .int .i64 z.y.t, .slice z.y.oA z.y.ops.length z.y.oc, .slice z.y.uA z.y.us.length z.y.uc, .slice z.y.wA z.y.now.length z.y.wc, .slice z.cA z.l.length z.cc, .int .i64 z.inc, .int .i64 z.mode, .int .i64 z.clock, .int .i64 z.sent, .slice z.pA 0 z.pc, .int .i64 z.late] rfl rfl rfl Dw.zero hR ?_) | fail)
            refine El.ret2 dvRow (hR.set z _ rfl) rfl rfl rfl rfl _ rfl ?_
            refine ⟨z, _, rfl, Dw.ok.keepB hok hR (by_row _ _ _), HV2.out, below_setRow hB hw4 _⟩
    · have f4 : (f.x.b != x.node) = true := bne_iff_ne.2 hb
      have f5 : decide (f.x.b = x.node) = false := decide_eq_false hb
      have f6 : (f.x.b == x.node) = false := beq_eq_false_iff_ne.2 hb
      have HV2 := Lib.hid (show rv = (x.v, 1) by rw [← HRV.out]; unfold takeD; rw [if_pos (fun e => hb e.1)])
      clear ha hb
      go_wp2_with (first | (refine El.load dzRow rfl _ rfl n2 0 rfl x.z hE.at #[.int .i64 x.node, .int .i64 x.boot, .int .i64 x.above, .int .i64 x.pos, .int .i64 x.y.t, .int .i64 x.pos, .slice none 0 0, .int .i64 x.q.f, .int .i64 x.q.g, .slice x.qA x.q.os.length x.qc, .slice none 0 0, .slice none 0 0, .slice none 0 0, .slice none 0 0, .slice x.y.bA x.y.base.length x.y.bc, .int .i64 x.y.t, .slice x.y.oA x.y.ops.length x.y.oc, .slice x.y.uA x.y.us.length x.y.uc, .slice x.y.wA x.y.now.length x.y.wc, .slice x.cA x.l.length x.cc, .int .i64 x.inc, .int .i64 x.mode, .int .i64 x.clock, .int .i64 x.sent, .slice x.pA 0 x.pc, .int .i64 x.late] rfl ?_) | (refine El.store dvRow rfl _ _ rfl n4 x #[.int .i64 x.node, .int .i64 x.boot, .int .i64 x.above, .int .i64 x.pos, .int .i64 x.y.t, .int .i64 x.pos, .slice none 0 0, .int .i64 x.q.f, .int .i64 x.q.g, .slice x.qA x.q.os.length x.qc, .slice none 0 0, .slice none 0 0, .slice none 0 0, .slice none 0 0, .slice x.y.bA x.y.base.length x.y.bc, .int .i64 x.y.t, .slice x.y.oA x.y.ops.length x.y.oc, .slice x.y.uA x.y.us.length x.y.uc, .slice x.y.wA x.y.now.length x.y.wc, .slice x.cA x.l.length x.cc, .int .i64 x.inc, .int .i64 x.mode, .int .i64 x.clock, .int .i64 x.sent, .slice x.pA 0 x.pc, .int .i64 x.late] rfl rfl rfl Dw.zero hR ?_) | fail)
      refine El.ret2 dvRow (hR.set x _ rfl) rfl rfl rfl rfl _ rfl ?_
      refine ⟨x, _, rfl, Dw.ok.keepB hok hR (by_row _ _ _), HV2.out, below_setRow hB hw4 _⟩
  · have f1 : (f.x.a != up) = true := bne_iff_ne.2 ha
    have f2 : decide (f.x.a = up) = false := decide_eq_false ha
    have f3 : (f.x.a == up) = false := beq_eq_false_iff_ne.2 ha
    have HV2 := Lib.hid (show rv = (x.v, 1) by rw [← HRV.out]; unfold takeD; rw [if_pos (fun e => ha e.2)])
    clear ha
    go_wp2_with (first | (refine El.load dzRow rfl _ rfl n2 0 rfl x.z hE.at #[.int .i64 x.node, .int .i64 x.boot, .int .i64 x.above, .int .i64 x.pos, .int .i64 x.y.t, .int .i64 x.pos, .slice none 0 0, .int .i64 x.q.f, .int .i64 x.q.g, .slice x.qA x.q.os.length x.qc, .slice none 0 0, .slice none 0 0, .slice none 0 0, .slice none 0 0, .slice x.y.bA x.y.base.length x.y.bc, .int .i64 x.y.t, .slice x.y.oA x.y.ops.length x.y.oc, .slice x.y.uA x.y.us.length x.y.uc, .slice x.y.wA x.y.now.length x.y.wc, .slice x.cA x.l.length x.cc, .int .i64 x.inc, .int .i64 x.mode, .int .i64 x.clock, .int .i64 x.sent, .slice x.pA 0 x.pc, .int .i64 x.late] rfl ?_) | (refine El.store dvRow rfl _ _ rfl n4 x #[.int .i64 x.node, .int .i64 x.boot, .int .i64 x.above, .int .i64 x.pos, .int .i64 x.y.t, .int .i64 x.pos, .slice none 0 0, .int .i64 x.q.f, .int .i64 x.q.g, .slice x.qA x.q.os.length x.qc, .slice none 0 0, .slice none 0 0, .slice none 0 0, .slice none 0 0, .slice x.y.bA x.y.base.length x.y.bc, .int .i64 x.y.t, .slice x.y.oA x.y.ops.length x.y.oc, .slice x.y.uA x.y.us.length x.y.uc, .slice x.y.wA x.y.now.length x.y.wc, .slice x.cA x.l.length x.cc, .int .i64 x.inc, .int .i64 x.mode, .int .i64 x.clock, .int .i64 x.sent, .slice x.pA 0 x.pc, .int .i64 x.late] rfl rfl rfl Dw.zero hR ?_) | fail)
    refine El.ret2 dvRow (hR.set x _ rfl) rfl rfl rfl rfl _ rfl ?_
    refine ⟨x, _, rfl, Dw.ok.keepB hok hR (by_row _ _ _), HV2.out, below_setRow hB hw4 _⟩
end Go.Proofs.YtdcjffajmckleaaGreatDoor

/- The program's Frame; what the device's functions answer. -/
namespace Go.Proofs.YtdcjffajmckleaaGreatDoor
open Go.RowKit Nam Cod Tre Pst Pln

theorem dvAll {w : World} {b : Nat} {x : Dw} (h : dvE.In w b x) : w.cell? ⟨b, 0, none⟩ = some (.int .i64 x.node) ∧ w.cell? ⟨b, 1, none⟩ = some (.int .i64 x.boot) ∧ w.cell? ⟨b, 2, none⟩ = some (.int .i64 x.above) ∧ w.cell? ⟨b, 3, none⟩ = some (.int .i64 x.pos) ∧ w.cell? ⟨b, 4, none⟩ = some (.int .i64 x.y.t) ∧ w.cell? ⟨b, 5, none⟩ = some (.int .i64 x.pos) ∧ w.cell? ⟨b, 6, none⟩ = some (.slice none 0 0) ∧ w.cell? ⟨b, 7, none⟩ = some (.int .i64 x.q.f) ∧ w.cell? ⟨b, 8, none⟩ = some (.int .i64 x.q.g) ∧ w.cell? ⟨b, 9, none⟩ = some (.slice x.qA x.q.os.length x.qc) ∧ w.cell? ⟨b, 10, none⟩ = some (.slice none 0 0) ∧ w.cell? ⟨b, 11, none⟩ = some (.slice none 0 0) ∧ w.cell? ⟨b, 12, none⟩ = some (.slice none 0 0) ∧ w.cell? ⟨b, 13, none⟩ = some (.slice none 0 0) ∧ w.cell? ⟨b, 14, none⟩ = some (.slice x.y.bA x.y.base.length x.y.bc) ∧ w.cell? ⟨b, 15, none⟩ = some (.int .i64 x.y.t) ∧ w.cell? ⟨b, 16, none⟩ = some (.slice x.y.oA x.y.ops.length x.y.oc) ∧ w.cell? ⟨b, 17, none⟩ = some (.slice x.y.uA x.y.us.length x.y.uc) ∧ w.cell? ⟨b, 18, none⟩ = some (.slice x.y.wA x.y.now.length x.y.wc) ∧ w.cell? ⟨b, 19, none⟩ = some (.slice x.cA x.l.length x.cc) ∧ w.cell? ⟨b, 20, none⟩ = some (.int .i64 x.inc) ∧ w.cell? ⟨b, 21, none⟩ = some (.int .i64 x.mode) ∧ w.cell? ⟨b, 22, none⟩ = some (.int .i64 x.clock) ∧ w.cell? ⟨b, 23, none⟩ = some (.int .i64 x.sent) ∧ w.cell? ⟨b, 24, none⟩ = some (.slice x.pA 0 x.pc) ∧ w.cell? ⟨b, 25, none⟩ = some (.int .i64 x.late) :=
  ⟨h.cell 0, h.cell 1, h.cell 2, h.cell 3, h.cell 4, h.cell 5, h.cell 6, h.cell 7, h.cell 8, h.cell 9, h.cell 10, h.cell 11, h.cell 12, h.cell 13, h.cell 14, h.cell 15, h.cell 16, h.cell 17, h.cell 18, h.cell 19, h.cell 20, h.cell 21, h.cell 22, h.cell 23, h.cell 24, h.cell 25⟩
theorem frE_cells (x : Fw) : ∀ v ∈ frE.c x, (∃ k, v = .int .i64 k) ∨ ∃ a m c, v = .slice a m c := by
  intro v hv
  simp only [frE, List.mem_cons, List.not_mem_nil, or_false] at hv
  rcases hv with rfl | rfl | rfl | rfl | rfl | rfl | rfl | rfl | rfl | rfl | rfl | rfl | rfl | rfl <;> first | exact Or.inl ⟨_, rfl⟩ | exact Or.inr ⟨_, _, _, rfl⟩
theorem frE_cell {w : World} {n i : Nat} {v : Value} {x : Fw} (hZ : frE.In w n x) (h : w.cell? ⟨n, i, none⟩ = some v) : (∃ k, v = .int .i64 k) ∨ ∃ a m c, v = .slice a m c := by
  rw [hZ.cell] at h
  exact frE_cells x v (List.mem_of_getElem? h)
theorem El.exec_loadF {α : Type} {E : El α} {P : Program} (R : El.Row E P) {o : Oper} {a : Act} (x : Operand) (ho : o.op = .load E.e x) {b off : Nat} (hx : a.eval x = .pointer (some ⟨b, off, none⟩)) {w : World} {p : α} (h : E.At w b off p) (cs : Array Value) (hc : cs = (E.c p).toArray) : (execOp a.eval o).run P w = .ok (.value (.agg cs)) w := by
  subst hc
  unfold execOp
  simp only [ho, hx, Instr.loadAt, Instr.sureAddr, Sem.run_bind, Sem.run_pure, Result.andThen_ok, El.run_load R h]
def FmS (n1 n2 : Nat) (p : Pnw) (x : Dw) (w : World) : Prop := dvE.In w n2 x ∧ pnE.In w n1 p
def MergeF (F : Option Addr → Nat → Nat → Act) (R : Option Addr → Nat → Nat → World → Prop) : Exit → Act → World → Prop
  | .normal, a, w => ∃ x y z, a = F x y z ∧ R x y z w
  | _, _, _ => False
theorem wp_mergeF {P : Program} {c : Code} {Q : Exit → Act → World → Prop} {a : Act} {w : World} (R : Option Addr → Nat → Nat → World → Prop) {F : Option Addr → Nat → Nat → Act} (h : c.wp P (MergeF F R) a w) (k : ∀ x y z w, R x y z w → Q .normal (F x y z) w) : c.wp P Q a w :=
  Code.wp_mono (fun e a w h => by
    cases e with
    | normal => obtain ⟨x, y, z, rfl, hr⟩ := h; exact k x y z w hr
    | _ => exact h.elim) h
set_option maxRecDepth 100000 in
set_option maxHeartbeats 8000000 in
theorem pFrame18_any (p : Pnw) (x : Dw) (beat : Int) (w : World) (up : Int) (hp : PlD p.p x.node up) (hr : DvR x.v) (hT : inE.Sl w p.A p.p.u) (hx : x.ok w) :
    Calls Tryz.prog 19 #[.agg #[.slice p.A p.p.u.length p.c, .int .i64 p.p.q, .int .i64 p.p.r, .int .i64 p.p.b, .int .i64 p.p.l, .int .i64 p.p.w, .int .i64 p.p.c, .int .i64 p.p.k, .int .i64 p.p.i], .agg #[.int .i64 x.node, .int .i64 x.boot, .int .i64 x.above, .int .i64 x.pos, .int .i64 x.y.t, .int .i64 x.pos, .slice none 0 0, .int .i64 x.q.f, .int .i64 x.q.g, .slice x.qA x.q.os.length x.qc, .slice none 0 0, .slice none 0 0, .slice none 0 0, .slice none 0 0, .slice x.y.bA x.y.base.length x.y.bc, .int .i64 x.y.t, .slice x.y.oA x.y.ops.length x.y.oc, .slice x.y.uA x.y.us.length x.y.uc, .slice x.y.wA x.y.now.length x.y.wc, .slice x.cA x.l.length x.cc, .int .i64 x.inc, .int .i64 x.mode, .int .i64 x.clock, .int .i64 x.sent, .slice x.pA 0 x.pc, .int .i64 x.late], .int .i64 beat] w fun e w' => ∃ f : Fw, e = .returned (.agg #[.int .i64 f.x.a, .int .i64 f.x.b, .int .i64 f.x.boot, .int .i64 f.x.first, .slice f.oA f.x.os.length f.oc, .int .i64 f.x.pos, .slice f.rA f.x.rs.length f.rc, .int .i64 f.x.start, .slice f.eA f.x.es.length f.ec, .int .i64 f.x.ack, .int .i64 f.x.grant, .int .i64 f.x.s, .int .i64 f.x.t, .slice f.gA f.x.gs.length f.gc]) ∧ f.ok w' ∧ f.x = frameD up p.p.b x.v beat ∧ Below w.heap.size w w' := by
  have hP : pnE.In (((w.alloc (.cells #[.slice p.A p.p.u.length p.c, .int .i64 p.p.q, .int .i64 p.p.r, .int .i64 p.p.b, .int .i64 p.p.l, .int .i64 p.p.w, .int .i64 p.p.c, .int .i64 p.p.k, .int .i64 p.p.i] 26)).alloc (.cells #[.int .i64 x.node, .int .i64 x.boot, .int .i64 x.above, .int .i64 x.pos, .int .i64 x.y.t, .int .i64 x.pos, .slice none 0 0, .int .i64 x.q.f, .int .i64 x.q.g, .slice x.qA x.q.os.length x.qc, .slice none 0 0, .slice none 0 0, .slice none 0 0, .slice none 0 0, .slice x.y.bA x.y.base.length x.y.bc, .int .i64 x.y.t, .slice x.y.oA x.y.ops.length x.y.oc, .slice x.y.uA x.y.us.length x.y.uc, .slice x.y.wA x.y.now.length x.y.wc, .slice x.cA x.l.length x.cc, .int .i64 x.inc, .int .i64 x.mode, .int .i64 x.clock, .int .i64 x.sent, .slice x.pA 0 x.pc, .int .i64 x.late] 44)).alloc (.cells #[.int .i64 0, .int .i64 0, .int .i64 0, .int .i64 0, .slice none 0 0, .int .i64 0, .slice none 0 0, .int .i64 0, .slice none 0 0, .int .i64 0, .int .i64 0, .int .i64 0, .int .i64 0, .slice none 0 0] 65)) w.heap.size p := ((El.In.new (E := pnE) w p _ rfl).alloc _).alloc _
  have hE : dvE.In (((w.alloc (.cells #[.slice p.A p.p.u.length p.c, .int .i64 p.p.q, .int .i64 p.p.r, .int .i64 p.p.b, .int .i64 p.p.l, .int .i64 p.p.w, .int .i64 p.p.c, .int .i64 p.p.k, .int .i64 p.p.i] 26)).alloc (.cells #[.int .i64 x.node, .int .i64 x.boot, .int .i64 x.above, .int .i64 x.pos, .int .i64 x.y.t, .int .i64 x.pos, .slice none 0 0, .int .i64 x.q.f, .int .i64 x.q.g, .slice x.qA x.q.os.length x.qc, .slice none 0 0, .slice none 0 0, .slice none 0 0, .slice none 0 0, .slice x.y.bA x.y.base.length x.y.bc, .int .i64 x.y.t, .slice x.y.oA x.y.ops.length x.y.oc, .slice x.y.uA x.y.us.length x.y.uc, .slice x.y.wA x.y.now.length x.y.wc, .slice x.cA x.l.length x.cc, .int .i64 x.inc, .int .i64 x.mode, .int .i64 x.clock, .int .i64 x.sent, .slice x.pA 0 x.pc, .int .i64 x.late] 44)).alloc (.cells #[.int .i64 0, .int .i64 0, .int .i64 0, .int .i64 0, .slice none 0 0, .int .i64 0, .slice none 0 0, .int .i64 0, .slice none 0 0, .int .i64 0, .int .i64 0, .int .i64 0, .int .i64 0, .slice none 0 0] 65)) (w.heap.size + 1) x := by
    have h := (El.In.new (E := dvE) (w.alloc (.cells #[.slice p.A p.p.u.length p.c, .int .i64 p.p.q, .int .i64 p.p.r, .int .i64 p.p.b, .int .i64 p.p.l, .int .i64 p.p.w, .int .i64 p.p.c, .int .i64 p.p.k, .int .i64 p.p.i] 26)) x #[.int .i64 x.node, .int .i64 x.boot, .int .i64 x.above, .int .i64 x.pos, .int .i64 x.y.t, .int .i64 x.pos, .slice none 0 0, .int .i64 x.q.f, .int .i64 x.q.g, .slice x.qA x.q.os.length x.qc, .slice none 0 0, .slice none 0 0, .slice none 0 0, .slice none 0 0, .slice x.y.bA x.y.base.length x.y.bc, .int .i64 x.y.t, .slice x.y.oA x.y.ops.length x.y.oc, .slice x.y.uA x.y.us.length x.y.uc, .slice x.y.wA x.y.now.length x.y.wc, .slice x.cA x.l.length x.cc, .int .i64 x.inc, .int .i64 x.mode, .int .i64 x.clock, .int .i64 x.sent, .slice x.pA 0 x.pc, .int .i64 x.late] rfl).alloc (.cells #[.int .i64 0, .int .i64 0, .int .i64 0, .int .i64 0, .slice none 0 0, .int .i64 0, .slice none 0 0, .int .i64 0, .slice none 0 0, .int .i64 0, .int .i64 0, .int .i64 0, .int .i64 0, .slice none 0 0] 65)
    rw [alloc_size] at h; exact h
  have hF : frE.In (((w.alloc (.cells #[.slice p.A p.p.u.length p.c, .int .i64 p.p.q, .int .i64 p.p.r, .int .i64 p.p.b, .int .i64 p.p.l, .int .i64 p.p.w, .int .i64 p.p.c, .int .i64 p.p.k, .int .i64 p.p.i] 26)).alloc (.cells #[.int .i64 x.node, .int .i64 x.boot, .int .i64 x.above, .int .i64 x.pos, .int .i64 x.y.t, .int .i64 x.pos, .slice none 0 0, .int .i64 x.q.f, .int .i64 x.q.g, .slice x.qA x.q.os.length x.qc, .slice none 0 0, .slice none 0 0, .slice none 0 0, .slice none 0 0, .slice x.y.bA x.y.base.length x.y.bc, .int .i64 x.y.t, .slice x.y.oA x.y.ops.length x.y.oc, .slice x.y.uA x.y.us.length x.y.uc, .slice x.y.wA x.y.now.length x.y.wc, .slice x.cA x.l.length x.cc, .int .i64 x.inc, .int .i64 x.mode, .int .i64 x.clock, .int .i64 x.sent, .slice x.pA 0 x.pc, .int .i64 x.late] 44)).alloc (.cells #[.int .i64 0, .int .i64 0, .int .i64 0, .int .i64 0, .slice none 0 0, .int .i64 0, .slice none 0 0, .int .i64 0, .slice none 0 0, .int .i64 0, .int .i64 0, .int .i64 0, .int .i64 0, .slice none 0 0] 65)) (w.heap.size + 2) zeroFw := by
    have h := El.In.new (E := frE) ((w.alloc (.cells #[.slice p.A p.p.u.length p.c, .int .i64 p.p.q, .int .i64 p.p.r, .int .i64 p.p.b, .int .i64 p.p.l, .int .i64 p.p.w, .int .i64 p.p.c, .int .i64 p.p.k, .int .i64 p.p.i] 26)).alloc (.cells #[.int .i64 x.node, .int .i64 x.boot, .int .i64 x.above, .int .i64 x.pos, .int .i64 x.y.t, .int .i64 x.pos, .slice none 0 0, .int .i64 x.q.f, .int .i64 x.q.g, .slice x.qA x.q.os.length x.qc, .slice none 0 0, .slice none 0 0, .slice none 0 0, .slice none 0 0, .slice x.y.bA x.y.base.length x.y.bc, .int .i64 x.y.t, .slice x.y.oA x.y.ops.length x.y.oc, .slice x.y.uA x.y.us.length x.y.uc, .slice x.y.wA x.y.now.length x.y.wc, .slice x.cA x.l.length x.cc, .int .i64 x.inc, .int .i64 x.mode, .int .i64 x.clock, .int .i64 x.sent, .slice x.pA 0 x.pc, .int .i64 x.late] 44)) zeroFw #[.int .i64 0, .int .i64 0, .int .i64 0, .int .i64 0, .slice none 0 0, .int .i64 0, .slice none 0 0, .int .i64 0, .slice none 0 0, .int .i64 0, .int .i64 0, .int .i64 0, .int .i64 0, .slice none 0 0] rfl
    rw [alloc_size, alloc_size] at h; exact h
  have hB := below_alloc (below_alloc (below_alloc (Below.refl w.heap.size w) (.cells #[.slice p.A p.p.u.length p.c, .int .i64 p.p.q, .int .i64 p.p.r, .int .i64 p.p.b, .int .i64 p.p.l, .int .i64 p.p.w, .int .i64 p.p.c, .int .i64 p.p.k, .int .i64 p.p.i] 26)) (.cells #[.int .i64 x.node, .int .i64 x.boot, .int .i64 x.above, .int .i64 x.pos, .int .i64 x.y.t, .int .i64 x.pos, .slice none 0 0, .int .i64 x.q.f, .int .i64 x.q.g, .slice x.qA x.q.os.length x.qc, .slice none 0 0, .slice none 0 0, .slice none 0 0, .slice none 0 0, .slice x.y.bA x.y.base.length x.y.bc, .int .i64 x.y.t, .slice x.y.oA x.y.ops.length x.y.oc, .slice x.y.uA x.y.us.length x.y.uc, .slice x.y.wA x.y.now.length x.y.wc, .slice x.cA x.l.length x.cc, .int .i64 x.inc, .int .i64 x.mode, .int .i64 x.clock, .int .i64 x.sent, .slice x.pA 0 x.pc, .int .i64 x.late] 44)) (.cells #[.int .i64 0, .int .i64 0, .int .i64 0, .int .i64 0, .slice none 0 0, .int .i64 0, .slice none 0 0, .int .i64 0, .slice none 0 0, .int .i64 0, .int .i64 0, .int .i64 0, .int .i64 0, .slice none 0 0] 65)
  have hq : SlV opE _ x.qA x.qc x.q.os := SlV.below hx.q hB
  have HTW := Lib.hid (hT.below hB)
  have CP := Lib.hid (fun (wx : World) (h : inE.Sl wx p.A p.p.u) => parent_any p x.node up wx hp h)
  have CO := Lib.hid (fun (wx : World) (h : SlV opE wx x.qA x.qc x.q.os) => quOut_any x.Q p.p.b wx (quN_dv hr) h)
  clear hx hT hp hr
  go_enter Tryz.func19, Tryz.ntmps19
  go_upto_region 1 with fail
  simp only [alloc_size, Nat.add_assoc, Nat.reduceAdd]
  generalize ((w.alloc (.cells #[.slice p.A p.p.u.length p.c, .int .i64 p.p.q, .int .i64 p.p.r, .int .i64 p.p.b, .int .i64 p.p.l, .int .i64 p.p.w, .int .i64 p.p.c, .int .i64 p.p.k, .int .i64 p.p.i] 26)).alloc (.cells #[.int .i64 x.node, .int .i64 x.boot, .int .i64 x.above, .int .i64 x.pos, .int .i64 x.y.t, .int .i64 x.pos, .slice none 0 0, .int .i64 x.q.f, .int .i64 x.q.g, .slice x.qA x.q.os.length x.qc, .slice none 0 0, .slice none 0 0, .slice none 0 0, .slice none 0 0, .slice x.y.bA x.y.base.length x.y.bc, .int .i64 x.y.t, .slice x.y.oA x.y.ops.length x.y.oc, .slice x.y.uA x.y.us.length x.y.uc, .slice x.y.wA x.y.now.length x.y.wc, .slice x.cA x.l.length x.cc, .int .i64 x.inc, .int .i64 x.mode, .int .i64 x.clock, .int .i64 x.sent, .slice x.pA 0 x.pc, .int .i64 x.late] 44)).alloc (.cells #[.int .i64 0, .int .i64 0, .int .i64 0, .int .i64 0, .slice none 0 0, .int .i64 0, .slice none 0 0, .int .i64 0, .slice none 0 0, .int .i64 0, .int .i64 0, .int .i64 0, .int .i64 0, .slice none 0 0] 65) = W at *
  obtain ⟨n1, h1⟩ : ∃ n1, w.heap.size = n1 := ⟨_, rfl⟩
  obtain ⟨n2, h2⟩ : ∃ n2, w.heap.size + 1 = n2 := ⟨_, rfl⟩
  obtain ⟨n3, h3⟩ : ∃ n3, w.heap.size + 2 = n3 := ⟨_, rfl⟩
  have hw3 : w.heap.size ≤ n3 := by omega
  rw [h3] at hF ⊢
  rw [h2] at hE ⊢
  rw [h1] at hP ⊢
  clear h1 h2 h3
  have c0 : W.cell? ⟨n2, 0, none⟩ = some (.int .i64 x.node) := hE.cell 0
  go_wp2_with (first | (refine El.load pnRow rfl _ rfl n1 0 rfl p hP.at #[.slice p.A p.p.u.length p.c, .int .i64 p.p.q, .int .i64 p.p.r, .int .i64 p.p.b, .int .i64 p.p.l, .int .i64 p.p.w, .int .i64 p.p.c, .int .i64 p.p.k, .int .i64 p.p.i] rfl ?_) | fail)
  refine (CP.out _ HTW.out).mono ?_
  rintro e w2 ⟨rfl, hb2⟩
  replace hE := hE.below hb2
  replace hP := hP.below hb2
  replace hF := hF.below hb2
  replace hq := SlV.below hq hb2
  replace hB := below_then hB hb2
  clear hb2 CP HTW c0
  go_upto_region 2 with fail
  apply wp_mergeF (fun A c r w' => SlV opE w' A c (outQ x.q p.p.b) ∧ SlV rpE w' (some ⟨r, 0, none⟩) 1 [reportD x.v beat] ∧ frE.In w' n3 ⟨A, c, some ⟨r, 0, none⟩, 1, none, 0, none, 0, frameD up p.p.b x.v beat⟩ ∧ Below w.heap.size w w')
  · refine region_anyG (S := FmS n1 n2 p x) 21 (by kernel_rfl) ?_
    have hd : Below w2.heap.size w2 w2.drew := (Below.refl _ _).drew
    replace hE : dvE.In w2.drew n2 x := hE
    replace hP : pnE.In w2.drew n1 p := hP
    replace hF : frE.In w2.drew n3 zeroFw := hF
    replace hq := SlV.below hq hd
    replace hB := hB.drew
    clear hd
    generalize w2.drew = X at *
    have hS : FmS n1 n2 p x X := ⟨hE, hP⟩
    refine anyG_take (i := 0) (v := .pointer (some ⟨n2, 0, none⟩)) rfl (by kernel_rfl) (by kernel_rfl) (by kernel_rfl) (by kernel_rfl) (by kernel_rfl) (fun _ _ _ h => h) (Or.inl ⟨by rfl, fun w' hSw => by (obtain ⟨s0, s1, s2, s3, s4, s5, s6, s7, s8, s9, s10, s11, s12, s13, s14, s15, s16, s17, s18, s19, s20, s21, s22, s23, s24, s25⟩ := dvAll hSw.1; obtain ⟨p0, p1, p2, p3, p4, p5, p6, p7, p8⟩ := pnIn9 hSw.2; go_simp)⟩) hS ?_
    try simp only [Act.put, List.setIfInBounds_toArray, List.set_cons_zero, List.set_cons_succ]
    refine anyG_take (i := 1) (v := .int .i64 x.node) rfl (by kernel_rfl) (by kernel_rfl) (by kernel_rfl) (by kernel_rfl) (by kernel_rfl) (fun _ _ _ h => h) (Or.inl ⟨by rfl, fun w' hSw => by (obtain ⟨s0, s1, s2, s3, s4, s5, s6, s7, s8, s9, s10, s11, s12, s13, s14, s15, s16, s17, s18, s19, s20, s21, s22, s23, s24, s25⟩ := dvAll hSw.1; obtain ⟨p0, p1, p2, p3, p4, p5, p6, p7, p8⟩ := pnIn9 hSw.2; go_simp)⟩) hS ?_
    try simp only [Act.put, List.setIfInBounds_toArray, List.set_cons_zero, List.set_cons_succ]
    refine anyG_take (i := 2) (v := .int .i64 up) rfl (by kernel_rfl) (by kernel_rfl) (by kernel_rfl) (by kernel_rfl) (by kernel_rfl) (fun _ _ _ h => h) (Or.inl ⟨by rfl, fun w' hSw => by (obtain ⟨s0, s1, s2, s3, s4, s5, s6, s7, s8, s9, s10, s11, s12, s13, s14, s15, s16, s17, s18, s19, s20, s21, s22, s23, s24, s25⟩ := dvAll hSw.1; obtain ⟨p0, p1, p2, p3, p4, p5, p6, p7, p8⟩ := pnIn9 hSw.2; go_simp)⟩) hS ?_
    try simp only [Act.put, List.setIfInBounds_toArray, List.set_cons_zero, List.set_cons_succ]
    refine anyG_take (i := 3) (v := .pointer (some ⟨n2, 1, none⟩)) rfl (by kernel_rfl) (by kernel_rfl) (by kernel_rfl) (by kernel_rfl) (by kernel_rfl) (fun _ _ _ h => h) (Or.inl ⟨by rfl, fun w' hSw => by (obtain ⟨s0, s1, s2, s3, s4, s5, s6, s7, s8, s9, s10, s11, s12, s13, s14, s15, s16, s17, s18, s19, s20, s21, s22, s23, s24, s25⟩ := dvAll hSw.1; obtain ⟨p0, p1, p2, p3, p4, p5, p6, p7, p8⟩ := pnIn9 hSw.2; go_simp)⟩) hS ?_
    try simp only [Act.put, List.setIfInBounds_toArray, List.set_cons_zero, List.set_cons_succ]
    refine anyG_take (i := 4) (v := .int .i64 x.boot) rfl (by kernel_rfl) (by kernel_rfl) (by kernel_rfl) (by kernel_rfl) (by kernel_rfl) (fun _ _ _ h => h) (Or.inl ⟨by rfl, fun w' hSw => by (obtain ⟨s0, s1, s2, s3, s4, s5, s6, s7, s8, s9, s10, s11, s12, s13, s14, s15, s16, s17, s18, s19, s20, s21, s22, s23, s24, s25⟩ := dvAll hSw.1; obtain ⟨p0, p1, p2, p3, p4, p5, p6, p7, p8⟩ := pnIn9 hSw.2; go_simp)⟩) hS ?_
    try simp only [Act.put, List.setIfInBounds_toArray, List.set_cons_zero, List.set_cons_succ]
    refine anyG_take (i := 5) (v := .pointer (some ⟨n2, 7, none⟩)) rfl (by kernel_rfl) (by kernel_rfl) (by kernel_rfl) (by kernel_rfl) (by kernel_rfl) (fun _ _ _ h => h) (Or.inl ⟨by rfl, fun w' hSw => by (obtain ⟨s0, s1, s2, s3, s4, s5, s6, s7, s8, s9, s10, s11, s12, s13, s14, s15, s16, s17, s18, s19, s20, s21, s22, s23, s24, s25⟩ := dvAll hSw.1; obtain ⟨p0, p1, p2, p3, p4, p5, p6, p7, p8⟩ := pnIn9 hSw.2; go_simp)⟩) hS ?_
    try simp only [Act.put, List.setIfInBounds_toArray, List.set_cons_zero, List.set_cons_succ]
    refine anyG_take (i := 6) (v := .pointer (some ⟨n2, 7, none⟩)) rfl (by kernel_rfl) (by kernel_rfl) (by kernel_rfl) (by kernel_rfl) (by kernel_rfl) (fun _ _ _ h => h) (Or.inl ⟨by rfl, fun w' hSw => by (obtain ⟨s0, s1, s2, s3, s4, s5, s6, s7, s8, s9, s10, s11, s12, s13, s14, s15, s16, s17, s18, s19, s20, s21, s22, s23, s24, s25⟩ := dvAll hSw.1; obtain ⟨p0, p1, p2, p3, p4, p5, p6, p7, p8⟩ := pnIn9 hSw.2; go_simp)⟩) hS ?_
    try simp only [Act.put, List.setIfInBounds_toArray, List.set_cons_zero, List.set_cons_succ]
    refine anyG_take (i := 7) (v := .int .i64 x.q.f) rfl (by kernel_rfl) (by kernel_rfl) (by kernel_rfl) (by kernel_rfl) (by kernel_rfl) (fun _ _ _ h => h) (Or.inl ⟨by rfl, fun w' hSw => by (obtain ⟨s0, s1, s2, s3, s4, s5, s6, s7, s8, s9, s10, s11, s12, s13, s14, s15, s16, s17, s18, s19, s20, s21, s22, s23, s24, s25⟩ := dvAll hSw.1; obtain ⟨p0, p1, p2, p3, p4, p5, p6, p7, p8⟩ := pnIn9 hSw.2; go_simp)⟩) hS ?_
    try simp only [Act.put, List.setIfInBounds_toArray, List.set_cons_zero, List.set_cons_succ]
    refine anyG_take (i := 8) (v := .pointer (some ⟨n2, 7, none⟩)) rfl (by kernel_rfl) (by kernel_rfl) (by kernel_rfl) (by kernel_rfl) (by kernel_rfl) (fun _ _ _ h => h) (Or.inl ⟨by rfl, fun w' hSw => by (obtain ⟨s0, s1, s2, s3, s4, s5, s6, s7, s8, s9, s10, s11, s12, s13, s14, s15, s16, s17, s18, s19, s20, s21, s22, s23, s24, s25⟩ := dvAll hSw.1; obtain ⟨p0, p1, p2, p3, p4, p5, p6, p7, p8⟩ := pnIn9 hSw.2; go_simp)⟩) hS ?_
    try simp only [Act.put, List.setIfInBounds_toArray, List.set_cons_zero, List.set_cons_succ]
    refine anyG_take (i := 9) (v := .agg #[.int .i64 x.q.f, .int .i64 x.q.g, .slice x.qA x.q.os.length x.qc]) rfl (by kernel_rfl) (by kernel_rfl) (by kernel_rfl) (by kernel_rfl) (by kernel_rfl) (fun _ _ _ h => h) (Or.inl ⟨by rfl, fun w' hSw => by (obtain ⟨s0, s1, s2, s3, s4, s5, s6, s7, s8, s9, s10, s11, s12, s13, s14, s15, s16, s17, s18, s19, s20, s21, s22, s23, s24, s25⟩ := dvAll hSw.1; obtain ⟨p0, p1, p2, p3, p4, p5, p6, p7, p8⟩ := pnIn9 hSw.2; go_simp)⟩) hS ?_
    try simp only [Act.put, List.setIfInBounds_toArray, List.set_cons_zero, List.set_cons_succ]
    refine anyG_take (i := 10) (v := .pointer (some ⟨n1, 3, none⟩)) rfl (by kernel_rfl) (by kernel_rfl) (by kernel_rfl) (by kernel_rfl) (by kernel_rfl) (fun _ _ _ h => h) (Or.inl ⟨by rfl, fun w' hSw => by (obtain ⟨s0, s1, s2, s3, s4, s5, s6, s7, s8, s9, s10, s11, s12, s13, s14, s15, s16, s17, s18, s19, s20, s21, s22, s23, s24, s25⟩ := dvAll hSw.1; obtain ⟨p0, p1, p2, p3, p4, p5, p6, p7, p8⟩ := pnIn9 hSw.2; go_simp)⟩) hS ?_
    try simp only [Act.put, List.setIfInBounds_toArray, List.set_cons_zero, List.set_cons_succ]
    refine anyG_take (i := 11) (v := .int .i64 p.p.b) rfl (by kernel_rfl) (by kernel_rfl) (by kernel_rfl) (by kernel_rfl) (by kernel_rfl) (fun _ _ _ h => h) (Or.inl ⟨by rfl, fun w' hSw => by (obtain ⟨s0, s1, s2, s3, s4, s5, s6, s7, s8, s9, s10, s11, s12, s13, s14, s15, s16, s17, s18, s19, s20, s21, s22, s23, s24, s25⟩ := dvAll hSw.1; obtain ⟨p0, p1, p2, p3, p4, p5, p6, p7, p8⟩ := pnIn9 hSw.2; go_simp)⟩) hS ?_
    try simp only [Act.put, List.setIfInBounds_toArray, List.set_cons_zero, List.set_cons_succ]
    refine anyG_take (i := 13) (v := .pointer (some ⟨n2, 3, none⟩)) rfl (by kernel_rfl) (by kernel_rfl) (by kernel_rfl) (by kernel_rfl) (by kernel_rfl) (fun _ _ _ h => h) (Or.inl ⟨by rfl, fun w' hSw => by (obtain ⟨s0, s1, s2, s3, s4, s5, s6, s7, s8, s9, s10, s11, s12, s13, s14, s15, s16, s17, s18, s19, s20, s21, s22, s23, s24, s25⟩ := dvAll hSw.1; obtain ⟨p0, p1, p2, p3, p4, p5, p6, p7, p8⟩ := pnIn9 hSw.2; go_simp)⟩) hS ?_
    try simp only [Act.put, List.setIfInBounds_toArray, List.set_cons_zero, List.set_cons_succ]
    refine anyG_take (i := 14) (v := .pointer (some ⟨n2, 5, none⟩)) rfl (by kernel_rfl) (by kernel_rfl) (by kernel_rfl) (by kernel_rfl) (by kernel_rfl) (fun _ _ _ h => h) (Or.inl ⟨by rfl, fun w' hSw => by (obtain ⟨s0, s1, s2, s3, s4, s5, s6, s7, s8, s9, s10, s11, s12, s13, s14, s15, s16, s17, s18, s19, s20, s21, s22, s23, s24, s25⟩ := dvAll hSw.1; obtain ⟨p0, p1, p2, p3, p4, p5, p6, p7, p8⟩ := pnIn9 hSw.2; go_simp)⟩) hS ?_
    try simp only [Act.put, List.setIfInBounds_toArray, List.set_cons_zero, List.set_cons_succ]
    refine anyG_take (i := 15) (v := .int .i64 x.pos) rfl (by kernel_rfl) (by kernel_rfl) (by kernel_rfl) (by kernel_rfl) (by kernel_rfl) (fun _ _ _ h => h) (Or.inl ⟨by rfl, fun w' hSw => by (obtain ⟨s0, s1, s2, s3, s4, s5, s6, s7, s8, s9, s10, s11, s12, s13, s14, s15, s16, s17, s18, s19, s20, s21, s22, s23, s24, s25⟩ := dvAll hSw.1; obtain ⟨p0, p1, p2, p3, p4, p5, p6, p7, p8⟩ := pnIn9 hSw.2; go_simp)⟩) hS ?_
    try simp only [Act.put, List.setIfInBounds_toArray, List.set_cons_zero, List.set_cons_succ]
    refine anyG_take (i := 16) (v := .agg #[.int .i64 x.node, .int .i64 x.boot, .int .i64 x.above, .int .i64 x.pos, .int .i64 x.y.t, .int .i64 x.pos, .slice none 0 0, .int .i64 x.q.f, .int .i64 x.q.g, .slice x.qA x.q.os.length x.qc, .slice none 0 0, .slice none 0 0, .slice none 0 0, .slice none 0 0, .slice x.y.bA x.y.base.length x.y.bc, .int .i64 x.y.t, .slice x.y.oA x.y.ops.length x.y.oc, .slice x.y.uA x.y.us.length x.y.uc, .slice x.y.wA x.y.now.length x.y.wc, .slice x.cA x.l.length x.cc, .int .i64 x.inc, .int .i64 x.mode, .int .i64 x.clock, .int .i64 x.sent, .slice x.pA 0 x.pc, .int .i64 x.late]) rfl (by kernel_rfl) (by kernel_rfl) (by kernel_rfl) (by kernel_rfl) (by kernel_rfl) (fun _ _ _ h => h) (Or.inl ⟨by rfl, fun w' hSw => El.exec_loadF dvRow (.tmp 4) rfl rfl hSw.1.at #[.int .i64 x.node, .int .i64 x.boot, .int .i64 x.above, .int .i64 x.pos, .int .i64 x.y.t, .int .i64 x.pos, .slice none 0 0, .int .i64 x.q.f, .int .i64 x.q.g, .slice x.qA x.q.os.length x.qc, .slice none 0 0, .slice none 0 0, .slice none 0 0, .slice none 0 0, .slice x.y.bA x.y.base.length x.y.bc, .int .i64 x.y.t, .slice x.y.oA x.y.ops.length x.y.oc, .slice x.y.uA x.y.us.length x.y.uc, .slice x.y.wA x.y.now.length x.y.wc, .slice x.cA x.l.length x.cc, .int .i64 x.inc, .int .i64 x.mode, .int .i64 x.clock, .int .i64 x.sent, .slice x.pA 0 x.pc, .int .i64 x.late] rfl⟩) hS ?_
    try simp only [Act.put, List.setIfInBounds_toArray, List.set_cons_zero, List.set_cons_succ]
    refine anyG_take (i := 17) (v := .int .i64 beat) rfl (by kernel_rfl) (by kernel_rfl) (by kernel_rfl) (by kernel_rfl) (by kernel_rfl) (fun _ _ _ h => h) (Or.inl ⟨by rfl, fun w' hSw => by (obtain ⟨s0, s1, s2, s3, s4, s5, s6, s7, s8, s9, s10, s11, s12, s13, s14, s15, s16, s17, s18, s19, s20, s21, s22, s23, s24, s25⟩ := dvAll hSw.1; obtain ⟨p0, p1, p2, p3, p4, p5, p6, p7, p8⟩ := pnIn9 hSw.2; go_simp)⟩) hS ?_
    try simp only [Act.put, List.setIfInBounds_toArray, List.set_cons_zero, List.set_cons_succ]
    refine anyG_step (rs := [12]) (by kernel_rfl) (by simp) ?_
    refine AllG.cons rfl (fun K hK => ?_) AllG.nil
    go_simp
    refine (CO.out _ hq).mono ?_
    rintro e WA ⟨A', c', rfl, hO, hbA⟩
    have hlen := hbA.size
    replace hE := hE.below hbA
    replace hP := hP.below hbA
    replace hF := hF.below hbA
    replace hq := SlV.below hq hbA
    replace hB := below_then hB hbA
    try replace hRow := hRow.below hbA
    clear hbA hlen
    try go_wp2_with fail
    refine hK.out _ _ (⟨hE, hP⟩ : FmS n1 n2 p x _) ?_
    try simp only [Act.put, List.setIfInBounds_toArray, List.set_cons_zero, List.set_cons_succ]
    clear hK hS
    have hS : FmS n1 n2 p x _ := ⟨hE, hP⟩
    refine anyG_step (rs := [18]) (by kernel_rfl) (by simp) ?_
    refine AllG.cons rfl (fun K hK => ?_) AllG.nil
    go_simp
    refine (report18_any x beat _).mono ?_
    rintro e WB ⟨rfl, hbB⟩
    replace hE := hE.below hbB
    replace hP := hP.below hbB
    replace hF := hF.below hbB
    replace hq := SlV.below hq hbB
    replace hB := below_then hB hbB
    try replace hO := SlV.below hO hbB
    clear hbB
    try go_wp2_with fail
    refine hK.out _ _ (⟨hE, hP⟩ : FmS n1 n2 p x _) ?_
    try simp only [Act.put, List.setIfInBounds_toArray, List.set_cons_zero, List.set_cons_succ]
    clear hK hS
    have hS : FmS n1 n2 p x _ := ⟨hE, hP⟩
    refine anyG_step (rs := [19]) (by kernel_rfl) (by simp) ?_
    refine AllG.cons rfl (fun K hK => ?_) AllG.nil
    have hRow : SlV rpE (WB.alloc (.cells #[.int .i64 (reportD x.v beat).d, .int .i64 (reportD x.v beat).i, .int .i64 (reportD x.v beat).b, .int .i64 (reportD x.v beat).t, .int .i64 (reportD x.v beat).m, .int .i64 (reportD x.v beat).p, .int .i64 (reportD x.v beat).c, .int .i64 (reportD x.v beat).s, .int .i64 (reportD x.v beat).k] 79)) (some ⟨WB.heap.size, 0, none⟩) 1 [reportD x.v beat] := slOne18 (E := rpE) WB (reportD x.v beat) #[.int .i64 (reportD x.v beat).d, .int .i64 (reportD x.v beat).i, .int .i64 (reportD x.v beat).b, .int .i64 (reportD x.v beat).t, .int .i64 (reportD x.v beat).m, .int .i64 (reportD x.v beat).p, .int .i64 (reportD x.v beat).c, .int .i64 (reportD x.v beat).s, .int .i64 (reportD x.v beat).k] rfl
    have hal := below_alloc (Below.refl WB.heap.size WB) (.cells #[.int .i64 (reportD x.v beat).d, .int .i64 (reportD x.v beat).i, .int .i64 (reportD x.v beat).b, .int .i64 (reportD x.v beat).t, .int .i64 (reportD x.v beat).m, .int .i64 (reportD x.v beat).p, .int .i64 (reportD x.v beat).c, .int .i64 (reportD x.v beat).s, .int .i64 (reportD x.v beat).k] 79)
    have hn3r : n3 < WB.heap.size := hF.lt
    replace hE := hE.below hal
    replace hP := hP.below hal
    replace hF := hF.below hal
    replace hq := SlV.below hq hal
    replace hB := below_then hB hal
    try replace hO := SlV.below hO hal
    clear hal
    go_simp
    refine hK.out _ _ (⟨hE, hP⟩ : FmS n1 n2 p x _) ?_
    try simp only [Act.put, List.setIfInBounds_toArray, List.set_cons_zero, List.set_cons_succ]
    clear hK hS
    have hS : FmS n1 n2 p x _ := ⟨hE, hP⟩
    have hn3r : n3 < WB.heap.size := hn3r
    generalize WB.alloc (.cells #[.int .i64 (reportD x.v beat).d, .int .i64 (reportD x.v beat).i, .int .i64 (reportD x.v beat).b, .int .i64 (reportD x.v beat).t, .int .i64 (reportD x.v beat).m, .int .i64 (reportD x.v beat).p, .int .i64 (reportD x.v beat).c, .int .i64 (reportD x.v beat).s, .int .i64 (reportD x.v beat).k] 79) = WC at *
    generalize WB.heap.size = nr at *
    refine anyG_plain (i := 20) (v := .agg #[.int .i64 x.node, .int .i64 up, .int .i64 x.boot, .int .i64 x.q.f, .slice A' (outQ x.Q.x p.p.b).length c', .int .i64 x.pos, .slice (some ⟨nr, 0, none⟩) 1 1, .int .i64 1, .slice none 0 0, .int .i64 0, .int .i64 0, .int .i64 0, .int .i64 0, .slice none 0 0]) rfl (by kernel_rfl) (by kernel_rfl) (by kernel_rfl) (by kernel_rfl) (fun _ _ _ h => h) (Or.inl ⟨by rfl, fun w' => by go_simp⟩) (fun _ => hS) ?_
    try simp only [Act.put, List.setIfInBounds_toArray, List.set_cons_zero, List.set_cons_succ]
    refine anyG_step (rs := [21]) (by kernel_rfl) (by simp) ?_
    refine AllG.last (n := 21) rfl (fun K hK => ?_)
    refine El.step_store frRow rfl _ _ rfl n3 (⟨A', c', some ⟨nr, 0, none⟩, 1, none, 0, none, 0, frameD up p.p.b x.v beat⟩ : Fw) _ rfl rfl rfl zeroFw hF ?_
    refine hK.out _ _ ?_
    clear hK hS
    refine anyG_done (by kernel_rfl) ?_ _
    have hgr := fun (V : World) (cs : Array Value) => by_row V n3 cs
    refine ⟨A', c', nr, rfl, SlV.keepRD hO (fun o _ ha => by rcases frE_cell hF (ha 6 _ rfl) with ⟨_, h⟩ | ⟨_, _, _, h⟩ <;> cases h) (hgr _ _), ⟨hRow.1.keep (hgr _ _) (fun a e e2 => ?_), hRow.2⟩, hF.set (⟨A', c', some ⟨nr, 0, none⟩, 1, none, 0, none, 0, frameD up p.p.b x.v beat⟩ : Fw) _ rfl, below_setRow hB hw3 _⟩
    have e3 := Option.some.inj e
    subst e3
    have e4 : nr = n3 := Option.some.inj e2
    omega
  rintro A c r V ⟨hO, hRow, hF, hB⟩
  clear hE hP hq CO
  go_wp2_with fail
  refine El.ret1 frRow hF rfl rfl rfl _ rfl ?_
  exact ⟨⟨A, c, some ⟨r, 0, none⟩, 1, none, 0, none, 0, frameD up p.p.b x.v beat⟩, rfl, ⟨hO, hRow, SlV.nil _ _, SlV.nil _ _⟩, rfl, hB⟩
theorem deviceCalls : DeviceCalls where
  new n w _ := pNew18_any n w
  edit p x t w _ _ hr _ _ hs _ hx := pEdit18_any p x t w hr hs hx
  leave x w hr hx := (leave18_any x w hx (by have h1 : 1 ≤ x.inc := hr.inc.1; have h2 : x.inc ≤ 4294967296 := hr.inc.2; omega)).mono fun _ _ ⟨h1, h2, h3⟩ => ⟨leaveW x, h1, h2, rfl, h3⟩
  take p x f w up hp hr hf hT hx hfo := pTake18_any p x f w up hp hr hf hT hx hfo
  frame p x beat w up hp hr _ hT hx := pFrame18_any p x beat w up hp hr hT hx
  vector x w hr hx := vector18_any x w (by have h2 : x.l.length ≤ 12 := hr.l.1; omega) hx
  read x w hr hx := read18_any x w hr.y hx
end Go.Proofs.YtdcjffajmckleaaGreatDoor

/- Slices among the arguments, opened. -/
namespace Go.Proofs.YtdcjffajmckleaaGreatDoor
open Go.ChangeShapes Go.WideShapes Go.ChangeAt Go.RowKit Go.Deep Nam Cod Tre Pst

def WideMv (m : Mv) : Prop := Wide m.C m.D m.I m.M m.K m.U ∧ m.s.size ≤ maxLen
set_option maxRecDepth 100000 in
theorem open_ops {H : Type} {enc : TypeId × Value → H} {W : World} {base : Nat} {v : Value} {d : DataW H} {ps : List MemPlace}
    (hv : Value.okWide Tryz.prog W .any base 31 v) (h : DataW.Trod enc Tryz.prog W 0 (fun _ => true) true 31 v d ps) :
    ∃ (A : Option Addr) (cap : Nat) (l : List Mv), v = .slice A l.length cap ∧ opE.Sl W A l ∧ l.length ≤ cap ∧ (A = none → cap = 0) ∧ ∀ m ∈ l, WideMv m :=
  open_list opE WideMv Tryz.underlying31 cells25 (fun h => by
    obtain ⟨C, D, I, M, K, U, t, rfl, hw, ht⟩ := read_op h
    exact ⟨⟨C, D, I, M, K, U, t⟩, rfl, hw, ht⟩) hv h
end Go.Proofs.YtdcjffajmckleaaGreatDoor

/- What the listed tables give at the start that meets the condition (no table is read by the walks). -/
namespace Go.Proofs.YtdcjffajmckleaaGreatDoor
open Go.ChangeShapes Go.WideShapes Go.ChangeAt Go.RowKit

abbrev laid3 {H : Type} : List (String × DataW H) := [("math/bits.deBruijn32tab", Rows.laid_math_bits_deBruijn32tab), ("math/bits.deBruijn64tab", Rows.laid_math_bits_deBruijn64tab), ("internal/strconv.uint64pow10", Rows.laid_internal_strconv_uint64pow10)]
theorem door_met (os : Os) (args : Array Value) : laidMetH Tryz.prog laid3 ((World.doorLaid Tryz.prog 24 os).forCall (fun _ _ => 0) ⟨#[], args, []⟩).memory :=
  laidMetH_of_parts3 (fuel := 8) (laidMet_of_run' 8 (by kernel_rfl) (by kernel_rfl)) (by kernel_rfl) (by kernel_rfl)
end Go.Proofs.YtdcjffajmckleaaGreatDoor
