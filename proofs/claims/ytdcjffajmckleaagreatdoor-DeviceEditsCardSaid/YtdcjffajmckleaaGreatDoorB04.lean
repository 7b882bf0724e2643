/- Texts laid one behind the other: Rb, Rd, Wk, Wm, Wb, Wa, Wc, Wd, We, Wf, Wg, Wh, Vk, Wi. -/
import Derived.Test.YtdcjffajmckleaaGreatDoorB03
import Derived.Deep.RegionHeld3
/- Devices' states in memory; what the program's functions shall answer (DeviceCalls). -/
namespace Go.Proofs.YtdcjffajmckleaaGreatDoor
open Go.RowKit Nam Cod Tre Pst Pln

/-- A device's state, and where its slices lie. -/
structure Dw where
  node : Int
  boot : Int
  above : Int
  pos : Int
  qA : Option Addr
  qc : Nat
  q : Qu
  y : Pw
  cA : Option Addr
  cc : Nat
  l : List Cn
  inc : Int
  mode : Int
  clock : Int
  sent : Int
  pA : Option Addr
  pc : Nat
  late : Int
def Dw.v (x : Dw) : Dv := ⟨x.node, x.boot, x.above, x.pos, x.q, x.y.v, x.l, x.inc, x.mode, x.clock, x.sent, x.late⟩
def Dw.zero : Dw := ⟨0, 0, 0, 0, none, 0, nilQu, Pw.zero, none, 0, [], 0, 0, 0, 0, none, 0, 0⟩
def dvE : El Dw where
  e := 44
  k := 26
  c x := [.int .i64 x.node, .int .i64 x.boot, .int .i64 x.above, .int .i64 x.pos, .int .i64 x.y.t, .int .i64 x.pos, .slice none 0 0, .int .i64 x.q.f, .int .i64 x.q.g, .slice x.qA x.q.os.length x.qc, .slice none 0 0, .slice none 0 0, .slice none 0 0, .slice none 0 0, .slice x.y.bA x.y.base.length x.y.bc, .int .i64 x.y.t, .slice x.y.oA x.y.ops.length x.y.oc, .slice x.y.uA x.y.us.length x.y.uc, .slice x.y.wA x.y.now.length x.y.wc, .slice x.cA x.l.length x.cc, .int .i64 x.inc, .int .i64 x.mode, .int .i64 x.clock, .int .i64 x.sent, .slice x.pA 0 x.pc, .int .i64 x.late]
  len _ := rfl
  one p u h := by
    simp only [List.mem_cons, List.not_mem_nil, or_false] at h
    rcases h with rfl | rfl | rfl | rfl | rfl | rfl | rfl | rfl | rfl | rfl | rfl | rfl | rfl | rfl | rfl | rfl | rfl | rfl | rfl | rfl | rfl | rfl | rfl | rfl | rfl | rfl <;> rfl
  pos := by decide
theorem dvRow : dvE.Row Tryz.prog := ⟨by kernel_rfl, _, Tryz.underlying44, rfl⟩
/-- Counts lie in a block of counts. -/
def CnT (w : World) (A : Option Addr) : Prop := ∀ a, A = some a → ∃ c, w.heap[a.block]? = some (.cells c 73 (0, 0))
theorem CnT.below {W w : World} {A : Option Addr} (h : CnT W A) (hb : Below W.heap.size W w) : CnT w A := fun a e => by
  obtain ⟨c, hc⟩ := h a e
  refine ⟨c, (hb.block _ ?_).trans hc⟩
  rcases Nat.lt_or_ge a.block W.heap.size with h1 | h1
  · exact h1
  · rw [Array.getElem?_eq_none h1] at hc; cases hc
theorem CnT.nil (w : World) : CnT w none := fun a e => by cases e
structure Dw.ok (x : Dw) (w : World) : Prop where
  p : PastOk w x.y
  q : SlV opE w x.qA x.qc x.q.os
  c : SlV cnE w x.cA x.cc x.l
  t : CnT w x.cA
theorem Dw.ok.below {x : Dw} {W w : World} (h : x.ok W) (hb : Below W.heap.size W w) : x.ok w := ⟨h.p.below hb, SlV.below h.q hb, SlV.below h.c hb, h.t.below hb⟩
theorem Dw.ok.zero (w : World) : Dw.zero.ok w := ⟨PastOk.zero w, SlV.nil _ _, SlV.nil _ _, CnT.nil w⟩
theorem dvE_cells (x : Dw) : ∀ v ∈ dvE.c x, (∃ k, v = .int .i64 k) ∨ ∃ a m c, v = .slice a m c := by
  intro v hv
  simp only [dvE, List.mem_cons, List.not_mem_nil, or_false] at hv
  rcases hv with rfl | rfl | rfl | rfl | rfl | rfl | rfl | rfl | rfl | rfl | rfl | rfl | rfl | rfl | rfl | rfl | rfl | rfl | rfl | rfl | rfl | rfl | rfl | rfl | rfl | rfl <;> first | exact Or.inl ⟨_, rfl⟩ | exact Or.inr ⟨_, _, _, rfl⟩
theorem dvE_cell {w : World} {n i : Nat} {v : Value} {x : Dw} (hZ : dvE.In w n x) (h : w.cell? ⟨n, i, none⟩ = some v) : (∃ k, v = .int .i64 k) ∨ ∃ a m c, v = .slice a m c := by
  rw [hZ.cell] at h
  exact dvE_cells x v (List.mem_of_getElem? h)
theorem SlV.keepRD {α : Type} {E : El α} {w w' : World} {A : Option Addr} {c : Nat} {l : List α} {b : Nat} (h : SlV E w A c l) (hno : ∀ off (h : 0 < l.length), ¬ E.At w b off l[0]) (hg : w.grownBy w' (some b)) : SlV E w' A c l := by
  refine ⟨fun h0 => ?_, h.2⟩
  obtain ⟨b1, off, e, hl, hc⟩ := h.1 h0
  have hne : b1 ≠ b := by
    rintro rfl
    exact hno _ h0 (hc 0 h0)
  exact ⟨b1, off, e, Nat.lt_of_lt_of_le hl hg.size, fun i hi => (hc i hi).grown hg (fun e => hne (Option.some.inj e))⟩
/-- A state's block is written: what another state's slices hold stays. -/
theorem Dw.ok.keepB {w w' : World} {x z : Dw} {n : Nat} (h : x.ok w) (hZ : dvE.In w n z) (hg : w.grownBy w' (some n)) : x.ok w' := by
  have hp : ∀ off y, ¬ plE.At w n off y := fun off y ha => by
    rcases dvE_cell hZ (ha 2 _ rfl) with ⟨_, h⟩ | ⟨_, _, _, h⟩ <;> cases h
  have ho : ∀ off y, ¬ opE.At w n off y := fun off y ha => by
    rcases dvE_cell hZ (ha 6 _ rfl) with ⟨_, h⟩ | ⟨_, _, _, h⟩ <;> cases h
  have hu : ∀ off y, ¬ unE.At w n off y := fun off y ha => by
    rcases dvE_cell hZ (ha 2 _ rfl) with ⟨_, h⟩ | ⟨_, _, _, h⟩ <;> cases h
  have hne : ∀ a, x.cA = some a → a.block ≠ n := fun a e he => by
    obtain ⟨c, hc⟩ := h.t a e
    have hZ' : w.heap[n]? = some (.cells (dvE.c z).toArray 44 (0, 0)) := hZ
    rw [he, hZ'] at hc
    injection hc with hc
    injection hc with _ hc _
    exact absurd hc (by decide)
  refine ⟨⟨h.p.b.keepRD (fun o _ => hp o _) hg, h.p.o.keepRD (fun o _ => ho o _) hg, h.p.u.keepRD (fun o _ => hu o _) hg, h.p.w.keepRD (fun o _ => hp o _) hg⟩, h.q.keepRD (fun o _ => ho o _) hg, ⟨h.c.1.keep hg (fun a e e2 => hne a e (Option.some.inj e2)), h.c.2⟩, fun a e => ?_⟩
  obtain ⟨c, hc⟩ := h.t a e
  refine ⟨c, (hg.block _ ?_ (fun e2 => hne a e (Option.some.inj e2))).trans hc⟩
  rcases Nat.lt_or_ge a.block w.heap.size with h1 | h1
  · exact h1
  · rw [Array.getElem?_eq_none h1] at hc; cases hc
def MergeE (F : Dw → Dw → Nat → Act) (R : Dw → Dw → Nat → World → Prop) : Exit → Act → World → Prop
  | .normal, a, w => ∃ x y n, a = F x y n ∧ R x y n w
  | _, _, _ => False
theorem wp_mergeE {P : Program} {c : Code} {Q : Exit → Act → World → Prop} {a : Act} {w : World} (R : Dw → Dw → Nat → World → Prop) {F : Dw → Dw → Nat → Act} (h : c.wp P (MergeE F R) a w) (k : ∀ x y n w, R x y n w → Q .normal (F x y n) w) : c.wp P Q a w :=
  Code.wp_mono (fun e a w h => by
    cases e with
    | normal => obtain ⟨x, y, n, rfl, hr⟩ := h; exact k x y n w hr
    | _ => exact h.elim) h
def MergeD (F : Dw → Nat → Act) (R : Dw → Nat → World → Prop) : Exit → Act → World → Prop
  | .normal, a, w => ∃ y n, a = F y n ∧ R y n w
  | _, _, _ => False
theorem wp_mergeD {P : Program} {c : Code} {Q : Exit → Act → World → Prop} {a : Act} {w : World} (R : Dw → Nat → World → Prop) {F : Dw → Nat → Act} (h : c.wp P (MergeD F R) a w) (k : ∀ y n w, R y n w → Q .normal (F y n) w) : c.wp P Q a w :=
  Code.wp_mono (fun e a w h => by
    cases e with
    | normal => obtain ⟨y, n, rfl, hr⟩ := h; exact k y n w hr
    | _ => exact h.elim) h
/-- A frame as it comes: numbers far from where they wrap, no gifts. -/
structure FrD (f : Fr) : Prop where
  n : ∀ n ∈ frL f, 0 ≤ n ∧ n ≤ 4294967296
  es : ∀ e ∈ f.es, entB e = true ∧ e.o.C ≤ 4294967296 ∧ e.o.s.size ≤ 1000
  l : f.os.length ≤ 64 ∧ f.rs.length ≤ 8 ∧ f.es.length ≤ 64
  gs : f.gs = []
structure PlD (p : Pn) (n : Int) (up : Int) : Prop where
  up : 0 < n ∧ p.u[n.toNat]? = some up ∧ 0 ≤ up ∧ up < 12
  l : p.u.length ≤ 12
  q : 0 ≤ p.q ∧ p.q ≤ 1000
  b : 0 ≤ p.b ∧ p.b ≤ 1000
  i : 0 ≤ p.i ∧ p.i ≤ 64
structure DeviceCalls : Prop where
  new : ∀ (n : Int) (w : World), 0 ≤ n ∧ n < 12 → Calls Tryz.prog 8 #[.int .i64 n] w fun e w' => ∃ x : Dw, e = .returned (.agg #[.int .i64 x.node, .int .i64 x.boot, .int .i64 x.above, .int .i64 x.pos, .int .i64 x.y.t, .int .i64 x.pos, .slice none 0 0, .int .i64 x.q.f, .int .i64 x.q.g, .slice x.qA x.q.os.length x.qc, .slice none 0 0, .slice none 0 0, .slice none 0 0, .slice none 0 0, .slice x.y.bA x.y.base.length x.y.bc, .int .i64 x.y.t, .slice x.y.oA x.y.ops.length x.y.oc, .slice x.y.uA x.y.us.length x.y.uc, .slice x.y.wA x.y.now.length x.y.wc, .slice x.cA x.l.length x.cc, .int .i64 x.inc, .int .i64 x.mode, .int .i64 x.clock, .int .i64 x.sent, .slice x.pA 0 x.pc, .int .i64 x.late]) ∧ x.ok w' ∧ x.v = newD n ∧ Below w.heap.size w w'
  edit : ∀ (p : Pnw) (x : Dw) (t : Pl) (w : World) (up : Int), PlD p.p x.node up → DvR x.v → i64 t.n → i64 t.u → t.s.size ≤ 9223372036854775807 → inE.Sl w p.A p.p.u → x.ok w → Calls Tryz.prog 9 #[.agg #[.slice p.A p.p.u.length p.c, .int .i64 p.p.q, .int .i64 p.p.r, .int .i64 p.p.b, .int .i64 p.p.l, .int .i64 p.p.w, .int .i64 p.p.c, .int .i64 p.p.k, .int .i64 p.p.i], .agg #[.int .i64 x.node, .int .i64 x.boot, .int .i64 x.above, .int .i64 x.pos, .int .i64 x.y.t, .int .i64 x.pos, .slice none 0 0, .int .i64 x.q.f, .int .i64 x.q.g, .slice x.qA x.q.os.length x.qc, .slice none 0 0, .slice none 0 0, .slice none 0 0, .slice none 0 0, .slice x.y.bA x.y.base.length x.y.bc, .int .i64 x.y.t, .slice x.y.oA x.y.ops.length x.y.oc, .slice x.y.uA x.y.us.length x.y.uc, .slice x.y.wA x.y.now.length x.y.wc, .slice x.cA x.l.length x.cc, .int .i64 x.inc, .int .i64 x.mode, .int .i64 x.clock, .int .i64 x.sent, .slice x.pA 0 x.pc, .int .i64 x.late], .agg #[.int .i64 t.n, .int .i64 t.u, .string t.s]] w fun e w' => ∃ (z : Dw) (n : Int), e = .returned (.tuple #[.agg #[.int .i64 z.node, .int .i64 z.boot, .int .i64 z.above, .int .i64 z.pos, .int .i64 z.y.t, .int .i64 z.pos, .slice none 0 0, .int .i64 z.q.f, .int .i64 z.q.g, .slice z.qA z.q.os.length z.qc, .slice none 0 0, .slice none 0 0, .slice none 0 0, .slice none 0 0, .slice z.y.bA z.y.base.length z.y.bc, .int .i64 z.y.t, .slice z.y.oA z.y.ops.length z.y.oc, .slice z.y.uA z.y.us.length z.y.uc, .slice z.y.wA z.y.now.length z.y.wc, .slice z.cA z.l.length z.cc, .int .i64 z.inc, .int .i64 z.mode, .int .i64 z.clock, .int .i64 z.sent, .slice z.pA 0 z.pc, .int .i64 z.late], .int .i64 n]) ∧ z.ok w' ∧ editD p.p.q p.p.i x.v t.n t.u t.s = (z.v, n) ∧ Below w.heap.size w w'
  leave : ∀ (x : Dw) (w : World), DvR x.v → x.ok w → Calls Tryz.prog 20 #[.agg #[.int .i64 x.node, .int .i64 x.boot, .int .i64 x.above, .int .i64 x.pos, .int .i64 x.y.t, .int .i64 x.pos, .slice none 0 0, .int .i64 x.q.f, .int .i64 x.q.g, .slice x.qA x.q.os.length x.qc, .slice none 0 0, .slice none 0 0, .slice none 0 0, .slice none 0 0, .slice x.y.bA x.y.base.length x.y.bc, .int .i64 x.y.t, .slice x.y.oA x.y.ops.length x.y.oc, .slice x.y.uA x.y.us.length x.y.uc, .slice x.y.wA x.y.now.length x.y.wc, .slice x.cA x.l.length x.cc, .int .i64 x.inc, .int .i64 x.mode, .int .i64 x.clock, .int .i64 x.sent, .slice x.pA 0 x.pc, .int .i64 x.late]] w fun e w' => ∃ z : Dw, e = .returned (.agg #[.int .i64 z.node, .int .i64 z.boot, .int .i64 z.above, .int .i64 z.pos, .int .i64 z.y.t, .int .i64 z.pos, .slice none 0 0, .int .i64 z.q.f, .int .i64 z.q.g, .slice z.qA z.q.os.length z.qc, .slice none 0 0, .slice none 0 0, .slice none 0 0, .slice none 0 0, .slice z.y.bA z.y.base.length z.y.bc, .int .i64 z.y.t, .slice z.y.oA z.y.ops.length z.y.oc, .slice z.y.uA z.y.us.length z.y.uc, .slice z.y.wA z.y.now.length z.y.wc, .slice z.cA z.l.length z.cc, .int .i64 z.inc, .int .i64 z.mode, .int .i64 z.clock, .int .i64 z.sent, .slice z.pA 0 z.pc, .int .i64 z.late]) ∧ z.ok w' ∧ z.v = leaveD x.v ∧ Below w.heap.size w w'
  take : ∀ (p : Pnw) (x : Dw) (f : Fw) (w : World) (up : Int), PlD p.p x.node up → DvR x.v → FrD f.x → inE.Sl w p.A p.p.u → x.ok w → f.ok w → Calls Tryz.prog 13 #[.agg #[.slice p.A p.p.u.length p.c, .int .i64 p.p.q, .int .i64 p.p.r, .int .i64 p.p.b, .int .i64 p.p.l, .int .i64 p.p.w, .int .i64 p.p.c, .int .i64 p.p.k, .int .i64 p.p.i], .agg #[.int .i64 x.node, .int .i64 x.boot, .int .i64 x.above, .int .i64 x.pos, .int .i64 x.y.t, .int .i64 x.pos, .slice none 0 0, .int .i64 x.q.f, .int .i64 x.q.g, .slice x.qA x.q.os.length x.qc, .slice none 0 0, .slice none 0 0, .slice none 0 0, .slice none 0 0, .slice x.y.bA x.y.base.length x.y.bc, .int .i64 x.y.t, .slice x.y.oA x.y.ops.length x.y.oc, .slice x.y.uA x.y.us.length x.y.uc, .slice x.y.wA x.y.now.length x.y.wc, .slice x.cA x.l.length x.cc, .int .i64 x.inc, .int .i64 x.mode, .int .i64 x.clock, .int .i64 x.sent, .slice x.pA 0 x.pc, .int .i64 x.late], .agg #[.int .i64 f.x.a, .int .i64 f.x.b, .int .i64 f.x.boot, .int .i64 f.x.first, .slice f.oA f.x.os.length f.oc, .int .i64 f.x.pos, .slice f.rA f.x.rs.length f.rc, .int .i64 f.x.start, .slice f.eA f.x.es.length f.ec, .int .i64 f.x.ack, .int .i64 f.x.grant, .int .i64 f.x.s, .int .i64 f.x.t, .slice f.gA f.x.gs.length f.gc]] w fun e w' => ∃ (z : Dw) (n : Int), e = .returned (.tuple #[.agg #[.int .i64 z.node, .int .i64 z.boot, .int .i64 z.above, .int .i64 z.pos, .int .i64 z.y.t, .int .i64 z.pos, .slice none 0 0, .int .i64 z.q.f, .int .i64 z.q.g, .slice z.qA z.q.os.length z.qc, .slice none 0 0, .slice none 0 0, .slice none 0 0, .slice none 0 0, .slice z.y.bA z.y.base.length z.y.bc, .int .i64 z.y.t, .slice z.y.oA z.y.ops.length z.y.oc, .slice z.y.uA z.y.us.length z.y.uc, .slice z.y.wA z.y.now.length z.y.wc, .slice z.cA z.l.length z.cc, .int .i64 z.inc, .int .i64 z.mode, .int .i64 z.clock, .int .i64 z.sent, .slice z.pA 0 z.pc, .int .i64 z.late], .int .i64 n]) ∧ z.ok w' ∧ takeD up x.v f.x = (z.v, n) ∧ Below w.heap.size w w'
  frame : ∀ (p : Pnw) (x : Dw) (beat : Int) (w : World) (up : Int), PlD p.p x.node up → DvR x.v → i64 beat → inE.Sl w p.A p.p.u → x.ok w → Calls Tryz.prog 19 #[.agg #[.slice p.A p.p.u.length p.c, .int .i64 p.p.q, .int .i64 p.p.r, .int .i64 p.p.b, .int .i64 p.p.l, .int .i64 p.p.w, .int .i64 p.p.c, .int .i64 p.p.k, .int .i64 p.p.i], .agg #[.int .i64 x.node, .int .i64 x.boot, .int .i64 x.above, .int .i64 x.pos, .int .i64 x.y.t, .int .i64 x.pos, .slice none 0 0, .int .i64 x.q.f, .int .i64 x.q.g, .slice x.qA x.q.os.length x.qc, .slice none 0 0, .slice none 0 0, .slice none 0 0, .slice none 0 0, .slice x.y.bA x.y.base.length x.y.bc, .int .i64 x.y.t, .slice x.y.oA x.y.ops.length x.y.oc, .slice x.y.uA x.y.us.length x.y.uc, .slice x.y.wA x.y.now.length x.y.wc, .slice x.cA x.l.length x.cc, .int .i64 x.inc, .int .i64 x.mode, .int .i64 x.clock, .int .i64 x.sent, .slice x.pA 0 x.pc, .int .i64 x.late], .int .i64 beat] w fun e w' => ∃ f : Fw, e = .returned (.agg #[.int .i64 f.x.a, .int .i64 f.x.b, .int .i64 f.x.boot, .int .i64 f.x.first, .slice f.oA f.x.os.length f.oc, .int .i64 f.x.pos, .slice f.rA f.x.rs.length f.rc, .int .i64 f.x.start, .slice f.eA f.x.es.length f.ec, .int .i64 f.x.ack, .int .i64 f.x.grant, .int .i64 f.x.s, .int .i64 f.x.t, .slice f.gA f.x.gs.length f.gc]) ∧ f.ok w' ∧ f.x = frameD up p.p.b x.v beat ∧ Below w.heap.size w w'
  vector : ∀ (x : Dw) (w : World), DvR x.v → x.ok w → Calls Tryz.prog 14 #[.agg #[.int .i64 x.node, .int .i64 x.boot, .int .i64 x.above, .int .i64 x.pos, .int .i64 x.y.t, .int .i64 x.pos, .slice none 0 0, .int .i64 x.q.f, .int .i64 x.q.g, .slice x.qA x.q.os.length x.qc, .slice none 0 0, .slice none 0 0, .slice none 0 0, .slice none 0 0, .slice x.y.bA x.y.base.length x.y.bc, .int .i64 x.y.t, .slice x.y.oA x.y.ops.length x.y.oc, .slice x.y.uA x.y.us.length x.y.uc, .slice x.y.wA x.y.now.length x.y.wc, .slice x.cA x.l.length x.cc, .int .i64 x.inc, .int .i64 x.mode, .int .i64 x.clock, .int .i64 x.sent, .slice x.pA 0 x.pc, .int .i64 x.late]] w fun e w' => ∃ (A : Option Addr) (c : Nat), e = .returned (.slice A (vectorD x.v).length c) ∧ SlV cnE w' A c (vectorD x.v) ∧ Below w.heap.size w w'
  read : ∀ (x : Dw) (w : World), DvR x.v → x.ok w → Calls Tryz.prog 15 #[.agg #[.int .i64 x.node, .int .i64 x.boot, .int .i64 x.above, .int .i64 x.pos, .int .i64 x.y.t, .int .i64 x.pos, .slice none 0 0, .int .i64 x.q.f, .int .i64 x.q.g, .slice x.qA x.q.os.length x.qc, .slice none 0 0, .slice none 0 0, .slice none 0 0, .slice none 0 0, .slice x.y.bA x.y.base.length x.y.bc, .int .i64 x.y.t, .slice x.y.oA x.y.ops.length x.y.oc, .slice x.y.uA x.y.us.length x.y.uc, .slice x.y.wA x.y.now.length x.y.wc, .slice x.cA x.l.length x.cc, .int .i64 x.inc, .int .i64 x.mode, .int .i64 x.clock, .int .i64 x.sent, .slice x.pA 0 x.pc, .int .i64 x.late]] w fun e w' => ∃ (A : Option Addr) (c : Nat) (l : List Pl) (b : Bool), e = .returned (.tuple #[.slice A l.length c, .bool b]) ∧ SlV seE w' A c l ∧ ((x.mode = 1 ∧ l = showV x.y.now ∧ b = true) ∨ (x.mode ≠ 1 ∧ l = [] ∧ b = false)) ∧ Below w.heap.size w w'
theorem dvIn26 {w : World} {b : Nat} {x : Dw} (h : dvE.In w b x) : w.cell? ⟨b, 0, none⟩ = some (.int .i64 x.node) ∧ w.cell? ⟨b, 1, none⟩ = some (.int .i64 x.boot) ∧ w.cell? ⟨b, 2, none⟩ = some (.int .i64 x.above) ∧ w.cell? ⟨b, 3, none⟩ = some (.int .i64 x.pos) ∧ w.cell? ⟨b, 4, none⟩ = some (.int .i64 x.y.t) ∧ w.cell? ⟨b, 5, none⟩ = some (.int .i64 x.pos) ∧ w.cell? ⟨b, 6, none⟩ = some (.slice none 0 0) ∧ w.cell? ⟨b, 7, none⟩ = some (.int .i64 x.q.f) ∧ w.cell? ⟨b, 8, none⟩ = some (.int .i64 x.q.g) ∧ w.cell? ⟨b, 9, none⟩ = some (.slice x.qA x.q.os.length x.qc) ∧ w.cell? ⟨b, 14, none⟩ = some (.slice x.y.bA x.y.base.length x.y.bc) ∧ w.cell? ⟨b, 15, none⟩ = some (.int .i64 x.y.t) ∧ w.cell? ⟨b, 16, none⟩ = some (.slice x.y.oA x.y.ops.length x.y.oc) ∧ w.cell? ⟨b, 17, none⟩ = some (.slice x.y.uA x.y.us.length x.y.uc) ∧ w.cell? ⟨b, 18, none⟩ = some (.slice x.y.wA x.y.now.length x.y.wc) ∧ w.cell? ⟨b, 19, none⟩ = some (.slice x.cA x.l.length x.cc) ∧ w.cell? ⟨b, 20, none⟩ = some (.int .i64 x.inc) ∧ w.cell? ⟨b, 21, none⟩ = some (.int .i64 x.mode) ∧ w.cell? ⟨b, 22, none⟩ = some (.int .i64 x.clock) ∧ w.cell? ⟨b, 23, none⟩ = some (.int .i64 x.sent) ∧ w.cell? ⟨b, 24, none⟩ = some (.slice x.pA 0 x.pc) ∧ w.cell? ⟨b, 25, none⟩ = some (.int .i64 x.late) :=
  ⟨h.cell 0, h.cell 1, h.cell 2, h.cell 3, h.cell 4, h.cell 5, h.cell 6, h.cell 7, h.cell 8, h.cell 9, h.cell 14, h.cell 15, h.cell 16, h.cell 17, h.cell 18, h.cell 19, h.cell 20, h.cell 21, h.cell 22, h.cell 23, h.cell 24, h.cell 25⟩
end Go.Proofs.YtdcjffajmckleaaGreatDoor

/- Devices, as values: of an edit, of an entry; the example's states. -/
namespace Go.Proofs.YtdcjffajmckleaaGreatDoor
open Go.RowKit Nam Cod Tre Pst Pln

theorem argD_ok {x : Dv} (h : DvR x) {ids k u : Int} {s : ByteArray} (ha : argD ids k u s = true) (hc : x.clock < 4294967296) (hs : x.sent < 4294967296) : (editO x k u s).ok := by
  have hp : placeB k u s = true := by
    unfold argD at ha
    simp only [Bool.and_eq_true] at ha
    exact ha.2.2
  have h1 := h.clock
  have h2 := h.sent
  have h3 := h.node
  have h4 := h.inc
  show opB (x.clock + 1) x.node x.inc (x.sent + 1) k u s = true
  rw [opB_place (by omega) h3 (by omega) (by omega)]
  exact hp
theorem editD_cases (quota ids : Int) (x : Dv) (k u : Int) (s : ByteArray) :
    ((editD quota ids x k u s).2 ≠ 0 ∧ (editD quota ids x k u s).1 = x) ∨
    (argD ids k u s = true ∧ x.mode = 1 ∧ (ownV x.y x.node x.inc : Int) < quota ∧ (x.q.os.length : Int) < quota ∧ (addV x.y (editO x k u s)).2 = true ∧ editD quota ids x k u s = ({ x with y := (addV x.y (editO x k u s)).1, q := pushQ x.q (editO x k u s), clock := x.clock + 1, sent := x.sent + 1 }, 0)) := by
  unfold editD
  by_cases h1 : argD ids k u s = false
  · rw [if_pos h1]; exact Or.inl ⟨by show (1 : Int) ≠ 0; decide, rfl⟩
  · rw [if_neg h1]
    by_cases h2 : x.mode ≠ 1
    · rw [if_pos h2]; exact Or.inl ⟨by show (4 : Int) ≠ 0; decide, rfl⟩
    · rw [if_neg h2]
      by_cases h3 : quota ≤ (ownV x.y x.node x.inc : Nat) ∨ quota ≤ (x.q.os.length : Nat)
      · rw [if_pos h3]; exact Or.inl ⟨by show (3 : Int) ≠ 0; decide, rfl⟩
      · rw [if_neg h3]
        by_cases h4 : (addV x.y (editO x k u s)).2 = false
        · rw [if_pos h4]; exact Or.inl ⟨by show (5 : Int) ≠ 0; decide, rfl⟩
        · rw [if_neg h4]
          refine Or.inr ⟨by simpa using h1, by omega, by omega, by omega, by simpa using h4, rfl⟩
theorem editD_r {quota ids : Int} {x : Dv} {k u : Int} {s : ByteArray} (h : DvR x) (hq : quota ≤ 50) (hy : x.y.ops.length < 60) (hc : x.clock < 4294967296) (hs : x.sent < 4294967296) : DvR (editD quota ids x k u s).1 := by
  rcases editD_cases quota ids x k u s with ⟨_, e⟩ | ⟨ha, hm, ho, hl, hadd, e⟩
  · rw [e]; exact h
  · rw [e]
    have h1 := h.clock
    have h2 := h.sent
    exact
      { node := h.node
        boot := h.boot
        above := h.above
        pos := h.pos
        qf := h.qf
        qg := h.qg
        ql := by show (x.q.os ++ [editO x k u s]).length ≤ 60; rw [List.length_append, List.length_singleton]; omega
        y := h.y.add (argD_ok h ha hc hs)
        yl := by have := addV_len x.y (editO x k u s); show (addV x.y (editO x k u s)).1.ops.length ≤ 60; omega
        yt := by
          show (addV x.y (editO x k u s)).1.t ≤ 4294967296
          have h3 := h.yt
          unfold addV
          split
          · exact h3
          · split <;> exact h3
        l := h.l
        lw := h.lw
        inc := h.inc
        mode := h.mode
        clock := by show 0 ≤ x.clock + 1 ∧ x.clock + 1 ≤ 4294967296; omega
        sent := by show 0 ≤ x.sent + 1 ∧ x.sent + 1 ≤ 4294967296; omega
        late := h.late }

/-- The example's states. -/
def sA : Dv := (editD 2 16 (newD 1) 2 0 ⟨#[97]⟩).1
def sB : Dv := (editD 2 16 sA 3 2 ⟨#[98]⟩).1
def fE : Fr := ⟨0, 1, 2, 0, 0, 1, 1, 5, 0, 0, [], [], [⟨2, 2, 1, zeroMv⟩], []⟩
def sC : Dv := (takeD 0 sB fE).1
def fF : Fr := ⟨0, 1, 1, 0, 0, 0, 0, 0, 0, 0, [], [], [], []⟩
theorem fE_d : FrD fE where
  n := by
    intro n hn
    simp only [frL, fE, List.mem_cons, List.not_mem_nil, or_false] at hn
    rcases hn with rfl | rfl | rfl | rfl | rfl | rfl | rfl | rfl | rfl | rfl <;> omega
  es := by
    intro e he
    have he : e ∈ [(⟨2, 2, 1, zeroMv⟩ : En)] := he
    rw [List.mem_singleton] at he
    subst he
    exact ⟨by kernel_rfl, by show (0 : Int) ≤ 4294967296; omega, by show 0 ≤ 1000; omega⟩
  l := ⟨by show 0 ≤ 64; omega, by show 0 ≤ 8; omega, by show 1 ≤ 64; omega⟩
  gs := rfl
theorem fF_d : FrD fF where
  n := by
    intro n hn
    simp only [frL, fF, List.mem_cons, List.not_mem_nil, or_false] at hn
    rcases hn with rfl | rfl | rfl | rfl | rfl | rfl | rfl | rfl | rfl | rfl <;> omega
  es := by intro e he; cases he
  l := ⟨by show 0 ≤ 64; omega, by show 0 ≤ 8; omega, by show 0 ≤ 64; omega⟩
  gs := rfl
theorem sA_is : editD 2 16 (newD 1) 2 0 ⟨#[97]⟩ = (sA, 0) := Prod.ext rfl (by kernel_rfl)
theorem sB_is : editD 2 16 sA 3 2 ⟨#[98]⟩ = (sB, 0) := Prod.ext rfl (by kernel_rfl)
theorem sB_busy : (editD 2 16 sB 4 0 ⟨#[99]⟩).2 = 3 := by kernel_rfl
theorem sB_arg : (editD 2 16 sB 4 4 ⟨#[99]⟩).2 = 1 := by kernel_rfl
theorem sC_is : takeD 0 sB fE = (sC, 0) := Prod.ext rfl (by kernel_rfl)
theorem sC_stale : (takeD 0 sC fF).2 = 7 := by kernel_rfl
theorem sC_shown : (showV sC.y.now).length = 2 := by kernel_rfl
theorem sC_mode : sC.mode = 1 := by kernel_rfl
theorem sC_frame : (frameD 0 2 sC 7).first = 2 ∧ (frameD 0 2 sC 7).os.length = 1 ∧ (frameD 0 2 sC 7).pos = 1 := ⟨by kernel_rfl, by kernel_rfl, by kernel_rfl⟩
theorem sC_vector : (vectorD sC).length = 1 := by kernel_rfl
theorem sC_away : (editD 2 16 (leaveD sC) 4 0 ⟨#[99]⟩).2 = 4 := by kernel_rfl
theorem sC_left : (leaveD sC).inc = 2 ∧ (leaveD sC).mode = 2 := ⟨by kernel_rfl, by kernel_rfl⟩
theorem sA_r : DvR sA := editD_r (newD_r (by omega)) (by omega) (by show 0 < 60; omega) (by show (0 : Int) < 4294967296; omega) (by show (0 : Int) < 4294967296; omega)
theorem sB_r : DvR sB := editD_r sA_r (by omega) (by rw [show sA.y.ops.length = 1 from by kernel_rfl]; omega) (by rw [show sA.clock = 1 from by kernel_rfl]; omega) (by rw [show sA.sent = 1 from by kernel_rfl]; omega)
theorem sC_r : DvR sC where
  node := by rw [show sC.node = 1 from by kernel_rfl]; omega
  boot := by rw [show sC.boot = 1 from by kernel_rfl]; omega
  above := by rw [show sC.above = 2 from by kernel_rfl]; omega
  pos := by rw [show sC.pos = 1 from by kernel_rfl]; omega
  qf := by rw [show sC.q.f = 2 from by kernel_rfl]; omega
  qg := by rw [show sC.q.g = 5 from by kernel_rfl]; omega
  ql := by rw [show sC.q.os.length = 1 from by kernel_rfl]; omega
  y := by
    have e : sC.y = sB.y := by kernel_rfl
    rw [e]; exact sB_r.y
  yl := by rw [show sC.y.ops.length = 2 from by kernel_rfl]; omega
  yt := by rw [show sC.y.t = 0 from by kernel_rfl]; omega
  l := by rw [show sC.l = [] from by kernel_rfl]; exact ⟨Nat.zero_le _, List.Pairwise.nil⟩
  lw := by rw [show sC.l = [] from by kernel_rfl]; intro c h; cases h
  inc := by rw [show sC.inc = 1 from by kernel_rfl]; omega
  mode := Or.inl sC_mode
  clock := by rw [show sC.clock = 2 from by kernel_rfl]; omega
  sent := by rw [show sC.sent = 2 from by kernel_rfl]; omega
  late := by rw [show sC.late = 0 from by kernel_rfl]; omega
end Go.Proofs.YtdcjffajmckleaaGreatDoor

/- Whether operations may be, rise, and come behind a counter: rightOps of the program. -/
namespace Go.Proofs.YtdcjffajmckleaaGreatDoor
open Go.RowKit Tre Cod Pst

/-- The first k may be, rise, and come behind t. -/
def OpsTo (l : List Mv) (t : Int) (k : Nat) : Prop := ∀ i (h : i < l.length), i < k → l[i].ok ∧ t < l[i].C ∧ ∀ (h0 : 0 < i), bef Mv.C Mv.D (l[i - 1]'(by omega)) l[i]
def OpsR (l : List Mv) (t : Int) : Prop := OpsTo l t l.length
theorem OpsTo.zero (l : List Mv) (t : Int) : OpsTo l t 0 := fun i h hi => by omega
theorem OpsTo.next {l : List Mv} {t : Int} {k : Nat} (h : OpsTo l t k) (hk : k < l.length) (h1 : l[k].ok) (h2 : t < l[k].C) (h3 : ∀ (h0 : 0 < k), bef Mv.C Mv.D (l[k - 1]'(by omega)) l[k]) : OpsTo l t (k + 1) := fun i hi hik => by
  by_cases e : i = k
  · subst e; exact ⟨h1, h2, h3⟩
  · exact h i hi (by omega)
theorem OpsR.at {l : List Mv} {t : Int} (h : OpsR l t) (k : Nat) (hk : k < l.length) : l[k].ok ∧ t < l[k].C ∧ ∀ (h0 : 0 < k), bef Mv.C Mv.D (l[k - 1]'(by omega)) l[k] := h k hk hk

end Go.Proofs.YtdcjffajmckleaaGreatDoor

/- Whether a past is one: Right of the program. -/
namespace Go.Proofs.YtdcjffajmckleaaGreatDoor
open Go.RowKit Tre Cod Pst Nam

def PastR (q : Pv) : Prop := treeB q.base = true ∧ 0 ≤ q.t ∧ q.t ≤ 1099511627776 ∧ OpsR q.ops q.t ∧ q.now = (foldL q.base (mvs q.ops)).1 ∧ q.us = (foldL q.base (mvs q.ops)).2
theorem PInv.right {q : Pv} (h : PInv q) : PastR q :=
  ⟨h.tree, h.t0, h.t1, fun i hi _ => ⟨h.ok _ (List.getElem_mem hi), h.gt _ (List.getElem_mem hi), fun h0 => ris_get h.ris (by omega) hi (by omega)⟩, h.nw, h.un⟩

end Go.Proofs.YtdcjffajmckleaaGreatDoor

/- The library's Search; where an operation of a moment stands; where the counters above a number begin. -/
namespace Go.Proofs.YtdcjffajmckleaaGreatDoor
open Go.RowKit Tre Cod Pst

set_option maxRecDepth 100000 in
theorem findAt_any (i : Nat) (A : Option Addr) (c : Nat) (l : List Mv) (C D : Int) (b1 b2 : Nat) (w : World) (h1 : w.cell? ⟨b1, 0, none⟩ = some (.slice A l.length c)) (h2 : w.cell? ⟨b2, 0, none⟩ = some (.int .i64 C)) (h3 : w.cell? ⟨b2, 1, none⟩ = some (.int .i64 D))
    (hT : opE.Sl w A l) (hi : i < l.length) (hl : l.length ≤ 1000) :
    Calls Tryz.prog 80 #[.int .i64 i, .pointer (some ⟨b1, 0, none⟩), .pointer (some ⟨b2, 0, none⟩)] w fun e w' => e = .returned (.bool (!befB l[i].C l[i].D C D)) ∧ Below w.heap.size w w' := by
  obtain ⟨b, off, rfl, hbw, hc⟩ := hT (by omega)
  have hat : opE.At w b (off + i * 7) _ := hc i hi
  obtain ⟨m, hm⟩ : ∃ m, l[i] = m := ⟨_, rfl⟩
  rw [hm] at hat ⊢
  obtain ⟨t0, t1, t2, t3, t4, t5, t6⟩ := opAt hat
  clear hc hat hm t2 t3 t4 t5 t6
  have HC := Lib.hid (fun w => before_any m.C m.D C D w)
  generalize befB m.C m.D C D = r at *
  have k1 := cell_regrown h1
  have k2 := cell_regrown h2
  have k3 := cell_regrown h3
  have k4 := cell_regrown t0
  have k5 := cell_regrown t1
  clear h1 h2 h3 t0 t1
  have d1 : ∀ d os, Calls Tryz.prog 81 #[.agg #[.int .i64 m.C, .int .i64 m.D], .agg #[.int .i64 C, .int .i64 D]] (Sort.grow (redrawn w d) os) fun e w'' => e = .returned (.bool r) ∧ ∃ p : Regrown, w'' = Sort.grow (redrawn w p.d) p.os := fun d os => Calls.regrown_of (HC.out _)
  go_enter Tryz.func80, Tryz.ntmps80
  go_wp2_with fail
  refine wp_region_quiet_below (by kernel_rfl) (by kernel_rfl) ?_
  repeat (go_big_quiet_step ((with_reducible (first | exact d1 _ _))))
  refine wpQuiet_nil ?_
  intro _ hw'
  obtain ⟨⟨dq, osq⟩, hw''⟩ := hw'
  subst hw''
  have hq := below_regrown w dq osq
  generalize Sort.grow (redrawn w dq) osq = W1 at *
  go_wp2_with fail
  go_ret
  exact ⟨by cases r <;> rfl, hq⟩

set_option maxRecDepth 100000 in
theorem upOne_any (i : Nat) (x : Pw) (s : Int) (b1 b2 : Nat) (w : World) (hP : pwE.In w b1 x) (h2 : w.cell? ⟨b2, 0, none⟩ = some (.int .i64 s))
    (hT : opE.Sl w x.oA x.ops) (hi : i < x.ops.length) (hl : x.ops.length ≤ 1000) :
    Calls Tryz.prog 95 #[.int .i64 i, .pointer (some ⟨b1, 0, none⟩), .pointer (some ⟨b2, 0, none⟩)] w fun e w' => e = .returned (.bool (decide (s < x.ops[i].C))) ∧ Below w.heap.size w w' := by
  obtain ⟨bA, bc, base, t, oA, oc, ops, uA, uc, us, wA, wc, now⟩ := x
  simp only at hT hi hl ⊢
  obtain ⟨b, off, rfl, hbw, hc⟩ := hT (by omega)
  have hat : opE.At w b (off + i * 7) _ := hc i hi
  obtain ⟨m, hm⟩ : ∃ m, ops[i] = m := ⟨_, rfl⟩
  rw [hm] at hat ⊢
  obtain ⟨t0, t1, t2, t3, t4, t5, t6⟩ := opAt hat
  obtain ⟨p0, p1, p2, p3, p4⟩ := pwIn5 hP
  clear hc hat hm t1 t2 t3 t4 t5 t6 p0 p1 p3 p4
  go_enter Tryz.func95, Tryz.ntmps95
  go_wp2
  go_region
  all_goals go_wp2
  all_goals go_ret
  all_goals exact ⟨rfl, (Below.refl _ _).drew⟩

theorem find_pos {l : List Mv} (hr : Ris Mv.C Mv.D l) {m : Mv} {i : Nat} (hi : i ≤ l.length) (hlo : ∀ k (h : k < l.length), k < i → befB l[k].C l[k].D m.C m.D = true) (hhi : ∀ k (h : k < l.length), i ≤ k → befB l[k].C l[k].D m.C m.D = false) : i = pos Mv.C Mv.D l m :=
  pos_eq hi (fun k h hk => by have := hlo k h hk; rw [bef_iff] at this; exact of_decide_eq_true this) (fun h => by have := hhi i h (Nat.le_refl _); rw [bef_iff] at this; exact of_decide_eq_false this)

set_option maxRecDepth 100000 in
theorem search1_any (n : Nat) (b1 b2 : Nat) (p : Nat → Bool) (w : World) (hn : n ≤ 1000) (hm : ∀ i j, i ≤ j → j < n → p i = true → p j = true)
    (HF : ∀ (i : Nat) (w' : World), i < n → Below w.heap.size w w' → Calls Tryz.prog 80 #[.int .i64 i, .pointer (some ⟨b1, 0, none⟩), .pointer (some ⟨b2, 0, none⟩)] w' fun e w'' => e = .returned (.bool (p i)) ∧ Below w'.heap.size w' w'') :
    Calls Tryz.prog 79 #[.int .i64 n, .func (.func 80) #[] #[.pointer (some ⟨b1, 0, none⟩), .pointer (some ⟨b2, 0, none⟩)]] w fun e w' => ∃ k : Nat, e = .returned (.int .i64 k) ∧ k ≤ n ∧ (∀ i, i < k → p i = false) ∧ (∀ i, k ≤ i → i < n → p i = true) ∧ Below w.heap.size w w' := by
  go_enter Tryz.func79, Tryz.ntmps79
  go_wp2
  go_loopw [5, 6] (fun x y wr => ∃ i j : Nat, i ≤ j ∧ j ≤ n ∧ x = .int .i64 i ∧ y = .int .i64 j ∧ (∀ k, k < i → p k = false) ∧ (∀ k, j ≤ k → k < n → p k = true) ∧ Below w.heap.size w wr) (fun x y _ => (intOf y).toNat - (intOf x).toNat)
  case atStart => exact ⟨0, n, Nat.zero_le _, Nat.le_refl _, rfl, rfl, fun k hk => by omega, fun k hk h => by omega, Below.refl _ _⟩
  case round =>
    obtain ⟨i, j, hij, hj, rfl, rfl, hlo, hhi, hnx⟩ := hrel
    by_cases hlt : i < j
    · have hc0 := HF ((i + j) / 2) wr (by omega) hnx
      rw [show (((i + j) / 2 : Nat) : Int) = ((i : Int) + (j : Int)) / 2 by omega] at hc0
      have HC := Lib.hid hc0
      clear hc0
      cases hpk : p ((i + j) / 2)
      · rw [hpk] at HC
        go_wp2_with (go_at_call 80; (with_reducible refine (HC.out).mono ?_); rintro e w1 ⟨rfl, hb1⟩)
        go_roundw
        case rel =>
          refine ⟨(i + j) / 2 + 1, j, by omega, hj, by go_num, rfl, fun k hk => ?_, hhi, below_then hnx hb1⟩
          by_cases hpj : p k = true
          · have := hm k ((i + j) / 2) (by omega) (by omega) hpj
            rw [hpk] at this; cases this
          · simpa using hpj
        case measure => simp [intOf]; omega
      · rw [hpk] at HC
        go_wp2_with (go_at_call 80; (with_reducible refine (HC.out).mono ?_); rintro e w1 ⟨rfl, hb1⟩)
        go_roundw
        case rel =>
          refine ⟨i, (i + j) / 2, by omega, by omega, rfl, by go_num, hlo, fun k hk h => ?_, below_then hnx hb1⟩
          exact hm _ k hk h hpk
        case measure => simp [intOf]; omega
    · obtain rfl : i = j := by omega
      go_wp2
      go_ret
      exact ⟨i, rfl, hj, hlo, hhi, hnx⟩
set_option maxRecDepth 100000 in
theorem search2_any (n : Nat) (b1 b2 : Nat) (p : Nat → Bool) (w : World) (hn : n ≤ 1000) (hm : ∀ i j, i ≤ j → j < n → p i = true → p j = true)
    (HF : ∀ (i : Nat) (w' : World), i < n → Below w.heap.size w w' → Calls Tryz.prog 95 #[.int .i64 i, .pointer (some ⟨b1, 0, none⟩), .pointer (some ⟨b2, 0, none⟩)] w' fun e w'' => e = .returned (.bool (p i)) ∧ Below w'.heap.size w' w'') :
    Calls Tryz.prog 79 #[.int .i64 n, .func (.func 95) #[] #[.pointer (some ⟨b1, 0, none⟩), .pointer (some ⟨b2, 0, none⟩)]] w fun e w' => ∃ k : Nat, e = .returned (.int .i64 k) ∧ k ≤ n ∧ (∀ i, i < k → p i = false) ∧ (∀ i, k ≤ i → i < n → p i = true) ∧ Below w.heap.size w w' := by
  go_enter Tryz.func79, Tryz.ntmps79
  go_wp2
  go_loopw [5, 6] (fun x y wr => ∃ i j : Nat, i ≤ j ∧ j ≤ n ∧ x = .int .i64 i ∧ y = .int .i64 j ∧ (∀ k, k < i → p k = false) ∧ (∀ k, j ≤ k → k < n → p k = true) ∧ Below w.heap.size w wr) (fun x y _ => (intOf y).toNat - (intOf x).toNat)
  case atStart => exact ⟨0, n, Nat.zero_le _, Nat.le_refl _, rfl, rfl, fun k hk => by omega, fun k hk h => by omega, Below.refl _ _⟩
  case round =>
    obtain ⟨i, j, hij, hj, rfl, rfl, hlo, hhi, hnx⟩ := hrel
    by_cases hlt : i < j
    · have hc0 := HF ((i + j) / 2) wr (by omega) hnx
      rw [show (((i + j) / 2 : Nat) : Int) = ((i : Int) + (j : Int)) / 2 by omega] at hc0
      have HC := Lib.hid hc0
      clear hc0
      cases hpk : p ((i + j) / 2)
      · rw [hpk] at HC
        go_wp2_with (go_at_call 95; (with_reducible refine (HC.out).mono ?_); rintro e w1 ⟨rfl, hb1⟩)
        go_roundw
        case rel =>
          refine ⟨(i + j) / 2 + 1, j, by omega, hj, by go_num, rfl, fun k hk => ?_, hhi, below_then hnx hb1⟩
          by_cases hpj : p k = true
          · have := hm k ((i + j) / 2) (by omega) (by omega) hpj
            rw [hpk] at this; cases this
          · simpa using hpj
        case measure => simp [intOf]; omega
      · rw [hpk] at HC
        go_wp2_with (go_at_call 95; (with_reducible refine (HC.out).mono ?_); rintro e w1 ⟨rfl, hb1⟩)
        go_roundw
        case rel =>
          refine ⟨i, (i + j) / 2, by omega, by omega, rfl, by go_num, hlo, fun k hk h => ?_, below_then hnx hb1⟩
          exact hm _ k hk h hpk
        case measure => simp [intOf]; omega
    · obtain rfl : i = j := by omega
      go_wp2
      go_ret
      exact ⟨i, rfl, hj, hlo, hhi, hnx⟩
end Go.Proofs.YtdcjffajmckleaaGreatDoor

/- Of the library, at operations and undos: Clone, Grow, Concat. -/
namespace Go.Proofs.YtdcjffajmckleaaGreatDoor
open Go.RowKit Tre Cod

def catE {α : Type} (F : Nat → List α) : Nat → List α
  | 0 => []
  | k + 1 => catE F k ++ F k
theorem catE_le {α : Type} (F : Nat → List α) (k : Nat) : ∀ n, k ≤ n → (catE F k).length ≤ (catE F n).length
  | 0, h => by obtain rfl : k = 0 := by omega
               exact Nat.le_refl _
  | n + 1, h => by
    by_cases e : k = n + 1
    · subst e; exact Nat.le_refl _
    · have := catE_le F k n (by omega)
      rw [catE, List.length_append]; omega

set_option maxRecDepth 100000 in
theorem cloneOp_any (A : Option Addr) (c : Nat) (l : List Mv) (w : World) (hl : l.length ≤ 50000) (hT : SlV opE w A c l) :
    Calls Tryz.prog 59 #[.slice A l.length c] w fun e w' => ∃ A' c', e = .returned (.slice A' l.length c') ∧ SlV opE w' A' c' l ∧ Frs w.heap.size A' ∧ Below w.heap.size w w' := by
  obtain ⟨hT, hz, hlc⟩ := hT
  have q : ∀ (w : World) (a : Option Addr) (n c n' c' : Nat), (binOp .eql 31 (.slice a n c) (.slice none n' c')).run Tryz.prog w = .ok (.bool a.isNone) w := fun w a n c n' c' => Lib.run_eql_slice_nil w _ _ a n c n' c' Tryz.underlying31
  cases A with
  | none =>
    obtain rfl := hT.none_nil
    obtain rfl := hz rfl
    go_enter Tryz.func59, Tryz.ntmps59
    go_wp2
    go_ret
    exact ⟨none, 0, rfl, SlV.nil _ _, frs_nil _, Below.refl _ _⟩
  | some a =>
    go_enter Tryz.func59, Tryz.ntmps59
    have hE := El.Own.empty (E := opE) w w.heap.size (Nat.le_refl _)
    have hb0 := below_alloc (Below.refl w.heap.size w) (.cells #[] 55)
    go_wp2_with (at_builtin; refine El.wpList_app opInn rfl _ _ rfl w.heap.size _ [] l rfl hE (some a) _ c rfl rfl (hT.below hb0) (fun e => by cases e) (by simp; omega) (by simp) ?_; intro v' w2 hown hg _)
    obtain ⟨A', c', rfl, hS⟩ := SlV.own hown
    go_wp2
    go_ret
    exact ⟨A', c', rfl, hS, hown.frs, below_own hb0 hg (hE.rows)⟩

theorem infoOp : (Tryz.prog.info? 55).map (fun i => (i.zero, i.size, i.bytes)) = some (some (.agg #[.int .i64 0, .int .i64 0, .int .i64 0, .int .i64 0, .int .i64 0, .int .i64 0, .string ⟨#[]⟩]), 7, 64) := by kernel_rfl
set_option maxRecDepth 100000 in
theorem growOp_any (B n : Nat) (w : World) (hn : n ≤ 1000) (hB : B ≤ w.heap.size) :
    Calls Tryz.prog 83 #[.slice none 0 0, .int .i64 n] w fun e w' => ∃ v, e = .returned v ∧ opE.Own w' B v [] ∧ Below w.heap.size w w' := by
  by_cases h0 : n = 0
  · subst h0
    go_enter Tryz.func83, Tryz.ntmps83
    go_wp2
    go_ret
    exact ⟨_, rfl, El.Own.nil _ B, Below.refl _ _⟩
  · obtain ⟨i, hi, hz, hz1, hz2⟩ := info_parts infoOp
    have hr := fun ty => Lib.run_append_nil_zeros (P := Tryz.prog) w 31 3 ty 55 i _ .i64 .i64 Tryz.underlying31 Tryz.underlying3 hi hz n (by omega) (by omega) (by omega) (by rw [hz2]; omega)
    have hg1 : n ≤ grownCap w n 0 55 := grownCap_ge w n 0 _
    have hg2 : grownCap w n 0 55 ≤ maxLen := grownCap_le_maxLen w n 0 55 (by unfold maxLen; omega)
    have hown : opE.Own (w.drew.alloc (.cells (Builtin.zeroCells (Value.agg #[.int .i64 0, .int .i64 0, .int .i64 0, .int .i64 0, .int .i64 0, .int .i64 0, .string ⟨#[]⟩]).cells n ++ Builtin.zeroCells (Value.agg #[.int .i64 0, .int .i64 0, .int .i64 0, .int .i64 0, .int .i64 0, .int .i64 0, .string ⟨#[]⟩]).cells (grownCap w n 0 55 - n)) 55)) B (.slice (some ⟨w.heap.size, 0, none⟩) 0 (grownCap w n 0 55)) [] := by
      refine World.ownsRow_made w.drew _ (grownCap w n 0 55) hB hg2 ?_
      rw [Array.size_append, size_zeroCells, size_zeroCells]
      show n * 7 + (grownCap w n 0 55 - n) * 7 = _ * 7
      omega
    have hnx : Below w.heap.size w (w.drew.alloc (.cells (Builtin.zeroCells (Value.agg #[.int .i64 0, .int .i64 0, .int .i64 0, .int .i64 0, .int .i64 0, .int .i64 0, .string ⟨#[]⟩]).cells n ++ Builtin.zeroCells (Value.agg #[.int .i64 0, .int .i64 0, .int .i64 0, .int .i64 0, .int .i64 0, .int .i64 0, .string ⟨#[]⟩]).cells (grownCap w n 0 55 - n)) 55)) := below_alloc (Below.refl _ w).drew _
    generalize grownCap w n 0 55 = cap at *
    generalize w.drew.alloc (.cells (Builtin.zeroCells (Value.agg #[.int .i64 0, .int .i64 0, .int .i64 0, .int .i64 0, .int .i64 0, .int .i64 0, .string ⟨#[]⟩]).cells n ++ Builtin.zeroCells (Value.agg #[.int .i64 0, .int .i64 0, .int .i64 0, .int .i64 0, .int .i64 0, .int .i64 0, .string ⟨#[]⟩]).cells (cap - n)) 55) = W at *
    go_enter Tryz.func83, Tryz.ntmps83
    go_wp2_with (at_builtin; refine Lib.wpList_append_run _ rfl _ _ 31 3 rfl _ _ rfl rfl _ _ (hr _) ?_)
    go_wp2
    go_ret
    exact ⟨_, rfl, hown, hnx⟩

set_option maxRecDepth 100000 in
theorem concatOp_any (sb : Nat) (F : Nat → List Mv) (A : Nat → Option Addr) (C : Nat → Nat) (w : World) (hcell : ∀ j, j < 3 → w.cell? ⟨sb, j, none⟩ = some (.slice (A j) (F j).length (C j)))
    (hT : ∀ j, j < 3 → opE.Sl w (A j) (F j)) (hc : ∀ j, j < 3 → A j = none → C j = 0) (hl : (catE F 3).length ≤ 1000) (hsb : sb < w.heap.size) :
    Calls Tryz.prog 51 #[.slice (some ⟨sb, 0, none⟩) 3 3] w fun e w' => ∃ A' cap', e = .returned (.slice A' (catE F 3).length cap') ∧ SlV opE w' A' cap' (catE F 3) ∧ Frs w.heap.size A' ∧ Below w.heap.size w w' := by
  have CG := fun n hn => growOp_any w.heap.size n w hn (Nat.le_refl _)
  have hle := fun k h => catE_le F k 3 h
  have HCL := Lib.hid hcell
  have HTT := Lib.hid hT
  have HCC := Lib.hid hc
  clear hcell hT hc
  go_enter Tryz.func51, Tryz.ntmps51
  go_wp2
  go_loop [3, 11] (fun x y => ∃ k : Nat, k ≤ 3 ∧ y = .int .i64 k ∧ x = .int .i64 (catE F k).length) (fun _ y => 3 - (intOf y).toNat)
  case atStart => exact ⟨0, Nat.zero_le _, rfl, rfl⟩
  case round =>
    obtain ⟨k, hk, rfl, rfl⟩ := hrel
    by_cases hlt : k < 3
    · have h1 := HCL.out k hlt
      have h2 := hle (k + 1) hlt
      have h3 : (catE F (k + 1)).length = (catE F k).length + (F k).length := by rw [catE, List.length_append]
      have H3 := Lib.hid h3
      have h4 : (catE F k).length + (F k).length ≤ 1000 := by omega
      generalize (catE F k).length = n at *
      generalize (F k).length = m at *
      clear h3
      go_wp2
      go_round
      case rel => exact ⟨k + 1, by omega, by go_num, by rw [H3.out]; go_num⟩
      case measure => simp [intOf]; omega
    · obtain rfl : k = 3 := by omega
      have CG := CG _ hl
      go_wp2_with fail
      refine CG.mono ?_
      rintro e w1 ⟨v, rfl, hown, hb1⟩
      clear CG
      go_wp2
      go_loopw [6, 27] (fun x y wr => ∃ (k : Nat) (v : Value), k ≤ 3 ∧ y = .int .i64 k ∧ x = v ∧ opE.Own wr w.heap.size v (catE F k) ∧ Below w.heap.size w wr) (fun _ y _ => 3 - (intOf y).toNat)
      case atStart => exact ⟨0, v, Nat.zero_le _, rfl, rfl, hown, hb1⟩
      case round =>
        clear hown hb1
        obtain ⟨k, v, hk, rfl, rfl, hown, hnx⟩ := hrel
        by_cases hlt : k < 3
        · have h1 := HCL.out k hlt
          rw [← (bcell hnx).1 _ _ hsb] at h1
          have h2 := hle (k + 1) hlt
          have h3 : (catE F (k + 1)).length = (catE F k).length + (F k).length := by rw [catE, List.length_append]
          have hTk := (HTT.out k hlt).below hnx
          have hck := HCC.out k hlt
          have hB := hnx.size
          go_wp2_with (at_builtin; refine El.wpList_app opInn rfl _ _ rfl w.heap.size _ (catE F k) (F k) rfl hown (A k) _ (C k) rfl rfl hTk hck (by omega) hB ?_; intro v' w2 hown2 hg2 _)
          go_roundw
          case rel => exact ⟨k + 1, v', by omega, by go_num, rfl, hown2, hnx.grown hg2 hB (fun j hj => (hown).rows j hj)⟩
          case measure => simp [intOf]; omega
        · obtain rfl : k = 3 := by omega
          obtain ⟨A', cap', rfl, hS⟩ := SlV.own hown
          go_wp2
          go_ret
          exact ⟨A', cap', rfl, hS, hown.frs, hnx⟩
set_option maxRecDepth 100000 in
theorem cloneUn_any (A : Option Addr) (c : Nat) (l : List Un) (w : World) (hl : l.length ≤ 50000) (hT : SlV unE w A c l) :
    Calls Tryz.prog 82 #[.slice A l.length c] w fun e w' => ∃ A' c', e = .returned (.slice A' l.length c') ∧ SlV unE w' A' c' l ∧ Frs w.heap.size A' ∧ Below w.heap.size w w' := by
  obtain ⟨hT, hz, hlc⟩ := hT
  have q : ∀ (w : World) (a : Option Addr) (n c n' c' : Nat), (binOp .eql 38 (.slice a n c) (.slice none n' c')).run Tryz.prog w = .ok (.bool a.isNone) w := fun w a n c n' c' => Lib.run_eql_slice_nil w _ _ a n c n' c' Tryz.underlying38
  cases A with
  | none =>
    obtain rfl := hT.none_nil
    obtain rfl := hz rfl
    go_enter Tryz.func82, Tryz.ntmps82
    go_wp2
    go_ret
    exact ⟨none, 0, rfl, SlV.nil _ _, frs_nil _, Below.refl _ _⟩
  | some a =>
    go_enter Tryz.func82, Tryz.ntmps82
    have hE := El.Own.empty (E := unE) w w.heap.size (Nat.le_refl _)
    have hb0 := below_alloc (Below.refl w.heap.size w) (.cells #[] 118)
    go_wp2_with (at_builtin; refine El.wpList_app unInn rfl _ _ rfl w.heap.size _ [] l rfl hE (some a) _ c rfl rfl (hT.below hb0) (fun e => by cases e) (by simp; omega) (by simp) ?_; intro v' w2 hown hg _)
    obtain ⟨A', c', rfl, hS⟩ := SlV.own hown
    go_wp2
    go_ret
    exact ⟨A', c', rfl, hS, hown.frs, below_own hb0 hg (hE.rows)⟩

theorem infoUn : (Tryz.prog.info? 118).map (fun i => (i.zero, i.size, i.bytes)) = some (some (.agg #[.int .i64 0, .int .i64 0, .string ⟨#[]⟩, .bool false, .bool false]), 5, 40) := by kernel_rfl
set_option maxRecDepth 100000 in
theorem growUn_any (B n : Nat) (w : World) (hn : n ≤ 1000) (hB : B ≤ w.heap.size) :
    Calls Tryz.prog 87 #[.slice none 0 0, .int .i64 n] w fun e w' => ∃ v, e = .returned v ∧ unE.Own w' B v [] ∧ Below w.heap.size w w' := by
  by_cases h0 : n = 0
  · subst h0
    go_enter Tryz.func87, Tryz.ntmps87
    go_wp2
    go_ret
    exact ⟨_, rfl, El.Own.nil _ B, Below.refl _ _⟩
  · obtain ⟨i, hi, hz, hz1, hz2⟩ := info_parts infoUn
    have hr := fun ty => Lib.run_append_nil_zeros (P := Tryz.prog) w 38 3 ty 118 i _ .i64 .i64 Tryz.underlying38 Tryz.underlying3 hi hz n (by omega) (by omega) (by omega) (by rw [hz2]; omega)
    have hg1 : n ≤ grownCap w n 0 118 := grownCap_ge w n 0 _
    have hg2 : grownCap w n 0 118 ≤ maxLen := grownCap_le_maxLen w n 0 118 (by unfold maxLen; omega)
    have hown : unE.Own (w.drew.alloc (.cells (Builtin.zeroCells (Value.agg #[.int .i64 0, .int .i64 0, .string ⟨#[]⟩, .bool false, .bool false]).cells n ++ Builtin.zeroCells (Value.agg #[.int .i64 0, .int .i64 0, .string ⟨#[]⟩, .bool false, .bool false]).cells (grownCap w n 0 118 - n)) 118)) B (.slice (some ⟨w.heap.size, 0, none⟩) 0 (grownCap w n 0 118)) [] := by
      refine World.ownsRow_made w.drew _ (grownCap w n 0 118) hB hg2 ?_
      rw [Array.size_append, size_zeroCells, size_zeroCells]
      show n * 5 + (grownCap w n 0 118 - n) * 5 = _ * 5
      omega
    have hnx : Below w.heap.size w (w.drew.alloc (.cells (Builtin.zeroCells (Value.agg #[.int .i64 0, .int .i64 0, .string ⟨#[]⟩, .bool false, .bool false]).cells n ++ Builtin.zeroCells (Value.agg #[.int .i64 0, .int .i64 0, .string ⟨#[]⟩, .bool false, .bool false]).cells (grownCap w n 0 118 - n)) 118)) := below_alloc (Below.refl _ w).drew _
    generalize grownCap w n 0 118 = cap at *
    generalize w.drew.alloc (.cells (Builtin.zeroCells (Value.agg #[.int .i64 0, .int .i64 0, .string ⟨#[]⟩, .bool false, .bool false]).cells n ++ Builtin.zeroCells (Value.agg #[.int .i64 0, .int .i64 0, .string ⟨#[]⟩, .bool false, .bool false]).cells (cap - n)) 118) = W at *
    go_enter Tryz.func87, Tryz.ntmps87
    go_wp2_with (at_builtin; refine Lib.wpList_append_run _ rfl _ _ 38 3 rfl _ _ rfl rfl _ _ (hr _) ?_)
    go_wp2
    go_ret
    exact ⟨_, rfl, hown, hnx⟩

set_option maxRecDepth 100000 in
theorem concatUn_any (sb : Nat) (F : Nat → List Un) (A : Nat → Option Addr) (C : Nat → Nat) (w : World) (hcell : ∀ j, j < 2 → w.cell? ⟨sb, j, none⟩ = some (.slice (A j) (F j).length (C j)))
    (hT : ∀ j, j < 2 → unE.Sl w (A j) (F j)) (hc : ∀ j, j < 2 → A j = none → C j = 0) (hl : (catE F 2).length ≤ 1000) (hsb : sb < w.heap.size) :
    Calls Tryz.prog 55 #[.slice (some ⟨sb, 0, none⟩) 2 2] w fun e w' => ∃ A' cap', e = .returned (.slice A' (catE F 2).length cap') ∧ SlV unE w' A' cap' (catE F 2) ∧ Frs w.heap.size A' ∧ Below w.heap.size w w' := by
  have CG := fun n hn => growUn_any w.heap.size n w hn (Nat.le_refl _)
  have hle := fun k h => catE_le F k 2 h
  have HCL := Lib.hid hcell
  have HTT := Lib.hid hT
  have HCC := Lib.hid hc
  clear hcell hT hc
  go_enter Tryz.func55, Tryz.ntmps55
  go_wp2
  go_loop [3, 11] (fun x y => ∃ k : Nat, k ≤ 2 ∧ y = .int .i64 k ∧ x = .int .i64 (catE F k).length) (fun _ y => 2 - (intOf y).toNat)
  case atStart => exact ⟨0, Nat.zero_le _, rfl, rfl⟩
  case round =>
    obtain ⟨k, hk, rfl, rfl⟩ := hrel
    by_cases hlt : k < 2
    · have h1 := HCL.out k hlt
      have h2 := hle (k + 1) hlt
      have h3 : (catE F (k + 1)).length = (catE F k).length + (F k).length := by rw [catE, List.length_append]
      have H3 := Lib.hid h3
      have h4 : (catE F k).length + (F k).length ≤ 1000 := by omega
      generalize (catE F k).length = n at *
      generalize (F k).length = m at *
      clear h3
      go_wp2
      go_round
      case rel => exact ⟨k + 1, by omega, by go_num, by rw [H3.out]; go_num⟩
      case measure => simp [intOf]; omega
    · obtain rfl : k = 2 := by omega
      have CG := CG _ hl
      go_wp2_with fail
      refine CG.mono ?_
      rintro e w1 ⟨v, rfl, hown, hb1⟩
      clear CG
      go_wp2
      go_loopw [6, 27] (fun x y wr => ∃ (k : Nat) (v : Value), k ≤ 2 ∧ y = .int .i64 k ∧ x = v ∧ unE.Own wr w.heap.size v (catE F k) ∧ Below w.heap.size w wr) (fun _ y _ => 2 - (intOf y).toNat)
      case atStart => exact ⟨0, v, Nat.zero_le _, rfl, rfl, hown, hb1⟩
      case round =>
        clear hown hb1
        obtain ⟨k, v, hk, rfl, rfl, hown, hnx⟩ := hrel
        by_cases hlt : k < 2
        · have h1 := HCL.out k hlt
          rw [← (bcell hnx).1 _ _ hsb] at h1
          have h2 := hle (k + 1) hlt
          have h3 : (catE F (k + 1)).length = (catE F k).length + (F k).length := by rw [catE, List.length_append]
          have hTk := (HTT.out k hlt).below hnx
          have hck := HCC.out k hlt
          have hB := hnx.size
          go_wp2_with (at_builtin; refine El.wpList_app unInn rfl _ _ rfl w.heap.size _ (catE F k) (F k) rfl hown (A k) _ (C k) rfl rfl hTk hck (by omega) hB ?_; intro v' w2 hown2 hg2 _)
          go_roundw
          case rel => exact ⟨k + 1, v', by omega, by go_num, rfl, hown2, hnx.grown hg2 hB (fun j hj => (hown).rows j hj)⟩
          case measure => simp [intOf]; omega
        · obtain rfl : k = 2 := by omega
          obtain ⟨A', cap', rfl, hS⟩ := SlV.own hown
          go_wp2
          go_ret
          exact ⟨A', cap', rfl, hS, hown.frs, hnx⟩
end Go.Proofs.YtdcjffajmckleaaGreatDoor

/- Where an operation of a moment stands, and whether it does; a past in new memory; whether each has its undo. -/
namespace Go.Proofs.YtdcjffajmckleaaGreatDoor
open Go.RowKit Tre Cod Pst

set_option maxRecDepth 100000 in
set_option maxHeartbeats 1000000 in
theorem pfind_any (A : Option Addr) (c : Nat) (l : List Mv) (m : Mv) (w : World) (hr : Ris Mv.C Mv.D l) (hl : l.length ≤ 1000) (hT : opE.Sl w A l) :
    Calls Tryz.prog 48 #[.slice A l.length c, .agg #[.int .i64 m.C, .int .i64 m.D]] w fun e w' => e = .returned (.tuple #[.int .i64 (pos Mv.C Mv.D l m), .bool (has Mv.C Mv.D l m)]) ∧ Below w.heap.size w w' := by
  have hB := below_alloc (below_alloc (Below.refl w.heap.size w) (.cells #[.slice A l.length c] 31)) (.cells #[.int .i64 m.C, .int .i64 m.D] 53)
  have hTW := hT.below hB
  have c1 : ((w.alloc (.cells #[.slice A l.length c] 31)).alloc (.cells #[.int .i64 m.C, .int .i64 m.D] 53)).cell? ⟨w.heap.size, 0, none⟩ = some (.slice A l.length c) := by go_simp
  have c2 : ((w.alloc (.cells #[.slice A l.length c] 31)).alloc (.cells #[.int .i64 m.C, .int .i64 m.D] 53)).cell? ⟨w.heap.size + 1, 0, none⟩ = some (.int .i64 m.C) := by go_simp
  have c3 : ((w.alloc (.cells #[.slice A l.length c] 31)).alloc (.cells #[.int .i64 m.C, .int .i64 m.D] 53)).cell? ⟨w.heap.size + 1, 1, none⟩ = some (.int .i64 m.D) := by go_simp
  have hsz : ((w.alloc (.cells #[.slice A l.length c] 31)).alloc (.cells #[.int .i64 m.C, .int .i64 m.D] 53)).heap.size = w.heap.size + 1 + 1 := by rw [alloc_size, alloc_size]
  go_enter Tryz.func48, Tryz.ntmps48
  go_wp2_with fail
  generalize ((w.alloc (.cells #[.slice A l.length c] 31)).alloc (.cells #[.int .i64 m.C, .int .i64 m.D] 53)) = W at *
  obtain ⟨n1, h1⟩ : ∃ n, w.heap.size + 1 = n := ⟨_, rfl⟩
  rw [h1] at c2 c3 ⊢
  obtain ⟨n0, h0⟩ : ∃ n, w.heap.size = n := ⟨_, rfl⟩
  rw [h0] at c1 ⊢
  have hn0 : n0 < W.heap.size := by omega
  have hn1 : n1 < W.heap.size := by omega
  have CS := search1_any l.length n0 n1 (fun i => if h : i < l.length then !befB l[i].C l[i].D m.C m.D else true) W hl
    (fun i j hij hj hpi => by
      rw [dif_pos (show i < l.length by omega)] at hpi
      rw [dif_pos hj]
      by_cases e : i = j
      · subst e; exact hpi
      · have h3 := ris_get hr (show i < l.length by omega) hj (by omega)
        rw [bef_iff] at hpi ⊢
        rw [Bool.not_eq_true', decide_eq_false_iff_not] at hpi ⊢
        exact fun h4 => hpi (bef_trans h3 h4))
    (fun i w' hi hb => by
      have := findAt_any i A c l m.C m.D n0 n1 w' (by rw [(bcell hb).1 _ _ hn0]; exact c1) (by rw [(bcell hb).1 _ _ hn1]; exact c2) (by rw [(bcell hb).1 _ _ hn1]; exact c3) (hTW.below hb) hi hl
      rw [dif_pos hi]; exact this)
  refine CS.mono ?_
  rintro e w1 ⟨k, rfl, hk, hlo, hhi, hb1⟩
  have hpos : k = pos Mv.C Mv.D l m := find_pos hr hk (fun i h hik => by have := hlo i hik; rw [dif_pos h] at this; simpa using this) (fun i h hki => by have := hhi i hki h; rw [dif_pos h] at this; simpa using this)
  have d1 : w1.cell? ⟨n0, 0, none⟩ = some (.slice A l.length c) := by rw [(bcell hb1).1 _ _ hn0]; exact c1
  have d2 : w1.cell? ⟨n1, 0, none⟩ = some (.int .i64 m.C) := by rw [(bcell hb1).1 _ _ hn1]; exact c2
  have d3 : w1.cell? ⟨n1, 1, none⟩ = some (.int .i64 m.D) := by rw [(bcell hb1).1 _ _ hn1]; exact c3
  have hT1 := hTW.below hb1
  have hB1 := hB.trans (hb1.mono (by omega))
  clear CS hlo hhi c1 c2 c3 hTW hB
  by_cases hkl : k < l.length
  · obtain ⟨b, off, rfl, hbw, hc⟩ := hT1 (by omega)
    have hat : opE.At w1 b (off + k * 7) _ := hc k hkl
    obtain ⟨x, hx⟩ : ∃ x, l[k] = x := ⟨_, rfl⟩
    rw [hx] at hat
    have hh := has_at hpos hkl hx
    obtain ⟨t0, t1, t2, t3, t4, t5, t6⟩ := opAt hat
    have HP := Lib.hid hpos
    have HH := Lib.hid hh
    clear hc hat hx t2 t3 t4 t5 t6 hpos hh hr hT hl
    by_cases hs : x.C = m.C ∧ x.D = m.D
    · obtain ⟨e1, e2⟩ := hs
      go_wp2_with fail
      go_region
      all_goals go_wp2
      all_goals go_ret2
      all_goals exact ⟨by rw [← HP.out, HH.out, decide_eq_true ⟨e1, e2⟩]; rfl, hB1.drew⟩
    · have hun : (x.C == m.C) = false ∨ (x.C = m.C ∧ (x.D == m.D) = false) := by
        by_cases e : x.C = m.C
        · right; exact ⟨e, beq_eq_false_iff_ne.2 fun e2 => hs ⟨e, e2⟩⟩
        · left; exact beq_eq_false_iff_ne.2 e
      have HS := Lib.hid hs
      clear hs
      rcases hun with hun | ⟨hun1, hun⟩
      all_goals
        go_wp2_with fail
        go_region
        all_goals go_wp2
        all_goals go_ret2
        all_goals exact ⟨by rw [← HP.out, HH.out, decide_eq_false HS.out]; rfl, hB1.drew⟩
  · obtain rfl : k = l.length := by omega
    have HP := Lib.hid hpos
    have HH := Lib.hid (has_end hpos.symm)
    clear hpos hr hT hl
    go_wp2_with fail
    go_region
    all_goals go_wp2
    all_goals go_ret2
    all_goals exact ⟨by rw [← HP.out, HH.out]; rfl, hB1.drew⟩

theorem even_any (x : Pw) (w : World) (h : x.us.length = x.ops.length) :
    Calls Tryz.prog 49 #[.agg #[.slice x.bA x.base.length x.bc, .int .i64 x.t, .slice x.oA x.ops.length x.oc, .slice x.uA x.us.length x.uc, .slice x.wA x.now.length x.wc]] w fun e w' => e = .returned (.bool true) ∧ Below w.heap.size w w' := by
  obtain ⟨bA, bc, base, t, oA, oc, ops, uA, uc, us, wA, wc, now⟩ := x
  simp only at h
  go_enter Tryz.func49, Tryz.ntmps49
  go_wp2
  go_ret
  exact ⟨by simp [h], below_alloc (Below.refl _ _) _⟩
end Go.Proofs.YtdcjffajmckleaaGreatDoor

/- A past in new memory. -/
namespace Go.Proofs.YtdcjffajmckleaaGreatDoor
open Go.RowKit Tre Cod Pst

section
variable {P : Program} {ops : Array Oper} {Q : Exit → Act → World → Prop} {md : Region.Mode} {S : World → Prop} {n : Nat}
/-- An operation behind number n: nothing is asked. -/
theorem AllG.after {fuel : Nat} {listed : Array Bool} {a : Act} {w : World} {i : Nat} {o : Oper} {rs : List Nat} (ho : ops.toList[i]? = some o) (hn : (listed.setIfInBounds i true).getD n true = true)
    (h : ∀ K : Act → World → Prop, RowKit.Hid (∀ b v, anyG P md ops Q S n fuel (listed.setIfInBounds i true) b v → K b v) → if Region.wanted o (yielded ops a.tmps) = true then Oper.wp P o a w K Q else K (a.put o.dst undef) w)
    (hs : AllG P md ops Q S n fuel listed a w rs) : AllG P md ops Q S n fuel listed a w (i :: rs) := fun j hj => by
  rcases List.mem_cons.1 hj with rfl | hj
  · exact wpOp_step (by rw [← Array.getElem?_toList]; exact ho) (fun K hK => h K (Lib.hid fun b v hW => hK b v ⟨fun e => (by rw [hn] at e; cases e), hW⟩))
  · exact hs j hj
theorem anyG_plain_after {i : Nat} {oi : Oper} {v : Value} {fuel : Nat} {listed : Array Bool} {a : Act} {w : World} (hi : ops.toList[i]? = some oi)
    (hin : (i == n) = false) (hs : Region.noSelect ops = true) (hf : Region.free md ops listed i = true) (hr : (Region.ready md ops listed).contains i = true)
    (hQ : ∀ c a w, Q (.panic c) (a.put oi.dst v) w → Q (.panic c) a w) (hy : Yields P ops oi v a) (hn : listed.getD n true = true)
    (h : anyG P md ops Q S n fuel (listed.setIfInBounds i true) (a.put oi.dst v) w) : anyG P md ops Q S n (fuel + 1) listed a w :=
  anyG_plain hi hin hs hf hr hQ hy (fun e => by rw [hn] at e; cases e) h
end

/-- Its slices are the call's own. -/
structure PFrs (B : Nat) (y : Pw) : Prop where
  b : Frs B y.bA
  o : Frs B y.oA
  u : Frs B y.uA
  w : Frs B y.wA
theorem PFrs.mono {B C : Nat} {y : Pw} (h : PFrs C y) (hb : B ≤ C) : PFrs B y := ⟨h.b.mono hb, h.o.mono hb, h.u.mono hb, h.w.mono hb⟩
/-- A block ahead of them is written: they stay. -/
theorem PastOk.keep {w w' : World} {y : Pw} {B b : Nat} (h : PastOk w y) (hf : PFrs B y) (hg : w.grownBy w' (some b)) (hb : b < B) : PastOk w' y :=
  ⟨h.b.keep hf.b hg hb, h.o.keep hf.o hg hb, h.u.keep hf.u hg hb, h.w.keep hf.w hg hb⟩
def Two (n0 i j : Nat) (u v : Value) (w : World) : Prop := w.cell? ⟨n0, i, none⟩ = some u ∧ w.cell? ⟨n0, j, none⟩ = some v

set_option maxRecDepth 100000 in
set_option maxHeartbeats 4000000 in
theorem psame_any (x : Pw) (w : World) (hx : PastOk w x) (hl1 : x.base.length ≤ 50000) (hl2 : x.ops.length ≤ 50000) (hl3 : x.us.length ≤ 50000) (hl4 : x.now.length ≤ 50000) :
    Calls Tryz.prog 50 #[.agg #[.slice x.bA x.base.length x.bc, .int .i64 x.t, .slice x.oA x.ops.length x.oc, .slice x.uA x.us.length x.uc, .slice x.wA x.now.length x.wc]] w fun e w' => ∃ y : Pw, e = .returned (.agg #[.slice y.bA y.base.length y.bc, .int .i64 y.t, .slice y.oA y.ops.length y.oc, .slice y.uA y.us.length y.uc, .slice y.wA y.now.length y.wc]) ∧ PastOk w' y ∧ y.v = x.v ∧ PFrs w.heap.size y ∧ Below w.heap.size w w' := by
  obtain ⟨bA, bc, base, t, oA, oc, ops, uA, uc, us, wA, wc, now⟩ := x
  simp only at hl1 hl2 hl3 hl4
  have hP : pwE.In ((w.alloc (.cells #[.slice bA base.length bc, .int .i64 t, .slice oA ops.length oc, .slice uA us.length uc, .slice wA now.length wc] 40)).alloc (.cells #[.slice none 0 0, .int .i64 0, .slice none 0 0, .slice none 0 0, .slice none 0 0] 40)) w.heap.size (⟨bA, bc, base, t, oA, oc, ops, uA, uc, us, wA, wc, now⟩ : Pw) := (El.In.new (E := pwE) w (⟨bA, bc, base, t, oA, oc, ops, uA, uc, us, wA, wc, now⟩ : Pw) _ rfl).alloc _
  have hR : pwE.In ((w.alloc (.cells #[.slice bA base.length bc, .int .i64 t, .slice oA ops.length oc, .slice uA us.length uc, .slice wA now.length wc] 40)).alloc (.cells #[.slice none 0 0, .int .i64 0, .slice none 0 0, .slice none 0 0, .slice none 0 0] 40)) (w.heap.size + 1) Pw.zero := by
    have h := El.In.new (E := pwE) (w.alloc (.cells #[.slice bA base.length bc, .int .i64 t, .slice oA ops.length oc, .slice uA us.length uc, .slice wA now.length wc] 40)) Pw.zero #[.slice none 0 0, .int .i64 0, .slice none 0 0, .slice none 0 0, .slice none 0 0] rfl
    rw [alloc_size] at h; exact h
  have hB := below_alloc (below_alloc (Below.refl w.heap.size w) (.cells #[.slice bA base.length bc, .int .i64 t, .slice oA ops.length oc, .slice uA us.length uc, .slice wA now.length wc] 40)) (.cells #[.slice none 0 0, .int .i64 0, .slice none 0 0, .slice none 0 0, .slice none 0 0] 40)
  have hx0 := hx.below hB
  have HL := Lib.hid hx
  clear hx
  go_enter Tryz.func50, Tryz.ntmps50
  go_wp2_with fail
  replace hP := hP
  refine region_anyG (S := Two w.heap.size 0 2 (.slice bA base.length bc) (.slice oA ops.length oc)) 7 (by kernel_rfl) ?_
  replace hx0 := hx0.below (Below.refl _ _).drew
  replace hB := hB.drew
  replace hP : pwE.In ((w.alloc (.cells #[.slice bA base.length bc, .int .i64 t, .slice oA ops.length oc, .slice uA us.length uc, .slice wA now.length wc] 40)).alloc (.cells #[.slice none 0 0, .int .i64 0, .slice none 0 0, .slice none 0 0, .slice none 0 0] 40)).drew w.heap.size (⟨bA, bc, base, t, oA, oc, ops, uA, uc, us, wA, wc, now⟩ : Pw) := hP
  replace hR : pwE.In ((w.alloc (.cells #[.slice bA base.length bc, .int .i64 t, .slice oA ops.length oc, .slice uA us.length uc, .slice wA now.length wc] 40)).alloc (.cells #[.slice none 0 0, .int .i64 0, .slice none 0 0, .slice none 0 0, .slice none 0 0] 40)).drew (w.heap.size + 1) Pw.zero := hR
  generalize ((w.alloc (.cells #[.slice bA base.length bc, .int .i64 t, .slice oA ops.length oc, .slice uA us.length uc, .slice wA now.length wc] 40)).alloc (.cells #[.slice none 0 0, .int .i64 0, .slice none 0 0, .slice none 0 0, .slice none 0 0] 40)).drew = W at *
  obtain ⟨n1, h1⟩ : ∃ n, w.heap.size + 1 = n := ⟨_, rfl⟩
  rw [h1] at hR ⊢
  obtain ⟨n0, h0⟩ : ∃ n, w.heap.size = n := ⟨_, rfl⟩
  have HN := Lib.hid (show w.heap.size ≤ n0 ∧ n1 = n0 + 1 by omega)
  have hn10 : n1 ≠ n0 := by omega
  rw [h0] at hP ⊢
  clear h0 h1
  obtain ⟨hxb, hxo, hxu, hxw⟩ := hx0
  simp only at hxb hxo hxu hxw
  have hS : Two n0 0 2 (.slice bA base.length bc) (.slice oA ops.length oc) W := ⟨(pwIn5 hP).1, (pwIn5 hP).2.2.1⟩
  refine anyG_take (i := 0) (v := .pointer (some ⟨n0, 0, none⟩)) rfl (by kernel_rfl) (by kernel_rfl) (by kernel_rfl) (by kernel_rfl) (by kernel_rfl) (fun _ _ _ h => h) (Or.inl ⟨by rfl, fun w' hSw => by (obtain ⟨s0, s1⟩ := hSw; go_simp)⟩) hS ?_
  try simp only [Act.put, List.setIfInBounds_toArray, List.set_cons_zero, List.set_cons_succ]
  refine anyG_take (i := 1) (v := .slice bA base.length bc) rfl (by kernel_rfl) (by kernel_rfl) (by kernel_rfl) (by kernel_rfl) (by kernel_rfl) (fun _ _ _ h => h) (Or.inl ⟨by rfl, fun w' hSw => by (obtain ⟨s0, s1⟩ := hSw; go_simp)⟩) hS ?_
  try simp only [Act.put, List.setIfInBounds_toArray, List.set_cons_zero, List.set_cons_succ]
  refine anyG_take (i := 3) (v := .pointer (some ⟨n0, 2, none⟩)) rfl (by kernel_rfl) (by kernel_rfl) (by kernel_rfl) (by kernel_rfl) (by kernel_rfl) (fun _ _ _ h => h) (Or.inl ⟨by rfl, fun w' hSw => by (obtain ⟨s0, s1⟩ := hSw; go_simp)⟩) hS ?_
  try simp only [Act.put, List.setIfInBounds_toArray, List.set_cons_zero, List.set_cons_succ]
  refine anyG_take (i := 4) (v := .slice oA ops.length oc) rfl (by kernel_rfl) (by kernel_rfl) (by kernel_rfl) (by kernel_rfl) (by kernel_rfl) (fun _ _ _ h => h) (Or.inl ⟨by rfl, fun w' hSw => by (obtain ⟨s0, s1⟩ := hSw; go_simp)⟩) hS ?_
  try simp only [Act.put, List.setIfInBounds_toArray, List.set_cons_zero, List.set_cons_succ]
  refine anyG_step (rs := [2]) (by kernel_rfl) (by simp) ?_
  refine AllG.cons rfl (fun K hK => ?_) AllG.nil
  have C1 := clonePl_any bA bc base W hl1 hxb
  go_simp
  refine C1.mono ?_
  rintro e W1 ⟨A1, c1, rfl, hS1, hf1, hb1⟩
  clear C1
  have hP1 := hP.below hb1
  have hR1 := hR.below hb1
  replace hxo := hxo.below hb1
  replace hxu := hxu.below hb1
  replace hxw := hxw.below hb1
  clear hS
  have hS : Two n0 0 2 (.slice bA base.length bc) (.slice oA ops.length oc) W1 := ⟨(pwIn5 hP1).1, (pwIn5 hP1).2.2.1⟩
  try go_wp2_with fail
  refine hK.out _ _ hS ?_
  try simp only [Act.put, List.setIfInBounds_toArray, List.set_cons_zero, List.set_cons_succ]
  refine anyG_plain (i := 6) (v := .pointer (some ⟨n0, 0, none⟩)) rfl (by kernel_rfl) (by kernel_rfl) (by kernel_rfl) (by kernel_rfl) (fun _ _ _ h => h) (Or.inl ⟨by rfl, fun w' => by go_simp⟩) (fun _ => hS) ?_
  try simp only [Act.put, List.setIfInBounds_toArray, List.set_cons_zero, List.set_cons_succ]
  refine anyG_step (rs := [5]) (by kernel_rfl) (by simp) ?_
  refine AllG.cons rfl (fun K hK => ?_) AllG.nil
  have C2 := cloneOp_any oA oc ops W1 hl2 hxo
  go_simp
  refine C2.mono ?_
  rintro e W2 ⟨A2, c2, rfl, hS2, hf2, hb2⟩
  clear C2
  have hP2 := hP1.below hb2
  have hR2 := hR1.below hb2
  replace hxu := hxu.below hb2
  replace hxw := hxw.below hb2
  replace hS1 := hS1.below hb2
  have hB2 := hB.trans ((below_then hb1 hb2).mono (by have := hB.size; omega))
  have hl0 := hP.lt
  have hl1' := hP1.lt
  have hwW : w.heap.size ≤ W.heap.size ∧ w.heap.size ≤ W1.heap.size := ⟨hB.size, by have := hB.size; have := hb1.size; omega⟩
  have hlW : n1 < W.heap.size ∧ n1 < W1.heap.size := ⟨hR.lt, hR1.lt⟩
  clear hS
  have hS : Two n0 0 2 (.slice bA base.length bc) (.slice oA ops.length oc) W2 := ⟨(pwIn5 hP2).1, (pwIn5 hP2).2.2.1⟩
  try go_wp2_with fail
  refine hK.out _ _ hS ?_
  try simp only [Act.put, List.setIfInBounds_toArray, List.set_cons_zero, List.set_cons_succ]
  refine anyG_step (rs := [7]) (by kernel_rfl) (by simp) ?_
  refine AllG.last (n := 7) rfl (fun K hK => ?_)
  obtain ⟨q0, q1, q2, q3, q4⟩ := pwIn5 hP2
  have qf := hP2.frozen
  go_simp
  refine hK.out _ _ ?_
  try simp only [Act.put, List.setIfInBounds_toArray, List.set_cons_zero, List.set_cons_succ]
  clear q0 q1 q2 q3 q4 qf hS hK
  have hP3 := hP2.put ⟨A1, c1, base, t, oA, oc, ops, uA, uc, us, wA, wc, now⟩ 0 (.slice A1 base.length c1) rfl
  have hg3 := by_cell W2 n0 0 (.slice A1 base.length c1)
  have hR3 := hR2.other n0 0 (.slice A1 base.length c1) hn10
  refine anyG_plain_after (i := 8) (v := .pointer (some ⟨n0, 2, none⟩)) rfl (by kernel_rfl) (by kernel_rfl) (by kernel_rfl) (by kernel_rfl) (fun _ _ _ h => h) (Or.inl ⟨by rfl, fun w' => by go_simp⟩) (by kernel_rfl) ?_
  try simp only [Act.put, List.setIfInBounds_toArray, List.set_cons_zero, List.set_cons_succ]
  refine anyG_step (rs := [9]) (by kernel_rfl) (by simp) ?_
  refine AllG.after rfl (by kernel_rfl) (fun K hK => ?_) AllG.nil
  obtain ⟨q0, q1, q2, q3, q4⟩ := pwIn5 hP3
  have qf := hP3.frozen
  go_simp
  refine hK.out _ _ ?_
  try simp only [Act.put, List.setIfInBounds_toArray, List.set_cons_zero, List.set_cons_succ]
  clear q0 q1 q2 q3 q4 qf hK
  refine anyG_done (by kernel_rfl) ?_ _
  have hP4 := hP3.put ⟨A1, c1, base, t, A2, c2, ops, uA, uc, us, wA, wc, now⟩ 2 (.slice A2 ops.length c2) rfl
  have hg4 := by_cell2 hg3 2 (.slice A2 ops.length c2)
  have hR4 := hR3.other n0 2 (.slice A2 ops.length c2) hn10
  have hB4 := hB2.grown hg4 hB2.size (fun j e => by have := Option.some.inj e; have := HN.out; omega)
  have hS41 := hS1.keep hf1 hg4 hl0
  have hS42 := hS2.keep hf2 hg4 hl1'
  generalize (W2.setCell ⟨n0, 0, none⟩ (.slice A1 base.length c1)).setCell ⟨n0, 2, none⟩ (.slice A2 ops.length c2) = V at *
  clear hg3 hg4 hP3 hR3 hxb hxo hxu hxw hP2 hR2 hP1 hR1 hP hR hS1 hS2 hB2 hB hb1 hb2
  obtain ⟨hxb, hxo, hxu, hxw⟩ := HL.out.below hB4
  simp only at hxb hxo hxu hxw
  have hl0w := hP4.lt
  have hl1w := hR4.lt
  go_wp2_with fail
  refine region_anyG (S := Two n0 3 4 (.slice uA us.length uc) (.slice wA now.length wc)) 7 (by kernel_rfl) ?_
  replace hP : pwE.In V.drew n0 ⟨A1, c1, base, t, A2, c2, ops, uA, uc, us, wA, wc, now⟩ := hP4
  replace hR : pwE.In V.drew n1 Pw.zero := hR4
  replace hxu : SlV unE V.drew uA uc us := hxu
  replace hxw : SlV plE V.drew wA wc now := hxw
  replace hS41 : SlV plE V.drew A1 c1 base := hS41
  replace hS42 : SlV opE V.drew A2 c2 ops := hS42
  replace hB := hB4.drew
  replace hl0w : n0 < V.drew.heap.size := hl0w
  replace hl1w : n1 < V.drew.heap.size := hl1w
  clear hP4 hR4 hB4 hxb hxo
  generalize V.drew = V at *
  have hS : Two n0 3 4 (.slice uA us.length uc) (.slice wA now.length wc) V := ⟨(pwIn5 hP).2.2.2.1, (pwIn5 hP).2.2.2.2⟩
  refine anyG_take (i := 0) (v := .pointer (some ⟨n0, 3, none⟩)) rfl (by kernel_rfl) (by kernel_rfl) (by kernel_rfl) (by kernel_rfl) (by kernel_rfl) (fun _ _ _ h => h) (Or.inl ⟨by rfl, fun w' hSw => by (obtain ⟨s0, s1⟩ := hSw; go_simp)⟩) hS ?_
  try simp only [Act.put, List.setIfInBounds_toArray, List.set_cons_zero, List.set_cons_succ]
  refine anyG_take (i := 1) (v := .slice uA us.length uc) rfl (by kernel_rfl) (by kernel_rfl) (by kernel_rfl) (by kernel_rfl) (by kernel_rfl) (fun _ _ _ h => h) (Or.inl ⟨by rfl, fun w' hSw => by (obtain ⟨s0, s1⟩ := hSw; go_simp)⟩) hS ?_
  try simp only [Act.put, List.setIfInBounds_toArray, List.set_cons_zero, List.set_cons_succ]
  refine anyG_take (i := 3) (v := .pointer (some ⟨n0, 4, none⟩)) rfl (by kernel_rfl) (by kernel_rfl) (by kernel_rfl) (by kernel_rfl) (by kernel_rfl) (fun _ _ _ h => h) (Or.inl ⟨by rfl, fun w' hSw => by (obtain ⟨s0, s1⟩ := hSw; go_simp)⟩) hS ?_
  try simp only [Act.put, List.setIfInBounds_toArray, List.set_cons_zero, List.set_cons_succ]
  refine anyG_take (i := 4) (v := .slice wA now.length wc) rfl (by kernel_rfl) (by kernel_rfl) (by kernel_rfl) (by kernel_rfl) (by kernel_rfl) (fun _ _ _ h => h) (Or.inl ⟨by rfl, fun w' hSw => by (obtain ⟨s0, s1⟩ := hSw; go_simp)⟩) hS ?_
  try simp only [Act.put, List.setIfInBounds_toArray, List.set_cons_zero, List.set_cons_succ]
  refine anyG_step (rs := [2]) (by kernel_rfl) (by simp) ?_
  refine AllG.cons rfl (fun K hK => ?_) AllG.nil
  have C3 := cloneUn_any uA uc us V hl3 hxu
  go_simp
  refine C3.mono ?_
  rintro e W5 ⟨A3, c3, rfl, hS3, hf3, hb5⟩
  clear C3
  have hP5 := hP.below hb5
  have hR5 := hR.below hb5
  replace hxw := hxw.below hb5
  replace hS41 := hS41.below hb5
  replace hS42 := hS42.below hb5
  clear hS
  have hS : Two n0 3 4 (.slice uA us.length uc) (.slice wA now.length wc) W5 := ⟨(pwIn5 hP5).2.2.2.1, (pwIn5 hP5).2.2.2.2⟩
  try go_wp2_with fail
  refine hK.out _ _ hS ?_
  try simp only [Act.put, List.setIfInBounds_toArray, List.set_cons_zero, List.set_cons_succ]
  refine anyG_plain (i := 6) (v := .pointer (some ⟨n0, 3, none⟩)) rfl (by kernel_rfl) (by kernel_rfl) (by kernel_rfl) (by kernel_rfl) (fun _ _ _ h => h) (Or.inl ⟨by rfl, fun w' => by go_simp⟩) (fun _ => hS) ?_
  try simp only [Act.put, List.setIfInBounds_toArray, List.set_cons_zero, List.set_cons_succ]
  refine anyG_step (rs := [5]) (by kernel_rfl) (by simp) ?_
  refine AllG.cons rfl (fun K hK => ?_) AllG.nil
  have C4 := clonePl_any wA wc now W5 hl4 hxw
  go_simp
  refine C4.mono ?_
  rintro e W6 ⟨A4, c4, rfl, hS4, hf4, hb6⟩
  clear C4
  have hP6 := hP5.below hb6
  have hR6 := hR5.below hb6
  replace hS41 := hS41.below hb6
  replace hS42 := hS42.below hb6
  replace hS3 := hS3.below hb6
  have hB6 := hB.trans ((below_then hb5 hb6).mono (by have := hB.size; omega))
  have hl5 := hP5.lt
  have hl51 := hR5.lt
  clear hS
  have hS : Two n0 3 4 (.slice uA us.length uc) (.slice wA now.length wc) W6 := ⟨(pwIn5 hP6).2.2.2.1, (pwIn5 hP6).2.2.2.2⟩
  try go_wp2_with fail
  refine hK.out _ _ hS ?_
  try simp only [Act.put, List.setIfInBounds_toArray, List.set_cons_zero, List.set_cons_succ]
  refine anyG_step (rs := [7]) (by kernel_rfl) (by simp) ?_
  refine AllG.last (n := 7) rfl (fun K hK => ?_)
  obtain ⟨q0, q1, q2, q3, q4⟩ := pwIn5 hP6
  have qf := hP6.frozen
  go_simp
  refine hK.out _ _ ?_
  try simp only [Act.put, List.setIfInBounds_toArray, List.set_cons_zero, List.set_cons_succ]
  clear q0 q1 q2 q3 q4 qf hS hK
  have hP7 := hP6.put ⟨A1, c1, base, t, A2, c2, ops, A3, c3, us, wA, wc, now⟩ 3 (.slice A3 us.length c3) rfl
  have hg7 := by_cell W6 n0 3 (.slice A3 us.length c3)
  have hR7 := hR6.other n0 3 (.slice A3 us.length c3) hn10
  refine anyG_plain_after (i := 8) (v := .pointer (some ⟨n0, 4, none⟩)) rfl (by kernel_rfl) (by kernel_rfl) (by kernel_rfl) (by kernel_rfl) (fun _ _ _ h => h) (Or.inl ⟨by rfl, fun w' => by go_simp⟩) (by kernel_rfl) ?_
  try simp only [Act.put, List.setIfInBounds_toArray, List.set_cons_zero, List.set_cons_succ]
  refine anyG_step (rs := [9]) (by kernel_rfl) (by simp) ?_
  refine AllG.after rfl (by kernel_rfl) (fun K hK => ?_) AllG.nil
  obtain ⟨q0, q1, q2, q3, q4⟩ := pwIn5 hP7
  have qf := hP7.frozen
  go_simp
  refine hK.out _ _ ?_
  try simp only [Act.put, List.setIfInBounds_toArray, List.set_cons_zero, List.set_cons_succ]
  clear q0 q1 q2 q3 q4 qf hK
  refine anyG_done (by kernel_rfl) ?_ _
  have hP8 := hP7.put ⟨A1, c1, base, t, A2, c2, ops, A3, c3, us, A4, c4, now⟩ 4 (.slice A4 now.length c4) rfl
  have hg8 := by_cell2 hg7 4 (.slice A4 now.length c4)
  have hR8 := hR7.other n0 4 (.slice A4 now.length c4) hn10
  have hB8 := hB6.grown hg8 hB6.size (fun j e => by have := Option.some.inj e; have := HN.out; omega)
  have hf1' : Frs W.heap.size A1 := hf1
  have h81 : SlV plE ((W6.setCell ⟨n0, 3, none⟩ (.slice A3 us.length c3)).setCell ⟨n0, 4, none⟩ (.slice A4 now.length c4)) A1 c1 base := hS41.keep hf1 hg8 hl0
  have h82 := hS42.keep hf2 hg8 hl1'
  have h83 := hS3.keep hf3 hg8 hl0w
  have h84 := hS4.keep hf4 hg8 hl5
  have hlz : n1 < W.heap.size ∧ n1 < W1.heap.size := by
    refine ⟨?_, ?_⟩
    · exact hlW.1
    · exact hlW.2
  generalize (W6.setCell ⟨n0, 3, none⟩ (.slice A3 us.length c3)).setCell ⟨n0, 4, none⟩ (.slice A4 now.length c4) = V8 at *
  clear hg7 hg8 hP7 hR7
  have HW := Lib.hid (show w.heap.size ≤ W.heap.size ∧ w.heap.size ≤ W1.heap.size ∧ w.heap.size ≤ V.heap.size ∧ w.heap.size ≤ W5.heap.size from ⟨hwW.1, hwW.2, hB.size, by have := hB.size; have := hb5.size; omega⟩)
  go_wp2_with (first | (refine El.load pwRow rfl _ rfl n0 0 rfl ⟨A1, c1, base, t, A2, c2, ops, A3, c3, us, A4, c4, now⟩ hP8.at #[.slice A1 base.length c1, .int .i64 t, .slice A2 ops.length c2, .slice A3 us.length c3, .slice A4 now.length c4] rfl ?_) | (refine El.store pwRow rfl _ _ rfl n1 ⟨A1, c1, base, t, A2, c2, ops, A3, c3, us, A4, c4, now⟩ #[.slice A1 base.length c1, .int .i64 t, .slice A2 ops.length c2, .slice A3 us.length c3, .slice A4 now.length c4] rfl rfl rfl Pw.zero hR8 ?_))
  refine El.ret1 pwRow (hR8.set ⟨A1, c1, base, t, A2, c2, ops, A3, c3, us, A4, c4, now⟩ #[.slice A1 base.length c1, .int .i64 t, .slice A2 ops.length c2, .slice A3 us.length c3, .slice A4 now.length c4] rfl) rfl rfl rfl #[.slice A1 base.length c1, .int .i64 t, .slice A2 ops.length c2, .slice A3 us.length c3, .slice A4 now.length c4] rfl ?_
  have hw1 : w.heap.size ≤ n1 := by have := HN.out; omega
  have hgz := by_row V8 n1 #[.slice A1 base.length c1, .int .i64 t, .slice A2 ops.length c2, .slice A3 us.length c3, .slice A4 now.length c4]
  exact ⟨⟨A1, c1, base, t, A2, c2, ops, A3, c3, us, A4, c4, now⟩, rfl, ⟨h81.keep hf1 hgz hlz.1, h82.keep hf2 hgz hlz.2, h83.keep hf3 hgz hl1w, h84.keep hf4 hgz hl51⟩, rfl, ⟨hf1.mono HW.out.1, hf2.mono HW.out.2.1, hf3.mono HW.out.2.2.1, hf4.mono HW.out.2.2.2⟩, below_setRow hB8 hw1 _⟩
end Go.Proofs.YtdcjffajmckleaaGreatDoor

/- Moves undone from the last one on. -/
namespace Go.Proofs.YtdcjffajmckleaaGreatDoor
open Go.RowKit Tre Cod Pst

theorem undo_at {base : List Pl} (hs : Sorted base) (o : List Mv) (j : Nat) (h : j < o.length) :
    ∃ u, (foldL base (mvs o)).2[j]? = some u ∧ backL (fold1 base o (j + 1)) o[j].K u = fold1 base o j := by
  have hm : j < (mvs o).length := by rw [mvs_len]; exact h
  have e : (mvs o)[j]'hm = mvPl o[j] := List.getElem_map mvPl
  refine ⟨_, foldL_un base (mvs o) j hm, ?_⟩
  have h2 := foldL_undo hs (mvs o) j hm
  unfold fold1
  rw [← mvs_take, ← mvs_take]
  rw [e] at h2 ⊢
  exact h2

set_option maxRecDepth 100000 in
set_option maxHeartbeats 4000000 in
theorem undone_any (A : Option Addr) (c : Nat) (base now : List Pl) (O : Option Addr) (oc : Nat) (o : List Mv) (U : Option Addr) (uc : Nat) (us : List Un) (w : World) (hl : base.length + o.length ≤ 890) (hs : Sorted base)
    (hnow : now = (foldL base (mvs o)).1) (hus : us = (foldL base (mvs o)).2) (hT : SlV plE w A c now) (hO : opE.Sl w O o) (hU : unE.Sl w U us) :
    Calls Tryz.prog 53 #[.slice A now.length c, .slice O o.length oc, .slice U us.length uc] w fun e w' => ∃ A' c', e = .returned (.slice A' base.length c') ∧ SlV plE w' A' c' base ∧ Below w.heap.size w w' := by
  have hul : us.length = o.length := by rw [hus, foldL_len, mvs_len]
  have hUN := fun j h => undo_at hs o j h
  rw [← hus] at hUN
  have hn0 : now = fold1 base o o.length := by rw [fold1_all]; exact hnow
  have HUN := Lib.hid hUN
  have HUL := Lib.hid hul
  clear hnow hus hUN hul
  subst hn0
  go_enter Tryz.func53, Tryz.ntmps53
  go_wp2
  go_loopw [0, 7] (fun x y wr => ∃ (k : Nat) (z : Int) (A' : Option Addr) (c' : Nat), k ≤ o.length ∧ z + 1 = k ∧ y = .int .i64 z ∧ x = .slice A' (fold1 base o k).length c' ∧ SlV plE wr A' c' (fold1 base o k) ∧ Below w.heap.size w wr) (fun _ y _ => (intOf y + 1).toNat)
  case atStart => exact ⟨o.length, (o.length : Int) - 1, A, c, Nat.le_refl _, by omega, by go_num, rfl, hT, Below.refl _ _⟩
  case round =>
    clear hT
    obtain ⟨k, z, A', c', hk, hz, rfl, rfl, hS, hB⟩ := hrel
    by_cases hpos : 0 ≤ z
    · obtain ⟨j, rfl⟩ : ∃ j : Nat, z = j := ⟨z.toNat, by omega⟩
      obtain rfl : k = j + 1 := by omega
      obtain ⟨b, off, rfl, hbw, hc⟩ := hO (by omega)
      obtain ⟨b2, off2, rfl, hbw2, hc2⟩ := hU (by rw [HUL.out]; omega)
      have hju : j < us.length := by rw [HUL.out]; omega
      have hat : opE.At wr b (off + j * 7) _ := (hc j (by omega)).below hB hbw
      have hat2 : unE.At wr b2 (off2 + j * 5) _ := (hc2 j hju).below hB hbw2
      obtain ⟨u, hu, hback⟩ := HUN.out j (by omega)
      have hu2 : us[j] = u := by rw [List.getElem?_eq_getElem hju] at hu; exact Option.some.inj hu
      obtain ⟨m, hm⟩ : ∃ m, o[j] = m := ⟨_, rfl⟩
      rw [hm] at hat hback
      rw [hu2] at hat2
      have hl1 := fold1_len base o (j + 1)
      have hs1 := fold1_sorted hs o (j + 1)
      have CB := fun (wx : World) (hx : Below wr.heap.size wr wx) => back_any A' c' (fold1 base o (j + 1)) m u wx (by omega) hs1 (hS.below hx)
      rw [hback] at CB
      have HCB := Lib.hid CB
      have hbw' : b < wr.heap.size := Nat.lt_of_lt_of_le hbw hB.size
      have hbw2' : b2 < wr.heap.size := Nat.lt_of_lt_of_le hbw2 hB.size
      have HB := Lib.hid hB
      have hjl : j < o.length := by omega
      clear CB hback hl1 hs1 hc hc2 hm hu hu2 hS hz
      generalize fold1 base o (j + 1) = T1 at *
      go_wp2_with fail
      replace hat : opE.At wr.drew b (off + j * 7) m := hat
      replace hat2 : unE.At wr.drew b2 (off2 + j * 5) u := hat2
      have hdr : Below wr.heap.size wr wr.drew := (Below.refl _ wr).drew
      go_region_held3 (fun w' => (w'.cell? ⟨b, off + j * 7, none⟩ = some (.int .i64 m.C) ∧ w'.cell? ⟨b, off + j * 7 + 1, none⟩ = some (.int .i64 m.D) ∧ w'.cell? ⟨b, off + j * 7 + 2, none⟩ = some (.int .i64 m.I) ∧ w'.cell? ⟨b, off + j * 7 + 3, none⟩ = some (.int .i64 m.M) ∧ w'.cell? ⟨b, off + j * 7 + 4, none⟩ = some (.int .i64 m.K) ∧ w'.cell? ⟨b, off + j * 7 + 5, none⟩ = some (.int .i64 m.U) ∧ w'.cell? ⟨b, off + j * 7 + 6, none⟩ = some (.string m.s)) ∧ (w'.cell? ⟨b2, off2 + j * 5, none⟩ = some (.int .i64 u.was.n) ∧ w'.cell? ⟨b2, off2 + j * 5 + 1, none⟩ = some (.int .i64 u.was.u) ∧ w'.cell? ⟨b2, off2 + j * 5 + 2, none⟩ = some (.string u.was.s) ∧ w'.cell? ⟨b2, off2 + j * 5 + 3, none⟩ = some (.bool u.had) ∧ w'.cell? ⟨b2, off2 + j * 5 + 4, none⟩ = some (.bool u.did))) (with_reducible first | exact ⟨opAt hat, unAt hat2⟩ | exact ⟨opAt hat5, unAt hat25⟩) (first | (go_at_call 86; (with_reducible refine (HCB.out _ hdr).mono ?_); rintro e w5 ⟨A5, c5, rfl, hS5, hf5, hb5⟩; have hat5 := hat.below hb5 hbw'; have hat25 := hat2.below hb5 hbw2'))
      all_goals
        go_wp2
        go_roundw
        case rel =>
          exact ⟨j, (j : Int) - 1, A5, c5, by omega, by omega, by go_num, rfl, hS5, below_then HB.out (below_then hdr hb5)⟩
        case measure => simp [intOf]
    · obtain rfl : z = -1 := by omega
      obtain rfl : k = 0 := by omega
      rw [fold1_zero] at hS ⊢
      go_wp2
      go_ret
      exact ⟨A', c', rfl, hS, hB⟩
end Go.Proofs.YtdcjffajmckleaaGreatDoor

/- Add of the program: what comes too late, or a second time. -/
namespace Go.Proofs.YtdcjffajmckleaaGreatDoor
open Go.RowKit Tre Cod Pst

set_option maxRecDepth 100000 in
set_option maxHeartbeats 4000000 in
theorem pAdd_late (x : Pw) (m : Mv) (w : World) (hx : PastOk w x) (hI : PInv x.v) (hl : x.ops.length ≤ 200) (h : has Mv.C Mv.D x.ops m = true ∨ (has Mv.C Mv.D x.ops m = false ∧ m.C ≤ x.t)) :
    Calls Tryz.prog 25 #[.agg #[.slice x.bA x.base.length x.bc, .int .i64 x.t, .slice x.oA x.ops.length x.oc, .slice x.uA x.us.length x.uc, .slice x.wA x.now.length x.wc], .agg #[.int .i64 m.C, .int .i64 m.D, .int .i64 m.I, .int .i64 m.M, .int .i64 m.K, .int .i64 m.U, .string m.s]] w fun e w' => ∃ y : Pw, e = .returned (.tuple #[.agg #[.slice y.bA y.base.length y.bc, .int .i64 y.t, .slice y.oA y.ops.length y.oc, .slice y.uA y.us.length y.uc, .slice y.wA y.now.length y.wc], .bool (addV x.v m).2]) ∧ PastOk w' y ∧ y.v = (addV x.v m).1 ∧ Below w.heap.size w w' := by
  have ha : addV x.v m = (x.v, false) := by
    rcases h with h | h
    · by_cases h1 : m.C ≤ x.t
      · exact addV_late' h1
      · exact addV_same' h1 h
    · exact addV_late' h.2
  have hl1 : x.base.length ≤ 62 := tree_len hI.tree
  have hl4 : x.now.length ≤ 62 := tree_len hI.ntree
  have hl3 : x.us.length = x.ops.length := hI.ulen
  have hI' : Ris Mv.C Mv.D x.ops := hI.ris
  rw [ha]
  obtain ⟨bA, bc, base, t, oA, oc, ops, uA, uc, us, wA, wc, now⟩ := x
  simp only at hl h hl1 hl3 hl4 hI'
  have HU := Lib.hid hl3
  clear ha hl3 hI
  rcases h with h | ⟨h, ht⟩
  · skip
    have hP : pwE.In (((w.alloc (.cells #[.slice bA base.length bc, .int .i64 t, .slice oA ops.length oc, .slice uA us.length uc, .slice wA now.length wc] 40)).alloc (.cells #[.int .i64 m.C, .int .i64 m.D, .int .i64 m.I, .int .i64 m.M, .int .i64 m.K, .int .i64 m.U, .string m.s] 55)).alloc (.cells #[.slice none 0 0, .int .i64 0, .slice none 0 0, .slice none 0 0, .slice none 0 0] 40)) w.heap.size (⟨bA, bc, base, t, oA, oc, ops, uA, uc, us, wA, wc, now⟩ : Pw) := ((El.In.new (E := pwE) w (⟨bA, bc, base, t, oA, oc, ops, uA, uc, us, wA, wc, now⟩ : Pw) _ rfl).alloc _).alloc _
    have hO : opE.In (((w.alloc (.cells #[.slice bA base.length bc, .int .i64 t, .slice oA ops.length oc, .slice uA us.length uc, .slice wA now.length wc] 40)).alloc (.cells #[.int .i64 m.C, .int .i64 m.D, .int .i64 m.I, .int .i64 m.M, .int .i64 m.K, .int .i64 m.U, .string m.s] 55)).alloc (.cells #[.slice none 0 0, .int .i64 0, .slice none 0 0, .slice none 0 0, .slice none 0 0] 40)) (w.heap.size + 1) m := by
      have h := (El.In.new (E := opE) (w.alloc (.cells #[.slice bA base.length bc, .int .i64 t, .slice oA ops.length oc, .slice uA us.length uc, .slice wA now.length wc] 40)) m #[.int .i64 m.C, .int .i64 m.D, .int .i64 m.I, .int .i64 m.M, .int .i64 m.K, .int .i64 m.U, .string m.s] rfl).alloc (.cells #[.slice none 0 0, .int .i64 0, .slice none 0 0, .slice none 0 0, .slice none 0 0] 40)
      rw [alloc_size] at h; exact h
    have hR : pwE.In (((w.alloc (.cells #[.slice bA base.length bc, .int .i64 t, .slice oA ops.length oc, .slice uA us.length uc, .slice wA now.length wc] 40)).alloc (.cells #[.int .i64 m.C, .int .i64 m.D, .int .i64 m.I, .int .i64 m.M, .int .i64 m.K, .int .i64 m.U, .string m.s] 55)).alloc (.cells #[.slice none 0 0, .int .i64 0, .slice none 0 0, .slice none 0 0, .slice none 0 0] 40)) (w.heap.size + 2) Pw.zero := by
      have h := El.In.new (E := pwE) ((w.alloc (.cells #[.slice bA base.length bc, .int .i64 t, .slice oA ops.length oc, .slice uA us.length uc, .slice wA now.length wc] 40)).alloc (.cells #[.int .i64 m.C, .int .i64 m.D, .int .i64 m.I, .int .i64 m.M, .int .i64 m.K, .int .i64 m.U, .string m.s] 55)) Pw.zero #[.slice none 0 0, .int .i64 0, .slice none 0 0, .slice none 0 0, .slice none 0 0] rfl
      rw [alloc_size, alloc_size] at h; exact h
    have hB := below_alloc (below_alloc (below_alloc (Below.refl w.heap.size w) (.cells #[.slice bA base.length bc, .int .i64 t, .slice oA ops.length oc, .slice uA us.length uc, .slice wA now.length wc] 40)) (.cells #[.int .i64 m.C, .int .i64 m.D, .int .i64 m.I, .int .i64 m.M, .int .i64 m.K, .int .i64 m.U, .string m.s] 55)) (.cells #[.slice none 0 0, .int .i64 0, .slice none 0 0, .slice none 0 0, .slice none 0 0] 40)
    have HL := Lib.hid hx
    have hx0 := hx.below hB
    have CF := pfind_any oA oc ops m (((w.alloc (.cells #[.slice bA base.length bc, .int .i64 t, .slice oA ops.length oc, .slice uA us.length uc, .slice wA now.length wc] 40)).alloc (.cells #[.int .i64 m.C, .int .i64 m.D, .int .i64 m.I, .int .i64 m.M, .int .i64 m.K, .int .i64 m.U, .string m.s] 55)).alloc (.cells #[.slice none 0 0, .int .i64 0, .slice none 0 0, .slice none 0 0, .slice none 0 0] 40)) hI' (by omega) hx0.o.1
    clear hx hx0
    go_enter Tryz.func25, Tryz.ntmps25
    go_wp2_with fail
    generalize ((w.alloc (.cells #[.slice bA base.length bc, .int .i64 t, .slice oA ops.length oc, .slice uA us.length uc, .slice wA now.length wc] 40)).alloc (.cells #[.int .i64 m.C, .int .i64 m.D, .int .i64 m.I, .int .i64 m.M, .int .i64 m.K, .int .i64 m.U, .string m.s] 55)).alloc (.cells #[.slice none 0 0, .int .i64 0, .slice none 0 0, .slice none 0 0, .slice none 0 0] 40) = W at *
    obtain ⟨n2, h2⟩ : ∃ n, w.heap.size + 2 = n := ⟨_, rfl⟩
    obtain ⟨n1, h1⟩ : ∃ n, w.heap.size + 1 = n := ⟨_, rfl⟩
    obtain ⟨n0, h0⟩ : ∃ n, w.heap.size = n := ⟨_, rfl⟩
    have HN := Lib.hid (show w.heap.size ≤ n0 ∧ n1 = n0 + 1 ∧ n2 = n0 + 2 by omega)
    have hn20 : n2 ≠ n0 := by omega
    try rw [show w.heap.size + 1 + 1 = n2 by omega]
    rw [h2] at hR
    rw [h1] at hO ⊢
    rw [h0] at hP ⊢
    try rw [h2]
    clear h0 h1 h2
    refine CF.mono ?_
    rintro e W1 ⟨rfl, hb⟩
    clear CF
    replace hP := hP.below hb
    replace hO := hO.below hb
    replace hR := hR.below hb
    replace hB := hB.trans (hb.mono (by have := hB.size; omega))
    clear hb
    obtain ⟨p0, p1, p2, p3, p4⟩ := pwIn5 hP
    obtain ⟨o0, o1, o2, o3, o4, o5, o6⟩ := opIn7 hO
    rw [h]
    clear p0 p1 p2 p3 p4 o0 o1 o2 o3 o4 o5 o6
    have hx1 := HL.out.below hB
    have CS := psame_any (⟨bA, bc, base, t, oA, oc, ops, uA, uc, us, wA, wc, now⟩ : Pw) W1 hx1 (by simp only; omega) (by simp only; omega) (by simp only; rw [HU.out]; omega) (by simp only; omega)
    simp only at CS
    have HCS := Lib.hid CS
    clear CS
    go_wp2_with (first | (refine El.load pwRow rfl _ rfl n0 0 rfl (⟨bA, bc, base, t, oA, oc, ops, uA, uc, us, wA, wc, now⟩ : Pw) hP.at #[.slice bA base.length bc, .int .i64 t, .slice oA ops.length oc, .slice uA us.length uc, .slice wA now.length wc] rfl ?_) | (go_at_call 50; (with_reducible refine HCS.out.mono ?_); rintro e W2 ⟨y, rfl, hy, hyv, hyf, hb2⟩; have hR2 := hR.below hb2) | (refine El.store pwRow rfl _ _ rfl n2 y #[.slice y.bA y.base.length y.bc, .int .i64 y.t, .slice y.oA y.ops.length y.oc, .slice y.uA y.us.length y.uc, .slice y.wA y.now.length y.wc] rfl rfl rfl Pw.zero hR2 ?_))
    refine El.ret2 pwRow (v := .bool false) (hR2.set y #[.slice y.bA y.base.length y.bc, .int .i64 y.t, .slice y.oA y.ops.length y.oc, .slice y.uA y.us.length y.uc, .slice y.wA y.now.length y.wc] rfl) rfl rfl rfl rfl #[.slice y.bA y.base.length y.bc, .int .i64 y.t, .slice y.oA y.ops.length y.oc, .slice y.uA y.us.length y.uc, .slice y.wA y.now.length y.wc] rfl ?_
    have hw2 : w.heap.size ≤ n2 := by have := HN.out; omega
    have hB2 := hB.trans (hb2.mono (by have := hB.size; omega))
    have hl2 := hR.lt
    exact ⟨y, rfl, hy.keep hyf (by_row _ _ _) hl2, hyv, below_setRow hB2 hw2 _⟩
  · skip
    have hP : pwE.In (((w.alloc (.cells #[.slice bA base.length bc, .int .i64 t, .slice oA ops.length oc, .slice uA us.length uc, .slice wA now.length wc] 40)).alloc (.cells #[.int .i64 m.C, .int .i64 m.D, .int .i64 m.I, .int .i64 m.M, .int .i64 m.K, .int .i64 m.U, .string m.s] 55)).alloc (.cells #[.slice none 0 0, .int .i64 0, .slice none 0 0, .slice none 0 0, .slice none 0 0] 40)) w.heap.size (⟨bA, bc, base, t, oA, oc, ops, uA, uc, us, wA, wc, now⟩ : Pw) := ((El.In.new (E := pwE) w (⟨bA, bc, base, t, oA, oc, ops, uA, uc, us, wA, wc, now⟩ : Pw) _ rfl).alloc _).alloc _
    have hO : opE.In (((w.alloc (.cells #[.slice bA base.length bc, .int .i64 t, .slice oA ops.length oc, .slice uA us.length uc, .slice wA now.length wc] 40)).alloc (.cells #[.int .i64 m.C, .int .i64 m.D, .int .i64 m.I, .int .i64 m.M, .int .i64 m.K, .int .i64 m.U, .string m.s] 55)).alloc (.cells #[.slice none 0 0, .int .i64 0, .slice none 0 0, .slice none 0 0, .slice none 0 0] 40)) (w.heap.size + 1) m := by
      have h := (El.In.new (E := opE) (w.alloc (.cells #[.slice bA base.length bc, .int .i64 t, .slice oA ops.length oc, .slice uA us.length uc, .slice wA now.length wc] 40)) m #[.int .i64 m.C, .int .i64 m.D, .int .i64 m.I, .int .i64 m.M, .int .i64 m.K, .int .i64 m.U, .string m.s] rfl).alloc (.cells #[.slice none 0 0, .int .i64 0, .slice none 0 0, .slice none 0 0, .slice none 0 0] 40)
      rw [alloc_size] at h; exact h
    have hR : pwE.In (((w.alloc (.cells #[.slice bA base.length bc, .int .i64 t, .slice oA ops.length oc, .slice uA us.length uc, .slice wA now.length wc] 40)).alloc (.cells #[.int .i64 m.C, .int .i64 m.D, .int .i64 m.I, .int .i64 m.M, .int .i64 m.K, .int .i64 m.U, .string m.s] 55)).alloc (.cells #[.slice none 0 0, .int .i64 0, .slice none 0 0, .slice none 0 0, .slice none 0 0] 40)) (w.heap.size + 2) Pw.zero := by
      have h := El.In.new (E := pwE) ((w.alloc (.cells #[.slice bA base.length bc, .int .i64 t, .slice oA ops.length oc, .slice uA us.length uc, .slice wA now.length wc] 40)).alloc (.cells #[.int .i64 m.C, .int .i64 m.D, .int .i64 m.I, .int .i64 m.M, .int .i64 m.K, .int .i64 m.U, .string m.s] 55)) Pw.zero #[.slice none 0 0, .int .i64 0, .slice none 0 0, .slice none 0 0, .slice none 0 0] rfl
      rw [alloc_size, alloc_size] at h; exact h
    have hB := below_alloc (below_alloc (below_alloc (Below.refl w.heap.size w) (.cells #[.slice bA base.length bc, .int .i64 t, .slice oA ops.length oc, .slice uA us.length uc, .slice wA now.length wc] 40)) (.cells #[.int .i64 m.C, .int .i64 m.D, .int .i64 m.I, .int .i64 m.M, .int .i64 m.K, .int .i64 m.U, .string m.s] 55)) (.cells #[.slice none 0 0, .int .i64 0, .slice none 0 0, .slice none 0 0, .slice none 0 0] 40)
    have HL := Lib.hid hx
    have hx0 := hx.below hB
    have CF := pfind_any oA oc ops m (((w.alloc (.cells #[.slice bA base.length bc, .int .i64 t, .slice oA ops.length oc, .slice uA us.length uc, .slice wA now.length wc] 40)).alloc (.cells #[.int .i64 m.C, .int .i64 m.D, .int .i64 m.I, .int .i64 m.M, .int .i64 m.K, .int .i64 m.U, .string m.s] 55)).alloc (.cells #[.slice none 0 0, .int .i64 0, .slice none 0 0, .slice none 0 0, .slice none 0 0] 40)) hI' (by omega) hx0.o.1
    clear hx hx0
    go_enter Tryz.func25, Tryz.ntmps25
    go_wp2_with fail
    generalize ((w.alloc (.cells #[.slice bA base.length bc, .int .i64 t, .slice oA ops.length oc, .slice uA us.length uc, .slice wA now.length wc] 40)).alloc (.cells #[.int .i64 m.C, .int .i64 m.D, .int .i64 m.I, .int .i64 m.M, .int .i64 m.K, .int .i64 m.U, .string m.s] 55)).alloc (.cells #[.slice none 0 0, .int .i64 0, .slice none 0 0, .slice none 0 0, .slice none 0 0] 40) = W at *
    obtain ⟨n2, h2⟩ : ∃ n, w.heap.size + 2 = n := ⟨_, rfl⟩
    obtain ⟨n1, h1⟩ : ∃ n, w.heap.size + 1 = n := ⟨_, rfl⟩
    obtain ⟨n0, h0⟩ : ∃ n, w.heap.size = n := ⟨_, rfl⟩
    have HN := Lib.hid (show w.heap.size ≤ n0 ∧ n1 = n0 + 1 ∧ n2 = n0 + 2 by omega)
    have hn20 : n2 ≠ n0 := by omega
    try rw [show w.heap.size + 1 + 1 = n2 by omega]
    rw [h2] at hR
    rw [h1] at hO ⊢
    rw [h0] at hP ⊢
    try rw [h2]
    clear h0 h1 h2
    refine CF.mono ?_
    rintro e W1 ⟨rfl, hb⟩
    clear CF
    replace hP := hP.below hb
    replace hO := hO.below hb
    replace hR := hR.below hb
    replace hB := hB.trans (hb.mono (by have := hB.size; omega))
    clear hb
    obtain ⟨p0, p1, p2, p3, p4⟩ := pwIn5 hP
    obtain ⟨o0, o1, o2, o3, o4, o5, o6⟩ := opIn7 hO
    rw [h]
    have hx1 := HL.out.below hB
    have CS := psame_any (⟨bA, bc, base, t, oA, oc, ops, uA, uc, us, wA, wc, now⟩ : Pw) W1 hx1 (by simp only; omega) (by simp only; omega) (by simp only; rw [HU.out]; omega) (by simp only; omega)
    simp only at CS
    have HCS := Lib.hid CS
    clear CS
    go_wp2_with (first | (refine El.load pwRow rfl _ rfl n0 0 rfl (⟨bA, bc, base, t, oA, oc, ops, uA, uc, us, wA, wc, now⟩ : Pw) hP.at #[.slice bA base.length bc, .int .i64 t, .slice oA ops.length oc, .slice uA us.length uc, .slice wA now.length wc] rfl ?_) | (go_at_call 50; (with_reducible refine HCS.out.mono ?_); rintro e W2 ⟨y, rfl, hy, hyv, hyf, hb2⟩; have hR2 := hR.below hb2) | (refine El.store pwRow rfl _ _ rfl n2 y #[.slice y.bA y.base.length y.bc, .int .i64 y.t, .slice y.oA y.ops.length y.oc, .slice y.uA y.us.length y.uc, .slice y.wA y.now.length y.wc] rfl rfl rfl Pw.zero hR2 ?_))
    refine El.ret2 pwRow (v := .bool false) (hR2.set y #[.slice y.bA y.base.length y.bc, .int .i64 y.t, .slice y.oA y.ops.length y.oc, .slice y.uA y.us.length y.uc, .slice y.wA y.now.length y.wc] rfl) rfl rfl rfl rfl #[.slice y.bA y.base.length y.bc, .int .i64 y.t, .slice y.oA y.ops.length y.oc, .slice y.uA y.us.length y.uc, .slice y.wA y.now.length y.wc] rfl ?_
    have hw2 : w.heap.size ≤ n2 := by have := HN.out; omega
    have hB2 := hB.trans (hb2.mono (by have := hB.size; omega))
    have hl2 := hR.lt
    exact ⟨y, rfl, hy.keep hyf (by_row _ _ _) hl2, hyv, below_setRow hB2 hw2 _⟩
end Go.Proofs.YtdcjffajmckleaaGreatDoor

/- Add of the program: an operation put in. -/
namespace Go.Proofs.YtdcjffajmckleaaGreatDoor
open Go.RowKit Tre Cod Pst

/-- A past written cell by cell. -/
theorem pw_put {w : World} {b : Nat} {x : Pw} (h : pwE.In w b x) (y : Pw) :
    pwE.In (((((w.setCell ⟨b, 0, none⟩ (.slice y.bA y.base.length y.bc)).setCell ⟨b, 1, none⟩ (.int .i64 y.t)).setCell ⟨b, 2, none⟩ (.slice y.oA y.ops.length y.oc)).setCell ⟨b, 3, none⟩ (.slice y.uA y.us.length y.uc)).setCell ⟨b, 4, none⟩ (.slice y.wA y.now.length y.wc)) b y ∧
    w.grownBy (((((w.setCell ⟨b, 0, none⟩ (.slice y.bA y.base.length y.bc)).setCell ⟨b, 1, none⟩ (.int .i64 y.t)).setCell ⟨b, 2, none⟩ (.slice y.oA y.ops.length y.oc)).setCell ⟨b, 3, none⟩ (.slice y.uA y.us.length y.uc)).setCell ⟨b, 4, none⟩ (.slice y.wA y.now.length y.wc)) (some b) := by
  refine ⟨?_, by_cell2 (by_cell2 (by_cell2 (by_cell2 (by_cell w b 0 _) 1 _) 2 _) 3 _) 4 _⟩
  have h1 := h.put ⟨y.bA, y.bc, y.base, x.t, x.oA, x.oc, x.ops, x.uA, x.uc, x.us, x.wA, x.wc, x.now⟩ 0 (.slice y.bA y.base.length y.bc) rfl
  have h2 := h1.put ⟨y.bA, y.bc, y.base, y.t, x.oA, x.oc, x.ops, x.uA, x.uc, x.us, x.wA, x.wc, x.now⟩ 1 (.int .i64 y.t) rfl
  have h3 := h2.put ⟨y.bA, y.bc, y.base, y.t, y.oA, y.oc, y.ops, x.uA, x.uc, x.us, x.wA, x.wc, x.now⟩ 2 (.slice y.oA y.ops.length y.oc) rfl
  have h4 := h3.put ⟨y.bA, y.bc, y.base, y.t, y.oA, y.oc, y.ops, y.uA, y.uc, y.us, x.wA, x.wc, x.now⟩ 3 (.slice y.uA y.us.length y.uc) rfl
  exact h4.put y 4 (.slice y.wA y.now.length y.wc) rfl
def pick3 {α : Type} (a b c : α) (j : Nat) : α := match j with
  | 0 => a
  | 1 => b
  | _ => c


set_option maxRecDepth 100000 in
set_option maxHeartbeats 4000000 in
theorem pAdd_new (x : Pw) (m : Mv) (w : World) (hx : PastOk w x) (hI : PInv x.v) (hl : x.ops.length ≤ 200) (h : has Mv.C Mv.D x.ops m = false) (ht : ¬ m.C ≤ x.t) :
    Calls Tryz.prog 25 #[.agg #[.slice x.bA x.base.length x.bc, .int .i64 x.t, .slice x.oA x.ops.length x.oc, .slice x.uA x.us.length x.uc, .slice x.wA x.now.length x.wc], .agg #[.int .i64 m.C, .int .i64 m.D, .int .i64 m.I, .int .i64 m.M, .int .i64 m.K, .int .i64 m.U, .string m.s]] w fun e w' => ∃ y : Pw, e = .returned (.tuple #[.agg #[.slice y.bA y.base.length y.bc, .int .i64 y.t, .slice y.oA y.ops.length y.oc, .slice y.uA y.us.length y.uc, .slice y.wA y.now.length y.wc], .bool true]) ∧ PastOk w' y ∧ y.v = (addV x.v m).1 ∧ Below w.heap.size w w' := by
  have ha := addV_new' (q := x.v) ht h
  have hae := hI.add_eq m _ rfl
  have hl1 : x.base.length ≤ 62 := tree_len hI.tree
  have hl4 : x.now.length ≤ 62 := tree_len hI.ntree
  have hl3 : x.us.length = x.ops.length := hI.ulen
  have hI' : Ris Mv.C Mv.D x.ops := hI.ris
  have hbs : Sorted x.base := (treeB_facts hI.tree).2.1
  have hpl := pos_le (c := Mv.C) (d := Mv.D) x.ops m
  obtain ⟨bA, bc, base, t, oA, oc, ops, uA, uc, us, wA, wc, now⟩ := x
  simp only at hl h ht hl1 hl3 hl4 hI' hbs hpl
  simp only [Pw.v] at ha hae
  have HU := Lib.hid hl3
  have HA := Lib.hid ha
  have HE := Lib.hid hae
  clear ha hae hl3 hI
  have hP : pwE.In (((w.alloc (.cells #[.slice bA base.length bc, .int .i64 t, .slice oA ops.length oc, .slice uA us.length uc, .slice wA now.length wc] 40)).alloc (.cells #[.int .i64 m.C, .int .i64 m.D, .int .i64 m.I, .int .i64 m.M, .int .i64 m.K, .int .i64 m.U, .string m.s] 55)).alloc (.cells #[.slice none 0 0, .int .i64 0, .slice none 0 0, .slice none 0 0, .slice none 0 0] 40)) w.heap.size (⟨bA, bc, base, t, oA, oc, ops, uA, uc, us, wA, wc, now⟩ : Pw) := ((El.In.new (E := pwE) w (⟨bA, bc, base, t, oA, oc, ops, uA, uc, us, wA, wc, now⟩ : Pw) _ rfl).alloc _).alloc _
  have hO : opE.In (((w.alloc (.cells #[.slice bA base.length bc, .int .i64 t, .slice oA ops.length oc, .slice uA us.length uc, .slice wA now.length wc] 40)).alloc (.cells #[.int .i64 m.C, .int .i64 m.D, .int .i64 m.I, .int .i64 m.M, .int .i64 m.K, .int .i64 m.U, .string m.s] 55)).alloc (.cells #[.slice none 0 0, .int .i64 0, .slice none 0 0, .slice none 0 0, .slice none 0 0] 40)) (w.heap.size + 1) m := by
    have h := (El.In.new (E := opE) (w.alloc (.cells #[.slice bA base.length bc, .int .i64 t, .slice oA ops.length oc, .slice uA us.length uc, .slice wA now.length wc] 40)) m #[.int .i64 m.C, .int .i64 m.D, .int .i64 m.I, .int .i64 m.M, .int .i64 m.K, .int .i64 m.U, .string m.s] rfl).alloc (.cells #[.slice none 0 0, .int .i64 0, .slice none 0 0, .slice none 0 0, .slice none 0 0] 40)
    rw [alloc_size] at h; exact h
  have hR : pwE.In (((w.alloc (.cells #[.slice bA base.length bc, .int .i64 t, .slice oA ops.length oc, .slice uA us.length uc, .slice wA now.length wc] 40)).alloc (.cells #[.int .i64 m.C, .int .i64 m.D, .int .i64 m.I, .int .i64 m.M, .int .i64 m.K, .int .i64 m.U, .string m.s] 55)).alloc (.cells #[.slice none 0 0, .int .i64 0, .slice none 0 0, .slice none 0 0, .slice none 0 0] 40)) (w.heap.size + 2) Pw.zero := by
    have h := El.In.new (E := pwE) ((w.alloc (.cells #[.slice bA base.length bc, .int .i64 t, .slice oA ops.length oc, .slice uA us.length uc, .slice wA now.length wc] 40)).alloc (.cells #[.int .i64 m.C, .int .i64 m.D, .int .i64 m.I, .int .i64 m.M, .int .i64 m.K, .int .i64 m.U, .string m.s] 55)) Pw.zero #[.slice none 0 0, .int .i64 0, .slice none 0 0, .slice none 0 0, .slice none 0 0] rfl
    rw [alloc_size, alloc_size] at h; exact h
  have hB := below_alloc (below_alloc (below_alloc (Below.refl w.heap.size w) (.cells #[.slice bA base.length bc, .int .i64 t, .slice oA ops.length oc, .slice uA us.length uc, .slice wA now.length wc] 40)) (.cells #[.int .i64 m.C, .int .i64 m.D, .int .i64 m.I, .int .i64 m.M, .int .i64 m.K, .int .i64 m.U, .string m.s] 55)) (.cells #[.slice none 0 0, .int .i64 0, .slice none 0 0, .slice none 0 0, .slice none 0 0] 40)
  have HL := Lib.hid hx
  have hx0 := hx.below hB
  have CF := pfind_any oA oc ops m (((w.alloc (.cells #[.slice bA base.length bc, .int .i64 t, .slice oA ops.length oc, .slice uA us.length uc, .slice wA now.length wc] 40)).alloc (.cells #[.int .i64 m.C, .int .i64 m.D, .int .i64 m.I, .int .i64 m.M, .int .i64 m.K, .int .i64 m.U, .string m.s] 55)).alloc (.cells #[.slice none 0 0, .int .i64 0, .slice none 0 0, .slice none 0 0, .slice none 0 0] 40)) hI' (by omega) hx0.o.1
  clear hx hx0
  go_enter Tryz.func25, Tryz.ntmps25
  go_wp2_with fail
  generalize ((w.alloc (.cells #[.slice bA base.length bc, .int .i64 t, .slice oA ops.length oc, .slice uA us.length uc, .slice wA now.length wc] 40)).alloc (.cells #[.int .i64 m.C, .int .i64 m.D, .int .i64 m.I, .int .i64 m.M, .int .i64 m.K, .int .i64 m.U, .string m.s] 55)).alloc (.cells #[.slice none 0 0, .int .i64 0, .slice none 0 0, .slice none 0 0, .slice none 0 0] 40) = W at *
  obtain ⟨n2, h2⟩ : ∃ n, w.heap.size + 2 = n := ⟨_, rfl⟩
  obtain ⟨n1, h1⟩ : ∃ n, w.heap.size + 1 = n := ⟨_, rfl⟩
  obtain ⟨n0, h0⟩ : ∃ n, w.heap.size = n := ⟨_, rfl⟩
  have HN := Lib.hid (show w.heap.size ≤ n0 ∧ n1 = n0 + 1 ∧ n2 = n0 + 2 by omega)
  have hn20 : n2 ≠ n0 := by omega
  try rw [show w.heap.size + 1 + 1 = n2 by omega]
  rw [h2] at hR
  rw [h1] at hO ⊢
  rw [h0] at hP ⊢
  try rw [h2]
  clear h0 h1 h2
  refine CF.mono ?_
  rintro e W1 ⟨rfl, hb⟩
  clear CF
  replace hP := hP.below hb
  replace hO := hO.below hb
  replace hR := hR.below hb
  replace hB := hB.trans (hb.mono (by have := hB.size; omega))
  clear hb
  obtain ⟨p0, p1, p2, p3, p4⟩ := pwIn5 hP
  obtain ⟨o0, o1, o2, o3, o4, o5, o6⟩ := opIn7 hO
  rw [h]
  obtain ⟨k, hk⟩ : ∃ k, pos Mv.C Mv.D ops m = k := ⟨_, rfl⟩
  rw [hk] at hpl ⊢
  have HK := Lib.hid hk
  clear hk h
  have hE := even_any (⟨bA, bc, base, t, oA, oc, ops, uA, uc, us, wA, wc, now⟩ : Pw) W1 HU.out
  simp only at hE
  have HEV := Lib.hid hE
  clear hE
  go_wp2_with (first | (go_at_call 49; (with_reducible refine HEV.out.mono ?_); rintro e W2 ⟨rfl, hb2⟩))
  clear HEV p0 p1 p2 p3 p4 o0 o1 o2 o3 o4 o5 o6
  replace hP : pwE.In W2 n0 (⟨bA, bc, base, t, oA, oc, ops, uA, uc, us, wA, wc, now⟩ : Pw) := hP.below hb2
  replace hO : opE.In W2 n1 m := hO.below hb2
  replace hR : pwE.In W2 n2 Pw.zero := hR.below hb2
  replace hB : Below w.heap.size w W2 := hB.trans (hb2.mono (by have := hB.size; omega))
  clear hb2
  -- region 4: the operations, one more among them
  have hx2 := HL.out.below hB
  have hxo := hx2.o
  simp only at hxo
  obtain ⟨A3, hA3⟩ : ∃ A3 : Option Addr, (if oc = k then oA else Option.map (fun x => x.add (k * 7)) oA) = A3 := ⟨_, rfl⟩
  have ht1 := hxo.1.take k
  have ht3 := hxo.1.drop (tz := k) hxo.2.2 hA3
  have hz3 : A3 = none → oc - k = 0 := El.drop_none hxo.2.1 hA3
  have e1 : (ops.take k).length = k := by rw [List.length_take]; omega
  have e3 : (ops.drop k).length = ops.length - k := List.length_drop
  have hkc : k ≤ oc := Nat.le_trans hpl hxo.2.2
  have i0 : (0 : Int) ≤ (k : Int) := by omega
  have i1 : (k : Int) ≤ (oc : Int) := by omega
  have i2 : (k : Int) ≤ (ops.length : Int) := by omega
  have hae := HE.out
  rw [HK.out] at hae
  have HE1 := Lib.hid e1
  have HE3 := Lib.hid e3
  generalize hL1 : ops.take k = L1 at *
  generalize hL3 : ops.drop k = L3 at *
  obtain ⟨u1, u2, u3, u4, u5, u6⟩ := hae
  have hb1s : Sorted (foldL base (mvs L1)).1 := foldL_sorted hbs _
  have hb1l : (foldL base (mvs L1)).1.length ≤ 262 := by have := foldL_len1 base (mvs L1); rw [mvs_len, HE1.out] at this; omega
  generalize (foldL base (mvs L1)).1 = b1 at *
  have hul : (us.take k).length = k := by rw [List.length_take, HU.out]; omega
  have hul3 : (us.drop k).length = us.length - k := List.length_drop
  obtain ⟨L, hL⟩ : ∃ L, insL Mv.C Mv.D ops m = L := ⟨_, rfl⟩
  have hLL : L = L1 ++ ([m] ++ L3) := by rw [← hL, u6]
  have hLl : L.length = ops.length + 1 := by rw [hLL, List.length_append, List.length_append, HE1.out, HE3.out]; simp only [List.length_singleton]; omega
  have hLd : L.drop k = [m] ++ L3 := by rw [hLL, ← HE1.out]; exact List.drop_left
  have hna := HA.out
  rw [hL] at hna u4 u5
  rw [u4, u5] at hna
  have HNA := Lib.hid hna
  have HLL := Lib.hid hLL
  have HLl := Lib.hid hLl
  have HLd := Lib.hid hLd
  have HU2 := Lib.hid u2
  have HU3 := Lib.hid u3
  have HUL := Lib.hid hul
  have HUL3 := Lib.hid hul3
  have HL3 := Lib.hid hL3
  have hUS3 : ∃ us3, us.drop k = us3 := ⟨_, rfl⟩
  clear u1 u2 u3 u4 u5 u6 hul hul3 hLL hLl hLd hna hL e1 e3 hL1 hL3 HE HA
  obtain ⟨us1, hUS1⟩ : ∃ us1, us.take k = us1 := ⟨_, rfl⟩
  rw [hUS1] at HNA HUL
  have HUS1 := Lib.hid hUS1
  clear hUS1
  have hl2 : n2 < W2.heap.size := hR.lt
  obtain ⟨us3, hUS3⟩ := hUS3
  rw [hUS3] at HU2 HUL3
  have HUS3 := Lib.hid hUS3
  clear hUS3
  -- the world in which the lists are put together
  have hBw : Below W2.heap.size W2 ((W2.alloc (.cells #[.int .i64 m.C, .int .i64 m.D, .int .i64 m.I, .int .i64 m.M, .int .i64 m.K, .int .i64 m.U, .string m.s] 55)).alloc (.cells #[.slice oA k oc, .slice (some ⟨W2.heap.size, 0, none⟩) 1 1, .slice A3 (ops.length - k) (oc - k)] 31)).drew := (below_alloc (below_alloc (Below.refl _ _) _) _).drew
  have hone : opE.Sl ((W2.alloc (.cells #[.int .i64 m.C, .int .i64 m.D, .int .i64 m.I, .int .i64 m.M, .int .i64 m.K, .int .i64 m.U, .string m.s] 55)).alloc (.cells #[.slice oA k oc, .slice (some ⟨W2.heap.size, 0, none⟩) 1 1, .slice A3 (ops.length - k) (oc - k)] 31)).drew (some ⟨W2.heap.size, 0, none⟩) [m] := ((El.In.new (E := opE) W2 m #[.int .i64 m.C, .int .i64 m.D, .int .i64 m.I, .int .i64 m.M, .int .i64 m.K, .int .i64 m.U, .string m.s] rfl).alloc _).sl
  have CC := concatOp_any (W2.heap.size + 1) (pick3 L1 [m] L3) (pick3 oA (some ⟨W2.heap.size, 0, none⟩) A3) (pick3 oc 1 (oc - k)) ((W2.alloc (.cells #[.int .i64 m.C, .int .i64 m.D, .int .i64 m.I, .int .i64 m.M, .int .i64 m.K, .int .i64 m.U, .string m.s] 55)).alloc (.cells #[.slice oA k oc, .slice (some ⟨W2.heap.size, 0, none⟩) 1 1, .slice A3 (ops.length - k) (oc - k)] 31)).drew
    (fun j hj => by
      match j, hj with
      | 0, _ => show _ = some (Value.slice oA L1.length oc); rw [HE1.out]; go_simp
      | 1, _ => show _ = some (Value.slice (some ⟨W2.heap.size, 0, none⟩) 1 1); go_simp
      | 2, _ => show _ = some (Value.slice A3 L3.length (oc - k)); rw [HE3.out]; go_simp)
    (fun j hj => by
      match j, hj with
      | 0, _ => exact ht1.below hBw
      | 1, _ => exact hone
      | 2, _ => exact ht3.below hBw)
    (fun j hj => by
      match j, hj with
      | 0, _ => exact hxo.2.1
      | 1, _ => intro e; cases e
      | 2, _ => exact hz3)
    (by show ((([] ++ L1) ++ [m]) ++ L3).length ≤ 1000; simp only [List.length_append, List.length_nil, List.length_singleton, HE1.out, HE3.out]; omega)
    (by simp)
  have ecat : catE (pick3 L1 [m] L3) 3 = L := by
    show (([] ++ L1) ++ [m]) ++ L3 = L
    rw [HLL.out, List.nil_append, List.append_assoc]
  rw [ecat] at CC
  have HCC := Lib.hid CC
  clear CC ecat hone
  have hPa : pwE.In (W2.alloc (.cells #[.int .i64 m.C, .int .i64 m.D, .int .i64 m.I, .int .i64 m.M, .int .i64 m.K, .int .i64 m.U, .string m.s] 55)).drew n0 (⟨bA, bc, base, t, oA, oc, ops, uA, uc, us, wA, wc, now⟩ : Pw) := hP.alloc (.cells #[.int .i64 m.C, .int .i64 m.D, .int .i64 m.I, .int .i64 m.M, .int .i64 m.K, .int .i64 m.U, .string m.s] 55)
  have hOa : opE.In (W2.alloc (.cells #[.int .i64 m.C, .int .i64 m.D, .int .i64 m.I, .int .i64 m.M, .int .i64 m.K, .int .i64 m.U, .string m.s] 55)).drew n1 m := hO.alloc (.cells #[.int .i64 m.C, .int .i64 m.D, .int .i64 m.I, .int .i64 m.M, .int .i64 m.K, .int .i64 m.U, .string m.s] 55)
  have hPb : pwE.In ((W2.alloc (.cells #[.int .i64 m.C, .int .i64 m.D, .int .i64 m.I, .int .i64 m.M, .int .i64 m.K, .int .i64 m.U, .string m.s] 55)).alloc (.cells #[.slice oA k oc, .slice (some ⟨W2.heap.size, 0, none⟩) 1 1, .slice A3 (ops.length - k) (oc - k)] 31)).drew n0 (⟨bA, bc, base, t, oA, oc, ops, uA, uc, us, wA, wc, now⟩ : Pw) := (hP.alloc (.cells #[.int .i64 m.C, .int .i64 m.D, .int .i64 m.I, .int .i64 m.M, .int .i64 m.K, .int .i64 m.U, .string m.s] 55)).alloc (.cells #[.slice oA k oc, .slice (some ⟨W2.heap.size, 0, none⟩) 1 1, .slice A3 (ops.length - k) (oc - k)] 31)
  have hOb : opE.In ((W2.alloc (.cells #[.int .i64 m.C, .int .i64 m.D, .int .i64 m.I, .int .i64 m.M, .int .i64 m.K, .int .i64 m.U, .string m.s] 55)).alloc (.cells #[.slice oA k oc, .slice (some ⟨W2.heap.size, 0, none⟩) 1 1, .slice A3 (ops.length - k) (oc - k)] 31)).drew n1 m := (hO.alloc (.cells #[.int .i64 m.C, .int .i64 m.D, .int .i64 m.I, .int .i64 m.M, .int .i64 m.K, .int .i64 m.U, .string m.s] 55)).alloc (.cells #[.slice oA k oc, .slice (some ⟨W2.heap.size, 0, none⟩) 1 1, .slice A3 (ops.length - k) (oc - k)] 31)
  have hP0 := hP
  have hO0 := hO
  replace hP : pwE.In W2.drew n0 (⟨bA, bc, base, t, oA, oc, ops, uA, uc, us, wA, wc, now⟩ : Pw) := hP
  replace hO : opE.In W2.drew n1 m := hO
  go_region_held3 (fun w' => w'.cell? ⟨n0, 2, none⟩ = some (.slice oA ops.length oc) ∧ (w'.cell? ⟨n1, 0, none⟩ = some (.int .i64 m.C) ∧ w'.cell? ⟨n1, 1, none⟩ = some (.int .i64 m.D) ∧ w'.cell? ⟨n1, 2, none⟩ = some (.int .i64 m.I) ∧ w'.cell? ⟨n1, 3, none⟩ = some (.int .i64 m.M) ∧ w'.cell? ⟨n1, 4, none⟩ = some (.int .i64 m.K) ∧ w'.cell? ⟨n1, 5, none⟩ = some (.int .i64 m.U) ∧ w'.cell? ⟨n1, 6, none⟩ = some (.string m.s))) (with_reducible first | exact ⟨(pwIn5 hP).2.2.1, opIn7 hO⟩ | exact ⟨(pwIn5 hPa).2.2.1, opIn7 hOa⟩ | exact ⟨(pwIn5 hPb).2.2.1, opIn7 hOb⟩ | exact ⟨(pwIn5 hP4).2.2.1, opIn7 hO4⟩) (first | (go_at_call 51; (with_reducible refine HCC.out.mono ?_); rintro e W4 ⟨A8, c8, rfl, hS8, hf8, hb8⟩; have hb48 := hBw.trans (hb8.mono hBw.size); have hP4 := hP0.below hb48; have hO4 := hO0.below hb48))
  replace hR := hR.below hb48
  replace hB := hB.trans (hb48.mono hB.size)
  replace hP := hP4
  have hf80 : Frs W2.heap.size A8 := hf8.mono (by have := hBw.size; exact this)
  clear hP0 hO0 hPa hOa hPb hOb hO4 hO hP4 HCC hBw ht1 ht3 hb8 hxo hx2
  go_wp2_with fail
  -- region 5: undone, and done again
  have hx4 := HL.out.below hB
  have hxo := hx4.o
  have hxu := hx4.u
  have hxw := hx4.w
  simp only at hxo hxu hxw
  obtain ⟨U3, hU3⟩ : ∃ U3 : Option Addr, (if uc = k then uA else Option.map (fun x => x.add (k * 5)) uA) = U3 := ⟨_, rfl⟩
  obtain ⟨A9, hA9⟩ : ∃ A9 : Option Addr, (if c8 = k then A8 else Option.map (fun x => x.add (k * 7)) A8) = A9 := ⟨_, rfl⟩
  have ht3 := hxo.1.drop (tz := k) hxo.2.2 hA3
  have htu := hxu.1.drop (tz := k) hxu.2.2 hU3
  have ht9 := hS8.1.drop (tz := k) hS8.2.2 hA9
  rw [HL3.out] at ht3
  rw [HUS3.out] at htu
  have e9 : (L.drop k).length = L.length - k := List.length_drop
  rw [HLd.out] at ht9 e9
  have hld9 : ([m] ++ L3).length = 1 + L3.length := by rw [List.length_append, List.length_singleton]
  have hld8 : b1.length + ([m] ++ L3).length ≤ 900 := by rw [hld9, HE3.out]; omega
  generalize hLD : [m] ++ L3 = LD at *
  have j1 : (k : Int) ≤ (c8 : Int) := by have := hS8.2.2; have := HLl.out; omega
  have j2 : (k : Int) ≤ (L.length : Int) := by have := HLl.out; omega
  have j3 : (k : Int) ≤ (us.length : Int) := by have := HU.out; omega
  have j4 : (k : Int) ≤ (uc : Int) := by have := hxu.2.2; omega
  have CU := undone_any wA wc b1 now A3 (oc - k) L3 U3 (uc - k) us3 W4.drew (by have := HE3.out; omega) hb1s HU3.out HU2.out hxw ht3 htu
  rw [HE3.out, HUL3.out] at CU
  have CG : ∀ (A5 : Option Addr) (c5 : Nat) (W5 : World), SlV plE W5 A5 c5 b1 → opE.Sl W5 A9 LD → _ := fun A5 c5 W5 h1 h2 => mvFold_any A5 c5 b1 A9 (c8 - k) LD W5 hld8 hb1s h1 h2
  rw [e9] at CG
  have HCU := Lib.hid CU
  have HCG := Lib.hid CG
  have HLB := Lib.hid (show (foldL b1 (mvs LD)).2.length = LD.length ∧ LD.length ≤ 500 by rw [foldL_len, mvs_len, hld9, HE3.out]; omega)
  generalize (foldL b1 (mvs LD)).1 = now2 at *
  generalize (foldL b1 (mvs LD)).2 = us2 at *
  have HE9 := Lib.hid e9
  clear CU CG e9 hld9 hld8 hxo hxu hxw hx4 ht3 htu hLD
  have hP0 := hP
  have hR0 := hR
  have hS80 := hS8
  replace hP : pwE.In W4.drew n0 (⟨bA, bc, base, t, oA, oc, ops, uA, uc, us, wA, wc, now⟩ : Pw) := hP
  replace hR : pwE.In W4.drew n2 Pw.zero := hR
  replace hS8 : SlV opE W4.drew A8 c8 L := hS8
  replace ht9 : opE.Sl W4.drew A9 LD := ht9
  have hd4 : Below W4.heap.size W4 W4.drew := (Below.refl _ _).drew
  go_region_held3 (fun w' => w'.cell? ⟨n0, 4, none⟩ = some (.slice wA now.length wc) ∧ w'.cell? ⟨n0, 2, none⟩ = some (.slice oA ops.length oc) ∧ w'.cell? ⟨n0, 3, none⟩ = some (.slice uA us.length uc)) (with_reducible first | exact ⟨(pwIn5 hP).2.2.2.2, (pwIn5 hP).2.2.1, (pwIn5 hP).2.2.2.1⟩ | exact ⟨(pwIn5 hP6).2.2.2.2, (pwIn5 hP6).2.2.1, (pwIn5 hP6).2.2.2.1⟩ | exact ⟨(pwIn5 hP5).2.2.2.2, (pwIn5 hP5).2.2.1, (pwIn5 hP5).2.2.2.1⟩) (first | (go_at_call 53; (with_reducible refine HCU.out.mono ?_); rintro e W5 ⟨A5, c5, rfl, hS5, hb5⟩; have hP5 := hP.below hb5; have ht5 := ht9.below hb5) | (go_at_call 52; (with_reducible refine (HCG.out _ _ _ hS5 ht5).mono ?_); rintro e W6 ⟨A6, c6, U6, uc6, rfl, hS6, hU6, hf6, hfu6, hb6⟩; have hb46 := hd4.trans ((below_then hb5 hb6).mono hd4.size); have hP6 := hP0.below hb46))
  have hB6 := hB.trans (hb46.mono hB.size)
  have hP6' := hP6
  have hR6 : pwE.In W6 n2 Pw.zero := hR0.below hb46
  have hS86 := hS80.below hb46
  have hl25 : n2 < W5.heap.size := by have := hR.lt; have := hb5.size; omega
  have hx6 := HL.out.below hB6
  have hxb := hx6.b
  have hxu := hx6.u
  simp only at hxb hxu
  have htu := hxu.1.take k
  rw [HUS1.out] at htu
  have hl82 := hl2
  have hsz86 : W2.heap.size ≤ W6.heap.size := by have := hb48.size; have := hb46.size; omega
  obtain ⟨US, hUS⟩ : ∃ US, us1 ++ us2 = US := ⟨_, rfl⟩
  rw [hUS] at HNA
  have hus2 : us2.length ≤ 500 := by
    have := HLB.out
    omega
  have C1 := fun (wx : World) (h : SlV plE wx bA bc base) => clonePl_any bA bc base wx (by omega) h
  have C2 : ∀ (sb : Nat) (wx : World), wx.cell? ⟨sb, 0, none⟩ = some (.slice uA k uc) → wx.cell? ⟨sb, 1, none⟩ = some (.slice U6 us2.length uc6) → Below W6.heap.size W6 wx → sb < wx.heap.size →
      Calls Tryz.prog 55 #[.slice (some ⟨sb, 0, none⟩) 2 2] wx fun e w' => ∃ A' cap', e = .returned (.slice A' US.length cap') ∧ SlV unE w' A' cap' US ∧ Frs wx.heap.size A' ∧ Below wx.heap.size wx w' := fun sb wx q0 q1 hb hsb => by
    have h := concatUn_any sb (pick3 us1 us2 us2) (pick3 uA U6 U6) (pick3 uc uc6 uc6) wx
      (fun j hj => by
        match j, hj with
        | 0, _ => show _ = some (Value.slice uA us1.length uc); rw [HUL.out]; exact q0
        | 1, _ => exact q1)
      (fun j hj => by
        match j, hj with
        | 0, _ => exact htu.below hb
        | 1, _ => exact hU6.1.below hb)
      (fun j hj => by
        match j, hj with
        | 0, _ => exact hxu.2.1
        | 1, _ => exact hU6.2.1)
      (by show (([] ++ us1) ++ us2).length ≤ 1000; simp only [List.length_append, List.length_nil, HUL.out]; omega) hsb
    have e : catE (pick3 us1 us2 us2) 2 = US := by
      show ([] ++ us1) ++ us2 = US
      rw [List.nil_append]; exact hUS
    rw [e] at h
    exact h
  have HC1 := Lib.hid C1
  have HC2 := Lib.hid C2
  clear C1 C2 hus2 hUS
  have k0 : (k : Int) ≤ (uc : Int) := j4
  have hd6 : Below W6.heap.size W6 W6.drew := (Below.refl _ _).drew
  have hd6a : Below W6.heap.size W6 (W6.alloc (.cells #[.slice uA k uc, .slice U6 us2.length uc6] 38)).drew := (below_alloc (Below.refl _ _) _).drew
  have hxb0 : SlV plE W6.drew bA bc base := hxb
  have hxba := hxb.below hd6a
  have hP0 := hP6'
  have hPd : pwE.In W6.drew n0 (⟨bA, bc, base, t, oA, oc, ops, uA, uc, us, wA, wc, now⟩ : Pw) := hP6'
  have hPa : pwE.In (W6.alloc (.cells #[.slice uA k uc, .slice U6 us2.length uc6] 38)).drew n0 (⟨bA, bc, base, t, oA, oc, ops, uA, uc, us, wA, wc, now⟩ : Pw) := hP6'.below hd6a
  have hn02 : some n0 ≠ some n2 := fun e => hn20 (Option.some.inj e).symm
  clear hP hR hP6 hP5 hS8 ht9 ht5 hb5 hb6 hd4 hxb hxu hx6 hP6' HCU HCG
  go_wp2_with fail
  go_region_held3 (fun w' => w'.cell? ⟨n0, 0, none⟩ = some (.slice bA base.length bc) ∧ w'.cell? ⟨n0, 1, none⟩ = some (.int .i64 t) ∧ w'.cell? ⟨n0, 3, none⟩ = some (.slice uA us.length uc)) (with_reducible first | exact ⟨(pwIn5 hPd).1, (pwIn5 hPd).2.1, (pwIn5 hPd).2.2.2.1⟩ | exact ⟨(pwIn5 hPa).1, (pwIn5 hPa).2.1, (pwIn5 hPa).2.2.2.1⟩ | exact ⟨(pwIn5 hP7).1, (pwIn5 hP7).2.1, (pwIn5 hP7).2.2.2.1⟩ | exact ⟨(pwIn5 hP7a).1, (pwIn5 hP7a).2.1, (pwIn5 hP7a).2.2.2.1⟩ | exact ⟨(pwIn5 hP8).1, (pwIn5 hP8).2.1, (pwIn5 hP8).2.2.2.1⟩ | exact ⟨(pwIn5 (hP8.keep (pw_put hR8 ⟨A7, c7, base, t, A8, c8, L, A10, c10, US, A6, c6, now2⟩).2 hn02)).1, (pwIn5 (hP8.keep (pw_put hR8 ⟨A7, c7, base, t, A8, c8, L, A10, c10, US, A6, c6, now2⟩).2 hn02)).2.1, (pwIn5 (hP8.keep (pw_put hR8 ⟨A7, c7, base, t, A8, c8, L, A10, c10, US, A6, c6, now2⟩).2 hn02)).2.2.2.1⟩) (first | (go_at_call 54; (with_reducible first | refine (HC1.out _ hxb0).mono ?_ | refine (HC1.out _ hxba).mono ?_); rintro e w7 ⟨A7, c7, rfl, hS7, hf7, hb7⟩; have hb67 : Below W6.heap.size W6 w7 := (by first | exact hd6.trans (hb7.mono hd6.size) | exact hd6a.trans (hb7.mono hd6a.size)); have hf7' : Frs W6.heap.size A7 := hf7.mono (by first | exact hd6.size | exact hd6a.size); have hP7 := hP0.below hb67; have hP7a := hP7.alloc (.cells #[.slice uA k uc, .slice U6 us2.length uc6] 38)) | (go_at_call 55; first | (have z0 : (w7.alloc (.cells #[.slice uA k uc, .slice U6 us2.length uc6] 38)).cell? ⟨w7.heap.size, 0, none⟩ = some (.slice uA k uc) := (by go_simp); have z1 : (w7.alloc (.cells #[.slice uA k uc, .slice U6 us2.length uc6] 38)).cell? ⟨w7.heap.size, 1, none⟩ = some (.slice U6 us2.length uc6) := (by go_simp); with_reducible refine (HC2.out _ _ z0 z1 (hb67.alloc hb67.size (.cells #[.slice uA k uc, .slice U6 us2.length uc6] 38)) (by rw [alloc_size]; exact Nat.lt_succ_self _)).mono ?_) | (have z0 : w7.cell? ⟨W6.heap.size, 0, none⟩ = some (.slice uA k uc) := (by rw [(bcell hb7).1 _ _ (by simp)]; go_simp); have z1 : w7.cell? ⟨W6.heap.size, 1, none⟩ = some (.slice U6 us2.length uc6) := (by rw [(bcell hb7).1 _ _ (by simp)]; go_simp); with_reducible refine (HC2.out _ _ z0 z1 hb67 (by have := hb7.size; simp at this; omega)).mono ?_)); rintro e w8 ⟨A10, c10, rfl, hS10, hf10, hb8⟩; have hb78 : Below w7.heap.size w7 w8 := (by first | exact hb8 | exact (below_alloc (Below.refl w7.heap.size w7) (.cells #[.slice uA k uc, .slice U6 us2.length uc6] 38)).trans (hb8.mono (by simp))); have hf10' : Frs w7.heap.size A10 := hf10.mono (by first | exact Nat.le_refl _ | simp); have hb68 := hb67.trans (hb78.mono hb67.size); have hP8 := hP0.below hb68; have hR8 := hR6.below hb68; obtain ⟨r0, r1, r2, r3, r4⟩ := pwIn5 hR8; have rf := hR8.frozen)
  all_goals
    have hz := pw_put hR8 ⟨A7, c7, base, t, A8, c8, L, A10, c10, US, A6, c6, now2⟩
    go_wp2
    refine El.ret2 pwRow (v := .bool true) hz.1 rfl rfl rfl rfl #[.slice A7 base.length c7, .int .i64 t, .slice A8 L.length c8, .slice A10 US.length c10, .slice A6 now2.length c6] rfl ?_
    have h6 := hR6.lt
    have h7 := hb67.size
    have hB8 := hB6.trans (hb68.mono hB6.size)
    exact ⟨⟨A7, c7, base, t, A8, c8, L, A10, c10, US, A6, c6, now2⟩, rfl, ⟨(hS7.below hb78).keep hf7' hz.2 h6, (hS86.below hb68).keep hf80 hz.2 hl82, hS10.keep hf10' hz.2 (by omega), (hS6.below hb68).keep hf6 hz.2 hl25⟩, by show _ = (addV ⟨base, t, ops, us, now⟩ m).1; rw [HNA.out]; rfl, hB8.grown hz.2 hB8.size (fun j e => by have := Option.some.inj e; have := HN.out; omega)⟩
end Go.Proofs.YtdcjffajmckleaaGreatDoor

/- Settle of the program. -/
namespace Go.Proofs.YtdcjffajmckleaaGreatDoor
open Go.RowKit Tre Cod Pst

set_option maxRecDepth 100000 in
set_option maxHeartbeats 4000000 in
theorem pSettle_late (x : Pw) (s : Int) (w : World) (hx : PastOk w x) (hI : PInv x.v) (hl : x.ops.length ≤ 200) (h : s ≤ x.t) :
    Calls Tryz.prog 63 #[.agg #[.slice x.bA x.base.length x.bc, .int .i64 x.t, .slice x.oA x.ops.length x.oc, .slice x.uA x.us.length x.uc, .slice x.wA x.now.length x.wc], .int .i64 s] w fun e w' => ∃ y : Pw, e = .returned (.agg #[.slice y.bA y.base.length y.bc, .int .i64 y.t, .slice y.oA y.ops.length y.oc, .slice y.uA y.us.length y.uc, .slice y.wA y.now.length y.wc]) ∧ PastOk w' y ∧ y.v = settleV x.v s ∧ Below w.heap.size w w' := by
  have ha : settleV x.v s = x.v := settleV_late' h
  have hl1 : x.base.length ≤ 62 := tree_len hI.tree
  have hl4 : x.now.length ≤ 62 := tree_len hI.ntree
  have hl3 : x.us.length = x.ops.length := hI.ulen
  rw [ha]
  obtain ⟨bA, bc, base, t, oA, oc, ops, uA, uc, us, wA, wc, now⟩ := x
  simp only at hl h hl1 hl3 hl4
  have HU := Lib.hid hl3
  clear ha hl3 hI
  have hP : pwE.In (((w.alloc (.cells #[.slice bA base.length bc, .int .i64 t, .slice oA ops.length oc, .slice uA us.length uc, .slice wA now.length wc] 40)).alloc (.cells #[.int .i64 s] 3)).alloc (.cells #[.slice none 0 0, .int .i64 0, .slice none 0 0, .slice none 0 0, .slice none 0 0] 40)) w.heap.size (⟨bA, bc, base, t, oA, oc, ops, uA, uc, us, wA, wc, now⟩ : Pw) := ((El.In.new (E := pwE) w (⟨bA, bc, base, t, oA, oc, ops, uA, uc, us, wA, wc, now⟩ : Pw) _ rfl).alloc _).alloc _
  have hO : (((w.alloc (.cells #[.slice bA base.length bc, .int .i64 t, .slice oA ops.length oc, .slice uA us.length uc, .slice wA now.length wc] 40)).alloc (.cells #[.int .i64 s] 3)).alloc (.cells #[.slice none 0 0, .int .i64 0, .slice none 0 0, .slice none 0 0, .slice none 0 0] 40)).cell? ⟨w.heap.size + 1, 0, none⟩ = some (.int .i64 s) := by go_simp
  have hR : pwE.In (((w.alloc (.cells #[.slice bA base.length bc, .int .i64 t, .slice oA ops.length oc, .slice uA us.length uc, .slice wA now.length wc] 40)).alloc (.cells #[.int .i64 s] 3)).alloc (.cells #[.slice none 0 0, .int .i64 0, .slice none 0 0, .slice none 0 0, .slice none 0 0] 40)) (w.heap.size + 2) Pw.zero := by
    have h := El.In.new (E := pwE) ((w.alloc (.cells #[.slice bA base.length bc, .int .i64 t, .slice oA ops.length oc, .slice uA us.length uc, .slice wA now.length wc] 40)).alloc (.cells #[.int .i64 s] 3)) Pw.zero #[.slice none 0 0, .int .i64 0, .slice none 0 0, .slice none 0 0, .slice none 0 0] rfl
    rw [alloc_size, alloc_size] at h; exact h
  have hB := below_alloc (below_alloc (below_alloc (Below.refl w.heap.size w) (.cells #[.slice bA base.length bc, .int .i64 t, .slice oA ops.length oc, .slice uA us.length uc, .slice wA now.length wc] 40)) (.cells #[.int .i64 s] 3)) (.cells #[.slice none 0 0, .int .i64 0, .slice none 0 0, .slice none 0 0, .slice none 0 0] 40)
  have hsz : (((w.alloc (.cells #[.slice bA base.length bc, .int .i64 t, .slice oA ops.length oc, .slice uA us.length uc, .slice wA now.length wc] 40)).alloc (.cells #[.int .i64 s] 3)).alloc (.cells #[.slice none 0 0, .int .i64 0, .slice none 0 0, .slice none 0 0, .slice none 0 0] 40)).heap.size = w.heap.size + 3 := by rw [alloc_size, alloc_size, alloc_size]
  have HL := Lib.hid hx
  clear hx
  go_enter Tryz.func63, Tryz.ntmps63
  go_wp2_with (first | (refine El.load pwRow rfl _ rfl w.heap.size 0 rfl (⟨bA, bc, base, t, oA, oc, ops, uA, uc, us, wA, wc, now⟩ : Pw) hP.at #[.slice bA base.length bc, .int .i64 t, .slice oA ops.length oc, .slice uA us.length uc, .slice wA now.length wc] rfl ?_) | fail)
  generalize ((w.alloc (.cells #[.slice bA base.length bc, .int .i64 t, .slice oA ops.length oc, .slice uA us.length uc, .slice wA now.length wc] 40)).alloc (.cells #[.int .i64 s] 3)).alloc (.cells #[.slice none 0 0, .int .i64 0, .slice none 0 0, .slice none 0 0, .slice none 0 0] 40) = W at *
  obtain ⟨n2, h2⟩ : ∃ n, w.heap.size + 2 = n := ⟨_, rfl⟩
  obtain ⟨n1, h1⟩ : ∃ n, w.heap.size + 1 = n := ⟨_, rfl⟩
  obtain ⟨n0, h0⟩ : ∃ n, w.heap.size = n := ⟨_, rfl⟩
  have HN := Lib.hid (show w.heap.size ≤ n0 ∧ n1 = n0 + 1 ∧ n2 = n0 + 2 by omega)
  have hn20 : n2 ≠ n0 := by omega
  try rw [show w.heap.size + 1 + 1 = n2 by omega]
  rw [h2] at hR
  rw [h1] at hO ⊢
  rw [h0] at hP ⊢
  try rw [h2]
  have hl1n : n1 < W.heap.size := by omega
  clear h0 h1 h2
  have hx1 := HL.out.below hB
  have CS := psame_any (⟨bA, bc, base, t, oA, oc, ops, uA, uc, us, wA, wc, now⟩ : Pw) W hx1 (by simp only; omega) (by simp only; omega) (by simp only; rw [HU.out]; omega) (by simp only; omega)
  simp only at CS
  refine CS.mono ?_
  rintro e W2 ⟨y, rfl, hy, hyv, hyf, hb2⟩
  have hR2 := hR.below hb2
  go_wp2_with (first | (refine El.store pwRow rfl _ _ rfl n2 y #[.slice y.bA y.base.length y.bc, .int .i64 y.t, .slice y.oA y.ops.length y.oc, .slice y.uA y.us.length y.uc, .slice y.wA y.now.length y.wc] rfl rfl rfl Pw.zero hR2 ?_))
  refine El.ret1 pwRow (hR2.set y #[.slice y.bA y.base.length y.bc, .int .i64 y.t, .slice y.oA y.ops.length y.oc, .slice y.uA y.us.length y.uc, .slice y.wA y.now.length y.wc] rfl) rfl rfl rfl #[.slice y.bA y.base.length y.bc, .int .i64 y.t, .slice y.oA y.ops.length y.oc, .slice y.uA y.us.length y.uc, .slice y.wA y.now.length y.wc] rfl ?_
  have hw2 : w.heap.size ≤ n2 := by have := HN.out; omega
  have hB2 := hB.trans (hb2.mono (by have := hB.size; omega))
  have hl2 := hR.lt
  exact ⟨y, rfl, hy.keep hyf (by_row _ _ _) hl2, hyv, below_setRow hB2 hw2 _⟩

set_option maxRecDepth 100000 in
set_option maxHeartbeats 4000000 in
theorem pSettle_new (x : Pw) (s : Int) (w : World) (hx : PastOk w x) (hI : PInv x.v) (hl : x.ops.length ≤ 200) (h : ¬ s ≤ x.t) :
    Calls Tryz.prog 63 #[.agg #[.slice x.bA x.base.length x.bc, .int .i64 x.t, .slice x.oA x.ops.length x.oc, .slice x.uA x.us.length x.uc, .slice x.wA x.now.length x.wc], .int .i64 s] w fun e w' => ∃ y : Pw, e = .returned (.agg #[.slice y.bA y.base.length y.bc, .int .i64 y.t, .slice y.oA y.ops.length y.oc, .slice y.uA y.us.length y.uc, .slice y.wA y.now.length y.wc]) ∧ PastOk w' y ∧ y.v = settleV x.v s ∧ Below w.heap.size w w' := by
  have ha : settleV x.v s = _ := hI.settle_eq h
  have hl1 : x.base.length ≤ 62 := tree_len hI.tree
  have hl4 : x.now.length ≤ 62 := tree_len hI.ntree
  have hl3 : x.us.length = x.ops.length := hI.ulen
  have hI' : Ris Mv.C Mv.D x.ops := hI.ris
  have hbs : Sorted x.base := (treeB_facts hI.tree).2.1
  obtain ⟨bA, bc, base, t, oA, oc, ops, uA, uc, us, wA, wc, now⟩ := x
  simp only at hl h hl1 hl3 hl4 hI' hbs
  simp only [Pw.v] at ha
  have HU := Lib.hid hl3
  have HA := Lib.hid ha
  clear ha hl3 hI
  have hP : pwE.In (((w.alloc (.cells #[.slice bA base.length bc, .int .i64 t, .slice oA ops.length oc, .slice uA us.length uc, .slice wA now.length wc] 40)).alloc (.cells #[.int .i64 s] 3)).alloc (.cells #[.slice none 0 0, .int .i64 0, .slice none 0 0, .slice none 0 0, .slice none 0 0] 40)) w.heap.size (⟨bA, bc, base, t, oA, oc, ops, uA, uc, us, wA, wc, now⟩ : Pw) := ((El.In.new (E := pwE) w (⟨bA, bc, base, t, oA, oc, ops, uA, uc, us, wA, wc, now⟩ : Pw) _ rfl).alloc _).alloc _
  have hO : (((w.alloc (.cells #[.slice bA base.length bc, .int .i64 t, .slice oA ops.length oc, .slice uA us.length uc, .slice wA now.length wc] 40)).alloc (.cells #[.int .i64 s] 3)).alloc (.cells #[.slice none 0 0, .int .i64 0, .slice none 0 0, .slice none 0 0, .slice none 0 0] 40)).cell? ⟨w.heap.size + 1, 0, none⟩ = some (.int .i64 s) := by go_simp
  have hR : pwE.In (((w.alloc (.cells #[.slice bA base.length bc, .int .i64 t, .slice oA ops.length oc, .slice uA us.length uc, .slice wA now.length wc] 40)).alloc (.cells #[.int .i64 s] 3)).alloc (.cells #[.slice none 0 0, .int .i64 0, .slice none 0 0, .slice none 0 0, .slice none 0 0] 40)) (w.heap.size + 2) Pw.zero := by
    have h := El.In.new (E := pwE) ((w.alloc (.cells #[.slice bA base.length bc, .int .i64 t, .slice oA ops.length oc, .slice uA us.length uc, .slice wA now.length wc] 40)).alloc (.cells #[.int .i64 s] 3)) Pw.zero #[.slice none 0 0, .int .i64 0, .slice none 0 0, .slice none 0 0, .slice none 0 0] rfl
    rw [alloc_size, alloc_size] at h; exact h
  have hB := below_alloc (below_alloc (below_alloc (Below.refl w.heap.size w) (.cells #[.slice bA base.length bc, .int .i64 t, .slice oA ops.length oc, .slice uA us.length uc, .slice wA now.length wc] 40)) (.cells #[.int .i64 s] 3)) (.cells #[.slice none 0 0, .int .i64 0, .slice none 0 0, .slice none 0 0, .slice none 0 0] 40)
  have hsz : (((w.alloc (.cells #[.slice bA base.length bc, .int .i64 t, .slice oA ops.length oc, .slice uA us.length uc, .slice wA now.length wc] 40)).alloc (.cells #[.int .i64 s] 3)).alloc (.cells #[.slice none 0 0, .int .i64 0, .slice none 0 0, .slice none 0 0, .slice none 0 0] 40)).heap.size = w.heap.size + 3 := by rw [alloc_size, alloc_size, alloc_size]
  have HL := Lib.hid hx
  clear hx
  have hE := even_any (⟨bA, bc, base, t, oA, oc, ops, uA, uc, us, wA, wc, now⟩ : Pw) (((w.alloc (.cells #[.slice bA base.length bc, .int .i64 t, .slice oA ops.length oc, .slice uA us.length uc, .slice wA now.length wc] 40)).alloc (.cells #[.int .i64 s] 3)).alloc (.cells #[.slice none 0 0, .int .i64 0, .slice none 0 0, .slice none 0 0, .slice none 0 0] 40)) HU.out
  simp only at hE
  go_enter Tryz.func63, Tryz.ntmps63
  go_wp2_with fail
  generalize ((w.alloc (.cells #[.slice bA base.length bc, .int .i64 t, .slice oA ops.length oc, .slice uA us.length uc, .slice wA now.length wc] 40)).alloc (.cells #[.int .i64 s] 3)).alloc (.cells #[.slice none 0 0, .int .i64 0, .slice none 0 0, .slice none 0 0, .slice none 0 0] 40) = W at *
  obtain ⟨n2, h2⟩ : ∃ n, w.heap.size + 2 = n := ⟨_, rfl⟩
  obtain ⟨n1, h1⟩ : ∃ n, w.heap.size + 1 = n := ⟨_, rfl⟩
  obtain ⟨n0, h0⟩ : ∃ n, w.heap.size = n := ⟨_, rfl⟩
  have HN := Lib.hid (show w.heap.size ≤ n0 ∧ n1 = n0 + 1 ∧ n2 = n0 + 2 by omega)
  have hn20 : n2 ≠ n0 := by omega
  try rw [show w.heap.size + 1 + 1 = n2 by omega]
  rw [h2] at hR
  rw [h1] at hO ⊢
  rw [h0] at hP ⊢
  try rw [h2]
  have hl1n : n1 < W.heap.size := by omega
  clear h0 h1 h2
  refine hE.mono ?_
  rintro e W2 ⟨rfl, hb2⟩
  clear hE
  replace hP := hP.below hb2
  replace hR := hR.below hb2
  have hO2 : W2.cell? ⟨n1, 0, none⟩ = some (.int .i64 s) := by rw [(bcell hb2).1 _ _ hl1n]; exact hO
  replace hB := hB.trans (hb2.mono (by have := hB.size; omega))
  have hl1m : n1 < W2.heap.size := by have := hb2.size; omega
  clear hb2 hO hl1n hsz
  have hxo := (HL.out.below hB).o
  simp only at hxo
  have hl0 := hP.lt
  have CS := search2_any ops.length n0 n1 (fun i => if h : i < ops.length then decide (s < ops[i].C) else true) W2 (by omega)
    (fun i j hij hj hpi => by
      rw [dif_pos (show i < ops.length by omega)] at hpi
      rw [dif_pos hj]
      have := ris_c hI' (show i < ops.length by omega) hj hij
      rw [decide_eq_true_iff] at hpi ⊢; omega)
    (fun i w' hi hb => by
      have := upOne_any i (⟨bA, bc, base, t, oA, oc, ops, uA, uc, us, wA, wc, now⟩ : Pw) s n0 n1 w' (hP.below hb) (by rw [(bcell hb).1 _ _ hl1m]; exact hO2) (hxo.1.below hb) hi (by simp only; omega)
      rw [dif_pos hi]; exact this)
  obtain ⟨p0, p1, p2, p3, p4⟩ := pwIn5 hP
  go_wp2_with fail
  clear p0 p1 p2 p3 p4
  refine CS.mono ?_
  rintro e W3 ⟨k, rfl, hk, hlo, hhi, hb3⟩
  clear CS
  have hup : k = upto Mv.C ops s := upto_eq hk (fun i hi hik => by have := hlo i hik; rw [dif_pos hi] at this; have := of_decide_eq_false this; omega) (fun hi => by have := hhi k (Nat.le_refl _) hi; rw [dif_pos hi] at this; exact of_decide_eq_true this)
  have hna := HA.out
  rw [← hup] at hna
  have HNA := Lib.hid hna
  replace hP := hP.below hb3
  replace hR := hR.below hb3
  have hO3 : W3.cell? ⟨n1, 0, none⟩ = some (.int .i64 s) := by rw [(bcell hb3).1 _ _ hl1m]; exact hO2
  replace hB := hB.trans (hb3.mono (by have := hB.size; omega))
  have hl2n : n2 < W3.heap.size := hR.lt
  replace hl1m : n1 < W3.heap.size := by have := hb3.size; omega
  clear hb3 hO2 hlo hhi hna HA hup hl0 hxo
  go_wp2_with fail
  have hx3 := HL.out.below hB
  have hxb := hx3.b
  have hxo := hx3.o
  have hxu := hx3.u
  have hxw := hx3.w
  simp only at hxb hxo hxu hxw
  obtain ⟨A3, hA3⟩ : ∃ A3 : Option Addr, (if oc = k then oA else Option.map (fun x => x.add (k * 7)) oA) = A3 := ⟨_, rfl⟩
  obtain ⟨U3, hU3⟩ : ∃ U3 : Option Addr, (if uc = k then uA else Option.map (fun x => x.add (k * 5)) uA) = U3 := ⟨_, rfl⟩
  have ht1 := hxo.1.take k
  have ht3 := hxo.1.drop (tz := k) hxo.2.2 hA3
  have htu := hxu.1.drop (tz := k) hxu.2.2 hU3
  have e1 : (ops.take k).length = k := by rw [List.length_take]; omega
  have e3 : (ops.drop k).length = ops.length - k := List.length_drop
  have eu : (us.drop k).length = us.length - k := List.length_drop
  have hv3 : SlV opE W3 A3 (oc - k) (ops.drop k) := ⟨ht3, El.drop_none hxo.2.1 hA3, by rw [e3]; have := hxo.2.2; omega⟩
  have hvu : SlV unE W3 U3 (uc - k) (us.drop k) := ⟨htu, El.drop_none hxu.2.1 hU3, by rw [eu]; have := hxu.2.2; omega⟩
  have hkc : k ≤ oc := Nat.le_trans hk hxo.2.2
  have i0 : (0 : Int) ≤ (k : Int) := by omega
  have i1 : (k : Int) ≤ (oc : Int) := by omega
  have i2 : (k : Int) ≤ (ops.length : Int) := by omega
  have i3 : (k : Int) ≤ (us.length : Int) := by have := HU.out; omega
  have i4 : (k : Int) ≤ (uc : Int) := by have := hxu.2.2; have := HU.out; omega
  have CF := mvFold_any bA bc base oA oc (ops.take k) W3.drew (by rw [e1]; omega) hbs hxb ht1
  rw [e1] at CF
  have HCF := Lib.hid CF
  have HE3 := Lib.hid e3
  have HEU := Lib.hid eu
  clear CF ht1 ht3 htu hxb hxo hxu e1 e3 eu hx3
  generalize hL3 : ops.drop k = L3 at *
  generalize hus3 : us.drop k = us3 at *
  generalize (foldL base (mvs (ops.take k))).1 = b4 at *
  generalize (foldL base (mvs (ops.take k))).2 = u4 at *
  clear hL3 hus3
  have hP0 := hP
  have hPd : pwE.In W3.drew n0 (⟨bA, bc, base, t, oA, oc, ops, uA, uc, us, wA, wc, now⟩ : Pw) := hP
  have hd3 : Below W3.heap.size W3 W3.drew := (Below.refl _ _).drew
  go_region_held3 (fun w' => w'.cell? ⟨n0, 0, none⟩ = some (.slice bA base.length bc) ∧ w'.cell? ⟨n0, 2, none⟩ = some (.slice oA ops.length oc)) (with_reducible first | exact ⟨(pwIn5 hPd).1, (pwIn5 hPd).2.2.1⟩ | exact ⟨(pwIn5 hP4).1, (pwIn5 hP4).2.2.1⟩) (first | (go_at_call 52; (with_reducible refine HCF.out.mono ?_); rintro e W4 ⟨A4, c4, U4, uc4, rfl, hS4, hU4, hf4, hfu4, hb4⟩; have hb34 := hd3.trans (hb4.mono hd3.size); have hP4 := hP0.below hb34))
  replace hR := hR.below hb34
  replace hB := hB.trans (hb34.mono hB.size)
  have hO4 : W4.cell? ⟨n1, 0, none⟩ = some (.int .i64 s) := by rw [(bcell hb34).1 _ _ hl1m]; exact hO3
  have hl2 : n2 < W3.heap.size := by have := hb34.size; exact hl2n
  have hl1m4 : n1 < W4.heap.size := by have := hb34.size; omega
  replace hv3 := hv3.below hb34
  replace hvu := hvu.below hb34
  replace hxw := hxw.below hb34
  clear hP hP0 hPd hd3 hU4 hfu4 hO3 HCF hb4
  have hl24 : n2 < W4.heap.size := hR.lt
  have C1 := fun (wx : World) (h : SlV opE wx A3 (oc - k) L3) => cloneOp_any A3 (oc - k) L3 wx (by have := HE3.out; omega) h
  have C2 := fun (wx : World) (h : SlV unE wx U3 (uc - k) us3) => cloneUn_any U3 (uc - k) us3 wx (by have := HEU.out; have := HU.out; omega) h
  have C3 := fun (wx : World) (h : SlV plE wx wA wc now) => clonePl_any wA wc now wx (by omega) h
  rw [show (#[Value.slice A3 L3.length (oc - k)] : Array Value) = #[Value.slice A3 (ops.length - k) (oc - k)] by rw [HE3.out]] at C1
  rw [show (#[Value.slice U3 us3.length (uc - k)] : Array Value) = #[Value.slice U3 (us.length - k) (uc - k)] by rw [HEU.out]] at C2
  have HC1 := Lib.hid C1
  have HC2 := Lib.hid C2
  have HC3 := Lib.hid C3
  clear C1 C2 C3
  have hv30 : SlV opE W4.drew A3 (oc - k) L3 := hv3
  have hd4 : Below W4.heap.size W4 W4.drew := (Below.refl _ _).drew
  have hPd : pwE.In W4.drew n0 (⟨bA, bc, base, t, oA, oc, ops, uA, uc, us, wA, wc, now⟩ : Pw) := hP4
  have hOd : W4.drew.cell? ⟨n1, 0, none⟩ = some (.int .i64 s) := hO4
  have hn02 : some n0 ≠ some n2 := fun e => hn20 (Option.some.inj e).symm
  have hn12 : some n1 ≠ some n2 := fun e => by have := Option.some.inj e; have := HN.out; omega
  go_wp2_with fail
  go_region_held3 (fun w' => w'.cell? ⟨n1, 0, none⟩ = some (.int .i64 s) ∧ w'.cell? ⟨n0, 2, none⟩ = some (.slice oA ops.length oc) ∧ w'.cell? ⟨n0, 3, none⟩ = some (.slice uA us.length uc) ∧ w'.cell? ⟨n0, 4, none⟩ = some (.slice wA now.length wc)) (with_reducible first | exact ⟨hOd, (pwIn5 hPd).2.2.1, (pwIn5 hPd).2.2.2.1, (pwIn5 hPd).2.2.2.2⟩ | exact ⟨hO5, (pwIn5 hP5).2.2.1, (pwIn5 hP5).2.2.2.1, (pwIn5 hP5).2.2.2.2⟩ | exact ⟨hO6, (pwIn5 hP6).2.2.1, (pwIn5 hP6).2.2.2.1, (pwIn5 hP6).2.2.2.2⟩ | exact ⟨hO7, (pwIn5 hP7).2.2.1, (pwIn5 hP7).2.2.2.1, (pwIn5 hP7).2.2.2.2⟩ | exact ⟨hOz, (pwIn5 (hP7.keep (pw_put hR7 ⟨A4, c4, b4, s, A5, c5, L3, A6, c6, us3, A7, c7, now⟩).2 hn02)).2.2.1, (pwIn5 (hP7.keep (pw_put hR7 ⟨A4, c4, b4, s, A5, c5, L3, A6, c6, us3, A7, c7, now⟩).2 hn02)).2.2.2.1, (pwIn5 (hP7.keep (pw_put hR7 ⟨A4, c4, b4, s, A5, c5, L3, A6, c6, us3, A7, c7, now⟩).2 hn02)).2.2.2.2⟩) (first | (go_at_call 59; (with_reducible refine (HC1.out _ hv30).mono ?_); rintro e W5 ⟨A5, c5, rfl, hS5, hf5, hb5⟩; have hb45 := hd4.trans (hb5.mono hd4.size); have hP5 := hP4.below hb45; have hO5 : W5.cell? ⟨n1, 0, none⟩ = some (.int .i64 s) := (by rw [(bcell hb45).1 _ _ hl1m4]; exact hO4); have hvu5 := hvu.below hb45; have hxw5 := hxw.below hb45) | (go_at_call 82; (with_reducible refine (HC2.out _ hvu5).mono ?_); rintro e W6 ⟨A6, c6, rfl, hS6, hf6, hb6⟩; have hb46 := hb45.trans (hb6.mono hb45.size); have hP6 := hP4.below hb46; have hO6 : W6.cell? ⟨n1, 0, none⟩ = some (.int .i64 s) := (by rw [(bcell hb46).1 _ _ hl1m4]; exact hO4); have hxw6 := hxw5.below hb6) | (go_at_call 54; (with_reducible refine (HC3.out _ hxw6).mono ?_); rintro e W7 ⟨A7, c7, rfl, hS7, hf7, hb7⟩; have hb47 := hb46.trans (hb7.mono hb46.size); have hP7 := hP4.below hb47; have hO7 : W7.cell? ⟨n1, 0, none⟩ = some (.int .i64 s) := (by rw [(bcell hb47).1 _ _ hl1m4]; exact hO4); have hR7 := hR.below hb47; have hOz := (pw_put hR7 ⟨A4, c4, b4, s, A5, c5, L3, A6, c6, us3, A7, c7, now⟩).2.cell hO7 hn12; obtain ⟨r0, r1, r2, r3, r4⟩ := pwIn5 hR7; have rf := hR7.frozen))
  have hz := pw_put hR7 ⟨A4, c4, b4, s, A5, c5, L3, A6, c6, us3, A7, c7, now⟩
  go_wp2
  refine El.ret1 pwRow hz.1 rfl rfl rfl #[.slice A4 b4.length c4, .int .i64 s, .slice A5 L3.length c5, .slice A6 us3.length c6, .slice A7 now.length c7] rfl ?_
  have g5 := hb45.size
  have g6 := hb46.size
  have hB7 := hB.trans (hb47.mono hB.size)
  exact ⟨⟨A4, c4, b4, s, A5, c5, L3, A6, c6, us3, A7, c7, now⟩, rfl, ⟨(hS4.below hb47).keep hf4 hz.2 hl2, (hS5.below (below_then hb6 hb7)).keep hf5 hz.2 hl24, (hS6.below hb7).keep hf6 hz.2 (by omega), hS7.keep hf7 hz.2 (by omega)⟩, by show _ = settleV ⟨base, t, ops, us, now⟩ s; rw [HNA.out]; rfl, hB7.grown hz.2 hB7.size (fun j e => by have := Option.some.inj e; have := HN.out; omega)⟩

theorem pSettle_any (x : Pw) (s : Int) (w : World) (hx : PastOk w x) (hI : PInv x.v) (hl : x.ops.length ≤ 200) :
    Calls Tryz.prog 63 #[.agg #[.slice x.bA x.base.length x.bc, .int .i64 x.t, .slice x.oA x.ops.length x.oc, .slice x.uA x.us.length x.uc, .slice x.wA x.now.length x.wc], .int .i64 s] w fun e w' => ∃ y : Pw, e = .returned (.agg #[.slice y.bA y.base.length y.bc, .int .i64 y.t, .slice y.oA y.ops.length y.oc, .slice y.uA y.us.length y.uc, .slice y.wA y.now.length y.wc]) ∧ PastOk w' y ∧ y.v = settleV x.v s ∧ Below w.heap.size w w' := by
  by_cases h : s ≤ x.t
  · exact pSettle_late x s w hx hI hl h
  · exact pSettle_new x s w hx hI hl h
theorem pAdd_any (x : Pw) (m : Mv) (w : World) (hx : PastOk w x) (hI : PInv x.v) (hl : x.ops.length ≤ 200) :
    Calls Tryz.prog 25 #[.agg #[.slice x.bA x.base.length x.bc, .int .i64 x.t, .slice x.oA x.ops.length x.oc, .slice x.uA x.us.length x.uc, .slice x.wA x.now.length x.wc], .agg #[.int .i64 m.C, .int .i64 m.D, .int .i64 m.I, .int .i64 m.M, .int .i64 m.K, .int .i64 m.U, .string m.s]] w fun e w' => ∃ y : Pw, e = .returned (.tuple #[.agg #[.slice y.bA y.base.length y.bc, .int .i64 y.t, .slice y.oA y.ops.length y.oc, .slice y.uA y.us.length y.uc, .slice y.wA y.now.length y.wc], .bool (addV x.v m).2]) ∧ PastOk w' y ∧ y.v = (addV x.v m).1 ∧ Below w.heap.size w w' := by
  by_cases h : m.C ≤ x.t
  · cases hh : has Mv.C Mv.D x.ops m
    · exact pAdd_late x m w hx hI hl (Or.inr ⟨hh, h⟩)
    · exact pAdd_late x m w hx hI hl (Or.inl hh)
  · cases hh : has Mv.C Mv.D x.ops m
    · have e : (addV x.v m).2 = true := by rw [addV_new' (q := x.v) h hh]
      rw [e]
      exact pAdd_new x m w hx hI hl hh h
    · exact pAdd_late x m w hx hI hl (Or.inl hh)
end Go.Proofs.YtdcjffajmckleaaGreatDoor

/- The document's Own and Of. -/
namespace Go.Proofs.YtdcjffajmckleaaGreatDoor
open Go.RowKit Tre Cod Pst

/-- How many of the first k are so. -/
def cntO (p : Mv → Bool) (l : List Mv) (k : Nat) : Nat := ((l.take k).filter p).length
theorem cntO_next {p : Mv → Bool} {l : List Mv} {k : Nat} {x : Mv} (h : k < l.length) (hx : l[k] = x) : cntO p l (k + 1) = cntO p l k + (if p x then 1 else 0) := by
  unfold cntO
  rw [List.take_succ_eq_append_getElem h, List.filter_append, List.length_append, hx]
  congr 1
  cases hp : p x <;> simp [hp]
theorem cntO_all (p : Mv → Bool) (l : List Mv) : cntO p l l.length = (l.filter p).length := by unfold cntO; rw [List.take_length]
theorem cntO_le (p : Mv → Bool) (l : List Mv) (k : Nat) : cntO p l k ≤ l.length := by
  unfold cntO
  have h1 := List.length_filter_le p (l.take k)
  have h2 : (l.take k).length ≤ l.length := by rw [List.length_take]; omega
  omega

end Go.Proofs.YtdcjffajmckleaaGreatDoor

/- Own, Of and count of the program. -/
namespace Go.Proofs.YtdcjffajmckleaaGreatDoor
open Go.RowKit Tre Cod Pst

theorem ownOne_any (m : Mv) (d i : Int) (b1 b2 : Nat) (w : World) (h1 : w.cell? ⟨b1, 0, none⟩ = some (.int .i64 d)) (h2 : w.cell? ⟨b2, 0, none⟩ = some (.int .i64 i)) (l1 : b1 < w.heap.size) (l2 : b2 < w.heap.size) :
    Calls Tryz.prog 72 #[.agg #[.int .i64 m.C, .int .i64 m.D, .int .i64 m.I, .int .i64 m.M, .int .i64 m.K, .int .i64 m.U, .string m.s], .pointer (some ⟨b1, 0, none⟩), .pointer (some ⟨b2, 0, none⟩)] w fun e w' => e = .returned (.bool (decide (m.D = d ∧ m.I = i))) ∧ Below w.heap.size w w' := by
  have n1 : b1 ≠ w.heap.size := by omega
  have n2 : b2 ≠ w.heap.size := by omega
  by_cases e1 : m.D = d
  · by_cases e2 : m.I = i
    · rw [decide_eq_true ⟨e1, e2⟩]
      go_enter Tryz.func72, Tryz.ntmps72
      go_wp2
      go_ret
      exact ⟨rfl, below_alloc (Below.refl _ _) _⟩
    · rw [decide_eq_false (fun h => e2 h.2)]
      have e2 : (m.I == i) = false := beq_eq_false_iff_ne.2 e2
      go_enter Tryz.func72, Tryz.ntmps72
      go_wp2
      go_ret
      exact ⟨rfl, below_alloc (Below.refl _ _) _⟩
  · rw [decide_eq_false (fun h => e1 h.1)]
    have e1 : (m.D == d) = false := beq_eq_false_iff_ne.2 e1
    go_enter Tryz.func72, Tryz.ntmps72
    go_wp2
    go_ret
    exact ⟨rfl, below_alloc (Below.refl _ _) _⟩
set_option maxRecDepth 100000 in
set_option maxHeartbeats 1000000 in
theorem countOwn_any (A : Option Addr) (c : Nat) (l : List Mv) (p : Mv → Bool) (b1 b2 : Nat) (w : World) (hT : opE.Sl w A l) (hl : l.length ≤ 50000)
    (HF : ∀ (m : Mv) (w' : World), Below w.heap.size w w' → Calls Tryz.prog 72 #[.agg #[.int .i64 m.C, .int .i64 m.D, .int .i64 m.I, .int .i64 m.M, .int .i64 m.K, .int .i64 m.U, .string m.s], .pointer (some ⟨b1, 0, none⟩), .pointer (some ⟨b2, 0, none⟩)] w' fun e w'' => e = .returned (.bool (p m)) ∧ Below w'.heap.size w' w'') :
    Calls Tryz.prog 71 #[.slice A l.length c, .func (.func 72) #[] #[.pointer (some ⟨b1, 0, none⟩), .pointer (some ⟨b2, 0, none⟩)]] w fun e w' => e = .returned (.int .i64 ((l.filter p).length)) ∧ Below w.heap.size w w' := by
  rw [← cntO_all]
  have HCF := Lib.hid HF
  clear HF
  go_enter Tryz.func71, Tryz.ntmps71
  go_wp2
  go_loopw [5, 10] (fun x y wr => ∃ k : Nat, k ≤ l.length ∧ y = .int .i64 k ∧ x = .int .i64 (cntO p l k) ∧ Below w.heap.size w wr) (fun _ y _ => l.length - (intOf y).toNat)
  case atStart => exact ⟨0, Nat.zero_le _, rfl, rfl, Below.refl _ _⟩
  case round =>
    obtain ⟨k, hk, rfl, rfl, hnx⟩ := hrel
    have hcl := cntO_le p l k
    by_cases hkl : k < l.length
    · obtain ⟨b, off, rfl, hbw, hc⟩ := hT (by omega)
      have hat : opE.At wr b (off + k * 7) l[k] := (hc k hkl).below hnx hbw
      obtain ⟨mk, hmk⟩ : ∃ mk, l[k] = mk := ⟨_, rfl⟩
      rw [hmk] at hat
      have hnext := cntO_next (p := p) hkl hmk
      have hI : opE.In ((wr.alloc (.cells #[.int .i64 0, .int .i64 0, .int .i64 0, .int .i64 0, .int .i64 0, .int .i64 0, .string ⟨#[]⟩] 55)).setRow wr.heap.size #[.int .i64 mk.C, .int .i64 mk.D, .int .i64 mk.I, .int .i64 mk.M, .int .i64 mk.K, .int .i64 mk.U, .string mk.s]) wr.heap.size mk := (El.In.new (E := opE) wr zeroMv #[.int .i64 0, .int .i64 0, .int .i64 0, .int .i64 0, .int .i64 0, .int .i64 0, .string ⟨#[]⟩] rfl).set mk #[.int .i64 mk.C, .int .i64 mk.D, .int .i64 mk.I, .int .i64 mk.M, .int .i64 mk.K, .int .i64 mk.U, .string mk.s] rfl
      have hb1 : Below wr.heap.size wr ((wr.alloc (.cells #[.int .i64 0, .int .i64 0, .int .i64 0, .int .i64 0, .int .i64 0, .int .i64 0, .string ⟨#[]⟩] 55)).setRow wr.heap.size #[.int .i64 mk.C, .int .i64 mk.D, .int .i64 mk.I, .int .i64 mk.M, .int .i64 mk.K, .int .i64 mk.U, .string mk.s]) := below_setRow (below_alloc (Below.refl _ _) _) (Nat.le_refl _) _
      have hF := HCF.out mk _ (below_then hnx hb1)
      have HI := Lib.hid hI
      have HCM := Lib.hid hF
      have hz : opE.In (wr.alloc (.cells #[.int .i64 0, .int .i64 0, .int .i64 0, .int .i64 0, .int .i64 0, .int .i64 0, .string ⟨#[]⟩] 55)) wr.heap.size zeroMv := El.In.new (E := opE) wr zeroMv #[.int .i64 0, .int .i64 0, .int .i64 0, .int .i64 0, .int .i64 0, .int .i64 0, .string ⟨#[]⟩] rfl
      have HN := Lib.hid hnext
      clear hnext hc hmk hI hF
      generalize hcn : cntO p l k = cn at *
      clear hcn
      cases hp : p mk
      · rw [hp] at HCM HN
        go_wp2_with (first | (refine El.load opRow rfl _ rfl b (off + k * 7) rfl mk hat #[.int .i64 mk.C, .int .i64 mk.D, .int .i64 mk.I, .int .i64 mk.M, .int .i64 mk.K, .int .i64 mk.U, .string mk.s] rfl ?_) | (refine El.store opRow rfl _ _ rfl wr.heap.size mk #[.int .i64 mk.C, .int .i64 mk.D, .int .i64 mk.I, .int .i64 mk.M, .int .i64 mk.K, .int .i64 mk.U, .string mk.s] rfl rfl rfl zeroMv hz ?_) | (refine El.load opRow rfl _ rfl wr.heap.size 0 rfl mk HI.out.at #[.int .i64 mk.C, .int .i64 mk.D, .int .i64 mk.I, .int .i64 mk.M, .int .i64 mk.K, .int .i64 mk.U, .string mk.s] rfl ?_) | (go_at_call 72; (with_reducible refine HCM.out.mono ?_); rintro e w3 ⟨rfl, hb3⟩))
        go_roundw
        case rel => exact ⟨k + 1, by omega, by go_num, by rw [HN.out]; go_num, below_then hnx (below_then hb1 hb3)⟩
        case measure => simp [intOf]; omega
      · rw [hp] at HCM HN
        go_wp2_with (first | (refine El.load opRow rfl _ rfl b (off + k * 7) rfl mk hat #[.int .i64 mk.C, .int .i64 mk.D, .int .i64 mk.I, .int .i64 mk.M, .int .i64 mk.K, .int .i64 mk.U, .string mk.s] rfl ?_) | (refine El.store opRow rfl _ _ rfl wr.heap.size mk #[.int .i64 mk.C, .int .i64 mk.D, .int .i64 mk.I, .int .i64 mk.M, .int .i64 mk.K, .int .i64 mk.U, .string mk.s] rfl rfl rfl zeroMv hz ?_) | (refine El.load opRow rfl _ rfl wr.heap.size 0 rfl mk HI.out.at #[.int .i64 mk.C, .int .i64 mk.D, .int .i64 mk.I, .int .i64 mk.M, .int .i64 mk.K, .int .i64 mk.U, .string mk.s] rfl ?_) | (go_at_call 72; (with_reducible refine HCM.out.mono ?_); rintro e w3 ⟨rfl, hb3⟩))
        go_roundw
        case rel => exact ⟨k + 1, by omega, by go_num, by rw [HN.out]; go_num, below_then hnx (below_then hb1 hb3)⟩
        case measure => simp [intOf]; omega
    · obtain rfl : k = l.length := by omega
      go_wp2
      go_ret
      exact ⟨rfl, hnx⟩
set_option maxRecDepth 100000 in
theorem pOwn_any (x : Pw) (d i : Int) (w : World) (hx : PastOk w x) (hl : x.ops.length ≤ 50000) :
    Calls Tryz.prog 45 #[.agg #[.slice x.bA x.base.length x.bc, .int .i64 x.t, .slice x.oA x.ops.length x.oc, .slice x.uA x.us.length x.uc, .slice x.wA x.now.length x.wc], .int .i64 d, .int .i64 i] w fun e w' => e = .returned (.int .i64 (ownV x.v d i)) ∧ Below w.heap.size w w' := by
  obtain ⟨bA, bc, base, t, oA, oc, ops, uA, uc, us, wA, wc, now⟩ := x
  simp only at hl
  have hB := below_alloc (below_alloc (below_alloc (Below.refl w.heap.size w) (.cells #[.slice bA base.length bc, .int .i64 t, .slice oA ops.length oc, .slice uA us.length uc, .slice wA now.length wc] 40)) (.cells #[.int .i64 d] 3)) (.cells #[.int .i64 i] 3)
  have hxo := hx.o.below hB
  simp only at hxo
  have hs : (((w.alloc (.cells #[.slice bA base.length bc, .int .i64 t, .slice oA ops.length oc, .slice uA us.length uc, .slice wA now.length wc] 40)).alloc (.cells #[.int .i64 d] 3)).alloc (.cells #[.int .i64 i] 3)).heap.size = w.heap.size + 3 := by rw [alloc_size, alloc_size, alloc_size]
  have q1 : (((w.alloc (.cells #[.slice bA base.length bc, .int .i64 t, .slice oA ops.length oc, .slice uA us.length uc, .slice wA now.length wc] 40)).alloc (.cells #[.int .i64 d] 3)).alloc (.cells #[.int .i64 i] 3)).cell? ⟨w.heap.size + 1, 0, none⟩ = some (.int .i64 d) := by go_simp
  have q2 : (((w.alloc (.cells #[.slice bA base.length bc, .int .i64 t, .slice oA ops.length oc, .slice uA us.length uc, .slice wA now.length wc] 40)).alloc (.cells #[.int .i64 d] 3)).alloc (.cells #[.int .i64 i] 3)).cell? ⟨w.heap.size + 2, 0, none⟩ = some (.int .i64 i) := by go_simp
  have C := countOwn_any oA oc ops (fun m => decide (m.D = d ∧ m.I = i)) (w.heap.size + 1) (w.heap.size + 2) _ hxo.1 hl (fun m w' hb => ownOne_any m d i _ _ w' (by rw [(bcell hb).1 _ _ (by omega)]; exact q1) (by rw [(bcell hb).1 _ _ (by omega)]; exact q2) (by have := hb.size; omega) (by have := hb.size; omega))
  have hv : ownV (⟨bA, bc, base, t, oA, oc, ops, uA, uc, us, wA, wc, now⟩ : Pw).v d i = (ops.filter fun m => decide (m.D = d ∧ m.I = i)).length := rfl
  rw [hv]
  generalize (ops.filter fun m => decide (m.D = d ∧ m.I = i)).length = N at *
  have HC := Lib.hid C
  clear C hx
  go_enter Tryz.func45, Tryz.ntmps45
  go_wp2_with (go_at_call 71; (with_reducible refine HC.out.mono ?_); rintro e w3 ⟨rfl, hb3⟩)
  go_ret
  exact ⟨rfl, below_then hB hb3⟩
end Go.Proofs.YtdcjffajmckleaaGreatDoor
