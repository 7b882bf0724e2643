/- Texts laid one behind the other: Re, Rh, Rl, Ri, Rr, Rs, Rv, Ec, Em. -/
import Derived.Test.YtdcjffajmckleaaGreatDoorE04
import Derived.Deep.CutRange
import Derived.BigQuiet
import Derived.Deep.QuietTactic
import Derived.Lib.QuietBelow
import Derived.Deep.RegionHeld3
/- What the calls answer at states that are known; the law's awake. -/
namespace Go.Proofs.YtdcjffajmckleaaGreatDoor
open Go.RowKit Nam Cod Tre Pst Pln

def P18 : Pn := ⟨[-1, 0, 0], 2, 3, 2, 20, 2, 32, 4, 16⟩
theorem some18_any (w : World) : Calls Tryz.prog 7 #[] w fun e w' => ∃ n : Nat, e = .returned (.agg #[.slice (some ⟨n, 0, none⟩) 3 3, .int .i64 2, .int .i64 3, .int .i64 2, .int .i64 20, .int .i64 2, .int .i64 32, .int .i64 4, .int .i64 16]) ∧ inE.Sl w' (some ⟨n, 0, none⟩) [-1, 0, 0] ∧ Below w.heap.size w w' := by
  go_enter Tryz.func7, Tryz.ntmps7
  have hP : pnE.In ((w.alloc (.cells #[.slice (some ⟨w.heap.size + 1, 0, none⟩) 3 3, .int .i64 2, .int .i64 3, .int .i64 2, .int .i64 20, .int .i64 2, .int .i64 32, .int .i64 4, .int .i64 16] 26)).alloc (.cells #[.int .i64 (-1), .int .i64 0, .int .i64 0] 3)) w.heap.size (⟨some ⟨w.heap.size + 1, 0, none⟩, 3, P18⟩ : Pnw) := (El.In.new (E := pnE) w (⟨some ⟨w.heap.size + 1, 0, none⟩, 3, P18⟩ : Pnw) #[.slice (some ⟨w.heap.size + 1, 0, none⟩) 3 3, .int .i64 2, .int .i64 3, .int .i64 2, .int .i64 20, .int .i64 2, .int .i64 32, .int .i64 4, .int .i64 16] rfl).alloc _
  have hT : inE.Sl ((w.alloc (.cells #[.slice (some ⟨w.heap.size + 1, 0, none⟩) 3 3, .int .i64 2, .int .i64 3, .int .i64 2, .int .i64 20, .int .i64 2, .int .i64 32, .int .i64 4, .int .i64 16] 26)).alloc (.cells #[.int .i64 (-1), .int .i64 0, .int .i64 0] 3)) (some ⟨w.heap.size + 1, 0, none⟩) [-1, 0, 0] := by
    have h := El.Sl.row (E := inE) (w.alloc (.cells #[.slice (some ⟨w.heap.size + 1, 0, none⟩) 3 3, .int .i64 2, .int .i64 3, .int .i64 2, .int .i64 20, .int .i64 2, .int .i64 32, .int .i64 4, .int .i64 16] 26)) [-1, 0, 0] #[.int .i64 (-1), .int .i64 0, .int .i64 0] rfl
    rw [alloc_size] at h; exact h
  have hB := below_alloc (below_alloc (Below.refl w.heap.size w) (.cells #[.slice (some ⟨w.heap.size + 1, 0, none⟩) 3 3, .int .i64 2, .int .i64 3, .int .i64 2, .int .i64 20, .int .i64 2, .int .i64 32, .int .i64 4, .int .i64 16] 26)) (.cells #[.int .i64 (-1), .int .i64 0, .int .i64 0] 3)
  go_wp2_with fail
  refine El.ret1 pnRow hP rfl rfl rfl _ rfl ?_
  exact ⟨_, rfl, hT, hB⟩

theorem st_zero18 : (Tryz.prog.info? 44).map (·.zero) = some (some (.agg #[.int .i64 0, .int .i64 0, .int .i64 0, .int .i64 0, .int .i64 0, .int .i64 0, .slice none 0 0, .int .i64 0, .int .i64 0, .slice none 0 0, .slice none 0 0, .slice none 0 0, .slice none 0 0, .slice none 0 0, .slice none 0 0, .int .i64 0, .slice none 0 0, .slice none 0 0, .slice none 0 0, .slice none 0 0, .int .i64 0, .int .i64 0, .int .i64 0, .int .i64 0, .slice none 0 0, .int .i64 0])) := by kernel_rfl
/-- A state laid, in one step. -/
theorem wpList_alloc_dv {ops : Array Oper} {rest : List Oper} {o : Oper} {a : Act} {w : World} {Q : Exit → Act → World → Prop} (hgd : o.guard = none) (ho : o.op = .alloc 44)
    (h : wpList Tryz.prog ops Q rest (a.put o.dst (.pointer (some ⟨w.heap.size, 0, none⟩))) (w.alloc (.cells #[.int .i64 0, .int .i64 0, .int .i64 0, .int .i64 0, .int .i64 0, .int .i64 0, .slice none 0 0, .int .i64 0, .int .i64 0, .slice none 0 0, .slice none 0 0, .slice none 0 0, .slice none 0 0, .slice none 0 0, .slice none 0 0, .int .i64 0, .slice none 0 0, .slice none 0 0, .slice none 0 0, .slice none 0 0, .int .i64 0, .int .i64 0, .int .i64 0, .int .i64 0, .slice none 0 0, .int .i64 0] 44))) : wpList Tryz.prog ops Q (o :: rest) a w :=
  wpList_plain hgd fun _ hK => by
    have hR := st_zero18
    cases hq : Tryz.prog.info? 44 with
    | none => simp [hq] at hR
    | some inf =>
      have hinf : inf.zero = some (.agg #[.int .i64 0, .int .i64 0, .int .i64 0, .int .i64 0, .int .i64 0, .int .i64 0, .slice none 0 0, .int .i64 0, .int .i64 0, .slice none 0 0, .slice none 0 0, .slice none 0 0, .slice none 0 0, .slice none 0 0, .slice none 0 0, .int .i64 0, .slice none 0 0, .slice none 0 0, .slice none 0 0, .slice none 0 0, .int .i64 0, .int .i64 0, .int .i64 0, .int .i64 0, .slice none 0 0, .int .i64 0]) := by simpa [hq] using hR
      have hv : (Instr.alloc 44 true (.tuple #[])).run Tryz.prog w = .ok (.pointer (some ⟨w.heap.size, 0, none⟩)) (w.alloc (.cells #[.int .i64 0, .int .i64 0, .int .i64 0, .int .i64 0, .int .i64 0, .int .i64 0, .slice none 0 0, .int .i64 0, .int .i64 0, .slice none 0 0, .slice none 0 0, .slice none 0 0, .slice none 0 0, .slice none 0 0, .slice none 0 0, .int .i64 0, .slice none 0 0, .slice none 0 0, .slice none 0 0, .slice none 0 0, .int .i64 0, .int .i64 0, .int .i64 0, .int .i64 0, .slice none 0 0, .int .i64 0] 44)) := by
        simp [Instr.alloc, zeroValue, typeInfo, hq, hinf, newVar, newRow, newObj, Value.cells]
        rfl
      unfold Oper.wp execOp
      simp only [ho, hv, Sem.run_bind, Sem.run_pure, Result.andThen_ok]
      exact hK _ _ h
def pl18 (m : Nat) (q : Int) : Pnw := ⟨some ⟨m, 0, none⟩, 3, ⟨[-1, 0, 0], q, 3, 2, 20, 2, 32, 4, 16⟩⟩
theorem pl18_d (m : Nat) {q : Int} (hq : 0 ≤ q ∧ q ≤ 1000) : PlD (pl18 m q).p 1 0 where
  up := ⟨by omega, rfl, by omega, by omega⟩
  l := by show 3 ≤ 12; omega
  q := hq
  b := by show (0 : Int) ≤ 2 ∧ (2 : Int) ≤ 1000; omega
  i := by show (0 : Int) ≤ 16 ∧ (16 : Int) ≤ 64; omega
theorem editAt (H : DeviceCalls) (m : Nat) (q : Int) (hq : 0 ≤ q ∧ q ≤ 1000) (x : Dw) (k u : Int) (s : ByteArray) (w : World) (hT : inE.Sl w (some ⟨m, 0, none⟩) [-1, 0, 0]) (hx : x.ok w) {X Z : Dv} {n : Int} (hv : x.v = X) (hr : DvR X) (hn : X.node = 1) (hk : i64 k) (hu : i64 u) (hs : s.size ≤ 9223372036854775807) (he : editD q 16 X k u s = (Z, n)) :
    Calls Tryz.prog 9 #[.agg #[.slice (some ⟨m, 0, none⟩) 3 3, .int .i64 q, .int .i64 3, .int .i64 2, .int .i64 20, .int .i64 2, .int .i64 32, .int .i64 4, .int .i64 16], .agg #[.int .i64 x.node, .int .i64 x.boot, .int .i64 x.above, .int .i64 x.pos, .int .i64 x.y.t, .int .i64 x.pos, .slice none 0 0, .int .i64 x.q.f, .int .i64 x.q.g, .slice x.qA x.q.os.length x.qc, .slice none 0 0, .slice none 0 0, .slice none 0 0, .slice none 0 0, .slice x.y.bA x.y.base.length x.y.bc, .int .i64 x.y.t, .slice x.y.oA x.y.ops.length x.y.oc, .slice x.y.uA x.y.us.length x.y.uc, .slice x.y.wA x.y.now.length x.y.wc, .slice x.cA x.l.length x.cc, .int .i64 x.inc, .int .i64 x.mode, .int .i64 x.clock, .int .i64 x.sent, .slice x.pA 0 x.pc, .int .i64 x.late], .agg #[.int .i64 k, .int .i64 u, .string s]] w fun e w' => ∃ z : Dw, e = .returned (.tuple #[.agg #[.int .i64 z.node, .int .i64 z.boot, .int .i64 z.above, .int .i64 z.pos, .int .i64 z.y.t, .int .i64 z.pos, .slice none 0 0, .int .i64 z.q.f, .int .i64 z.q.g, .slice z.qA z.q.os.length z.qc, .slice none 0 0, .slice none 0 0, .slice none 0 0, .slice none 0 0, .slice z.y.bA z.y.base.length z.y.bc, .int .i64 z.y.t, .slice z.y.oA z.y.ops.length z.y.oc, .slice z.y.uA z.y.us.length z.y.uc, .slice z.y.wA z.y.now.length z.y.wc, .slice z.cA z.l.length z.cc, .int .i64 z.inc, .int .i64 z.mode, .int .i64 z.clock, .int .i64 z.sent, .slice z.pA 0 z.pc, .int .i64 z.late], .int .i64 n]) ∧ z.ok w' ∧ z.v = Z ∧ Below w.heap.size w w' := by
  subst hv
  have h := H.edit (pl18 m q) x ⟨k, u, s⟩ w 0 (by rw [show x.node = 1 from hn]; exact pl18_d m hq) hr hk hu hs hT hx
  refine h.mono ?_
  rintro e w' ⟨z, n', rfl, hz, he', hb⟩
  have he2 : editD q 16 x.v k u s = (z.v, n') := he'
  rw [he] at he2
  injection he2 with h1 h2
  subst h2
  exact ⟨z, rfl, hz, h1.symm, hb⟩
theorem takeAt (H : DeviceCalls) (m : Nat) (q : Int) (hq : 0 ≤ q ∧ q ≤ 1000) (x : Dw) (f : Fw) (w : World) (hT : inE.Sl w (some ⟨m, 0, none⟩) [-1, 0, 0]) (hx : x.ok w) (hf : f.ok w) {X Z : Dv} {n : Int} (hv : x.v = X) (hr : DvR X) (hn : X.node = 1) (hfd : FrD f.x) (he : takeD 0 X f.x = (Z, n)) :
    Calls Tryz.prog 13 #[.agg #[.slice (some ⟨m, 0, none⟩) 3 3, .int .i64 q, .int .i64 3, .int .i64 2, .int .i64 20, .int .i64 2, .int .i64 32, .int .i64 4, .int .i64 16], .agg #[.int .i64 x.node, .int .i64 x.boot, .int .i64 x.above, .int .i64 x.pos, .int .i64 x.y.t, .int .i64 x.pos, .slice none 0 0, .int .i64 x.q.f, .int .i64 x.q.g, .slice x.qA x.q.os.length x.qc, .slice none 0 0, .slice none 0 0, .slice none 0 0, .slice none 0 0, .slice x.y.bA x.y.base.length x.y.bc, .int .i64 x.y.t, .slice x.y.oA x.y.ops.length x.y.oc, .slice x.y.uA x.y.us.length x.y.uc, .slice x.y.wA x.y.now.length x.y.wc, .slice x.cA x.l.length x.cc, .int .i64 x.inc, .int .i64 x.mode, .int .i64 x.clock, .int .i64 x.sent, .slice x.pA 0 x.pc, .int .i64 x.late], .agg #[.int .i64 f.x.a, .int .i64 f.x.b, .int .i64 f.x.boot, .int .i64 f.x.first, .slice f.oA f.x.os.length f.oc, .int .i64 f.x.pos, .slice f.rA f.x.rs.length f.rc, .int .i64 f.x.start, .slice f.eA f.x.es.length f.ec, .int .i64 f.x.ack, .int .i64 f.x.grant, .int .i64 f.x.s, .int .i64 f.x.t, .slice f.gA f.x.gs.length f.gc]] w fun e w' => ∃ z : Dw, e = .returned (.tuple #[.agg #[.int .i64 z.node, .int .i64 z.boot, .int .i64 z.above, .int .i64 z.pos, .int .i64 z.y.t, .int .i64 z.pos, .slice none 0 0, .int .i64 z.q.f, .int .i64 z.q.g, .slice z.qA z.q.os.length z.qc, .slice none 0 0, .slice none 0 0, .slice none 0 0, .slice none 0 0, .slice z.y.bA z.y.base.length z.y.bc, .int .i64 z.y.t, .slice z.y.oA z.y.ops.length z.y.oc, .slice z.y.uA z.y.us.length z.y.uc, .slice z.y.wA z.y.now.length z.y.wc, .slice z.cA z.l.length z.cc, .int .i64 z.inc, .int .i64 z.mode, .int .i64 z.clock, .int .i64 z.sent, .slice z.pA 0 z.pc, .int .i64 z.late], .int .i64 n]) ∧ z.ok w' ∧ z.v = Z ∧ Below w.heap.size w w' := by
  subst hv
  have h := H.take (pl18 m q) x f w 0 (by rw [show x.node = 1 from hn]; exact pl18_d m hq) hr hfd hT hx hf
  refine h.mono ?_
  rintro e w' ⟨z, n', rfl, hz, he', hb⟩
  rw [he] at he'
  injection he' with h1 h2
  subst h2
  exact ⟨z, rfl, hz, h1.symm, hb⟩
theorem readAt (H : DeviceCalls) (x : Dw) (w : World) (hx : x.ok w) {X : Dv} (hv : x.v = X) (hr : DvR X) (hm : X.mode = 1) {n : Nat} (hn : (showV X.y.now).length = n) :
    Calls Tryz.prog 15 #[.agg #[.int .i64 x.node, .int .i64 x.boot, .int .i64 x.above, .int .i64 x.pos, .int .i64 x.y.t, .int .i64 x.pos, .slice none 0 0, .int .i64 x.q.f, .int .i64 x.q.g, .slice x.qA x.q.os.length x.qc, .slice none 0 0, .slice none 0 0, .slice none 0 0, .slice none 0 0, .slice x.y.bA x.y.base.length x.y.bc, .int .i64 x.y.t, .slice x.y.oA x.y.ops.length x.y.oc, .slice x.y.uA x.y.us.length x.y.uc, .slice x.y.wA x.y.now.length x.y.wc, .slice x.cA x.l.length x.cc, .int .i64 x.inc, .int .i64 x.mode, .int .i64 x.clock, .int .i64 x.sent, .slice x.pA 0 x.pc, .int .i64 x.late]] w fun e w' => ∃ (A : Option Addr) (c : Nat), e = .returned (.tuple #[.slice A n c, .bool true]) ∧ SlV seE w' A c (showV X.y.now) ∧ Below w.heap.size w w' := by
  subst hv
  refine (H.read x w hr hx).mono ?_
  rintro e w' ⟨A, c, l, b, rfl, hS, h, hb⟩
  rcases h with ⟨_, rfl, rfl⟩ | ⟨h, _, _⟩
  · exact ⟨A, c, by rw [← hn]; rfl, hS, hb⟩
  · exact absurd hm h
theorem leaveAt (H : DeviceCalls) (x : Dw) (w : World) (hx : x.ok w) {X : Dv} (hv : x.v = X) (hr : DvR X) :
    Calls Tryz.prog 20 #[.agg #[.int .i64 x.node, .int .i64 x.boot, .int .i64 x.above, .int .i64 x.pos, .int .i64 x.y.t, .int .i64 x.pos, .slice none 0 0, .int .i64 x.q.f, .int .i64 x.q.g, .slice x.qA x.q.os.length x.qc, .slice none 0 0, .slice none 0 0, .slice none 0 0, .slice none 0 0, .slice x.y.bA x.y.base.length x.y.bc, .int .i64 x.y.t, .slice x.y.oA x.y.ops.length x.y.oc, .slice x.y.uA x.y.us.length x.y.uc, .slice x.y.wA x.y.now.length x.y.wc, .slice x.cA x.l.length x.cc, .int .i64 x.inc, .int .i64 x.mode, .int .i64 x.clock, .int .i64 x.sent, .slice x.pA 0 x.pc, .int .i64 x.late]] w fun e w' => ∃ z : Dw, e = .returned (.agg #[.int .i64 z.node, .int .i64 z.boot, .int .i64 z.above, .int .i64 z.pos, .int .i64 z.y.t, .int .i64 z.pos, .slice none 0 0, .int .i64 z.q.f, .int .i64 z.q.g, .slice z.qA z.q.os.length z.qc, .slice none 0 0, .slice none 0 0, .slice none 0 0, .slice none 0 0, .slice z.y.bA z.y.base.length z.y.bc, .int .i64 z.y.t, .slice z.y.oA z.y.ops.length z.y.oc, .slice z.y.uA z.y.us.length z.y.uc, .slice z.y.wA z.y.now.length z.y.wc, .slice z.cA z.l.length z.cc, .int .i64 z.inc, .int .i64 z.mode, .int .i64 z.clock, .int .i64 z.sent, .slice z.pA 0 z.pc, .int .i64 z.late]) ∧ z.ok w' ∧ z.v = leaveD X ∧ Below w.heap.size w w' := by
  subst hv
  exact H.leave x w hr hx
theorem frameAt (H : DeviceCalls) (m : Nat) (q : Int) (hq : 0 ≤ q ∧ q ≤ 1000) (x : Dw) (beat : Int) (hb : i64 beat) (w : World) (hT : inE.Sl w (some ⟨m, 0, none⟩) [-1, 0, 0]) (hx : x.ok w) {X : Dv} (hv : x.v = X) (hr : DvR X) (hn : X.node = 1) :
    Calls Tryz.prog 19 #[.agg #[.slice (some ⟨m, 0, none⟩) 3 3, .int .i64 q, .int .i64 3, .int .i64 2, .int .i64 20, .int .i64 2, .int .i64 32, .int .i64 4, .int .i64 16], .agg #[.int .i64 x.node, .int .i64 x.boot, .int .i64 x.above, .int .i64 x.pos, .int .i64 x.y.t, .int .i64 x.pos, .slice none 0 0, .int .i64 x.q.f, .int .i64 x.q.g, .slice x.qA x.q.os.length x.qc, .slice none 0 0, .slice none 0 0, .slice none 0 0, .slice none 0 0, .slice x.y.bA x.y.base.length x.y.bc, .int .i64 x.y.t, .slice x.y.oA x.y.ops.length x.y.oc, .slice x.y.uA x.y.us.length x.y.uc, .slice x.y.wA x.y.now.length x.y.wc, .slice x.cA x.l.length x.cc, .int .i64 x.inc, .int .i64 x.mode, .int .i64 x.clock, .int .i64 x.sent, .slice x.pA 0 x.pc, .int .i64 x.late], .int .i64 beat] w fun e w' => ∃ f : Fw, e = .returned (.agg #[.int .i64 f.x.a, .int .i64 f.x.b, .int .i64 f.x.boot, .int .i64 f.x.first, .slice f.oA f.x.os.length f.oc, .int .i64 f.x.pos, .slice f.rA f.x.rs.length f.rc, .int .i64 f.x.start, .slice f.eA f.x.es.length f.ec, .int .i64 f.x.ack, .int .i64 f.x.grant, .int .i64 f.x.s, .int .i64 f.x.t, .slice f.gA f.x.gs.length f.gc]) ∧ f.ok w' ∧ f.x = frameD 0 2 X beat ∧ Below w.heap.size w w' := by
  subst hv
  exact H.frame (pl18 m q) x beat w 0 (by rw [show x.node = 1 from hn]; exact pl18_d m hq) hr hb hT hx
theorem vectorAt (H : DeviceCalls) (x : Dw) (w : World) (hx : x.ok w) {X : Dv} (hv : x.v = X) (hr : DvR X) {n : Nat} (hn : (vectorD X).length = n) :
    Calls Tryz.prog 14 #[.agg #[.int .i64 x.node, .int .i64 x.boot, .int .i64 x.above, .int .i64 x.pos, .int .i64 x.y.t, .int .i64 x.pos, .slice none 0 0, .int .i64 x.q.f, .int .i64 x.q.g, .slice x.qA x.q.os.length x.qc, .slice none 0 0, .slice none 0 0, .slice none 0 0, .slice none 0 0, .slice x.y.bA x.y.base.length x.y.bc, .int .i64 x.y.t, .slice x.y.oA x.y.ops.length x.y.oc, .slice x.y.uA x.y.us.length x.y.uc, .slice x.y.wA x.y.now.length x.y.wc, .slice x.cA x.l.length x.cc, .int .i64 x.inc, .int .i64 x.mode, .int .i64 x.clock, .int .i64 x.sent, .slice x.pA 0 x.pc, .int .i64 x.late]] w fun e w' => ∃ (A : Option Addr) (c : Nat), e = .returned (.slice A n c) ∧ SlV cnE w' A c (vectorD X) ∧ Below w.heap.size w w' := by
  subst hv
  refine (H.vector x w hr hx).mono ?_
  rintro e w' ⟨A, c, rfl, hS, hb⟩
  exact ⟨A, c, by rw [← hn], hS, hb⟩
theorem newAt (H : DeviceCalls) (w : World) : Calls Tryz.prog 8 #[.int .i64 1] w fun e w' => ∃ z : Dw, e = .returned (.agg #[.int .i64 z.node, .int .i64 z.boot, .int .i64 z.above, .int .i64 z.pos, .int .i64 z.y.t, .int .i64 z.pos, .slice none 0 0, .int .i64 z.q.f, .int .i64 z.q.g, .slice z.qA z.q.os.length z.qc, .slice none 0 0, .slice none 0 0, .slice none 0 0, .slice none 0 0, .slice z.y.bA z.y.base.length z.y.bc, .int .i64 z.y.t, .slice z.y.oA z.y.ops.length z.y.oc, .slice z.y.uA z.y.us.length z.y.uc, .slice z.y.wA z.y.now.length z.y.wc, .slice z.cA z.l.length z.cc, .int .i64 z.inc, .int .i64 z.mode, .int .i64 z.clock, .int .i64 z.sent, .slice z.pA 0 z.pc, .int .i64 z.late]) ∧ z.ok w' ∧ z.v = newD 1 ∧ Below w.heap.size w w' :=
  H.new 1 w (by omega)
def PnS (n m : Nat) (q : Int) (w : World) : Prop := w.cell? ⟨n, 0, none⟩ = some (.slice (some ⟨m, 0, none⟩) 3 3) ∧ w.cell? ⟨n, 1, none⟩ = some (.int .i64 q) ∧ w.cell? ⟨n, 2, none⟩ = some (.int .i64 3) ∧ w.cell? ⟨n, 3, none⟩ = some (.int .i64 2) ∧ w.cell? ⟨n, 4, none⟩ = some (.int .i64 20) ∧ w.cell? ⟨n, 5, none⟩ = some (.int .i64 2) ∧ w.cell? ⟨n, 6, none⟩ = some (.int .i64 32) ∧ w.cell? ⟨n, 7, none⟩ = some (.int .i64 4) ∧ w.cell? ⟨n, 8, none⟩ = some (.int .i64 16)
theorem pnS_of {n m : Nat} {q : Int} {w : World} (h : pnE.In w n (pl18 m q)) : PnS n m q w := pnIn9 h
/-- A state laid, as a step of a region that draws. -/
theorem step_alloc_dv {ops : Array Oper} {o : Oper} {a : Act} {w : World} {K : Act → World → Prop} {Q : Exit → Act → World → Prop} {E : Prop} (hgd : o.guard = none) (ho : o.op = .alloc 44)
    (h : K (a.put o.dst (.pointer (some ⟨w.heap.size, 0, none⟩))) (w.alloc (.cells #[.int .i64 0, .int .i64 0, .int .i64 0, .int .i64 0, .int .i64 0, .int .i64 0, .slice none 0 0, .int .i64 0, .int .i64 0, .slice none 0 0, .slice none 0 0, .slice none 0 0, .slice none 0 0, .slice none 0 0, .slice none 0 0, .int .i64 0, .slice none 0 0, .slice none 0 0, .slice none 0 0, .slice none 0 0, .int .i64 0, .int .i64 0, .int .i64 0, .int .i64 0, .slice none 0 0, .int .i64 0] 44))) : if Region.wanted o (yielded ops a.tmps) = true then Oper.wp Tryz.prog o a w K Q else E := by
  have hw : Region.wanted o (yielded ops a.tmps) = true := by simp [Region.wanted, hgd]
  rw [if_pos hw]
  have hR := st_zero18
  cases hq : Tryz.prog.info? 44 with
  | none => simp [hq] at hR
  | some inf =>
    have hinf : inf.zero = some (.agg #[.int .i64 0, .int .i64 0, .int .i64 0, .int .i64 0, .int .i64 0, .int .i64 0, .slice none 0 0, .int .i64 0, .int .i64 0, .slice none 0 0, .slice none 0 0, .slice none 0 0, .slice none 0 0, .slice none 0 0, .slice none 0 0, .int .i64 0, .slice none 0 0, .slice none 0 0, .slice none 0 0, .slice none 0 0, .int .i64 0, .int .i64 0, .int .i64 0, .int .i64 0, .slice none 0 0, .int .i64 0]) := by simpa [hq] using hR
    have hv : (Instr.alloc 44 true (.tuple #[])).run Tryz.prog w = .ok (.pointer (some ⟨w.heap.size, 0, none⟩)) (w.alloc (.cells #[.int .i64 0, .int .i64 0, .int .i64 0, .int .i64 0, .int .i64 0, .int .i64 0, .slice none 0 0, .int .i64 0, .int .i64 0, .slice none 0 0, .slice none 0 0, .slice none 0 0, .slice none 0 0, .slice none 0 0, .slice none 0 0, .int .i64 0, .slice none 0 0, .slice none 0 0, .slice none 0 0, .slice none 0 0, .int .i64 0, .int .i64 0, .int .i64 0, .int .i64 0, .slice none 0 0, .int .i64 0] 44)) := by
      simp [Instr.alloc, zeroValue, typeInfo, hq, hinf, newVar, newRow, newObj, Value.cells]
      rfl
    unfold Oper.wp execOp
    simp only [ho, hv, Sem.run_bind, Sem.run_pure, Result.andThen_ok]
    exact h
theorem slOne18 {α : Type} {E : El α} (w : World) (x : α) (cs : Array Value) (hc : cs = (E.c x).toArray) : SlV E (w.alloc (.cells cs E.e)) (some ⟨w.heap.size, 0, none⟩) 1 [x] :=
  ⟨(El.In.new (E := E) w x _ hc).sl, (fun e => by cases e), Nat.le_refl _⟩
theorem inSl_lt {w : World} {m : Nat} {l : List Int} (h : inE.Sl w (some ⟨m, 0, none⟩) l) (h0 : 0 < l.length) : m < w.heap.size := by
  obtain ⟨b, off, e, hb, _⟩ := h h0
  injection e with e
  injection e with e
  omega
theorem inSl_keep {w w' : World} {m n : Nat} {l : List Int} (h : inE.Sl w (some ⟨m, 0, none⟩) l) (hne : m ≠ n) (hg : w.grownBy w' (some n)) : inE.Sl w' (some ⟨m, 0, none⟩) l := h.keep hg (fun a e e2 => by
  have e1 := Option.some.inj e
  subst e1
  exact hne (Option.some.inj e2))
end Go.Proofs.YtdcjffajmckleaaGreatDoor

/- The law DeviceLeaves. -/
namespace Go.Proofs.YtdcjffajmckleaaGreatDoor
open Go.RowKit Nam Cod Tre Pst Pln

theorem El.exec_load {α : Type} {E : El α} {P : Program} (R : El.Row E P) {o : Oper} {a : Act} (x : Operand) (ho : o.op = .load E.e x) {b off : Nat} (hx : a.eval x = .pointer (some ⟨b, off, none⟩)) {w : World} {p : α} (h : E.At w b off p) (cs : Array Value) (hc : cs = (E.c p).toArray) : (execOp a.eval o).run P w = .ok (.value (.agg cs)) w := by
  subst hc
  unfold execOp
  simp only [ho, hx, Instr.loadAt, Instr.sureAddr, Sem.run_bind, Sem.run_pure, Result.andThen_ok, El.run_load R h]
end Go.Proofs.YtdcjffajmckleaaGreatDoor

/- A struct loaded whole by a guarded operation. -/
namespace Go.Proofs.YtdcjffajmckleaaGreatDoor
open Go.RowKit Nam Cod Tre Pst Pln

theorem El.load_if {α : Type} {E : El α} {P : Program} (R : El.Row E P) {ops : Array Oper} {rest : List Oper} {o : Oper} {a : Act} {w : World} {Q : Exit → Act → World → Prop} (hw : Region.wanted o (yielded ops a.tmps) = true) (x : Operand) (ho : o.op = .load E.e x)
    (b off : Nat) (hx : a.eval x = .pointer (some ⟨b, off, none⟩)) (p : α) (hg : E.At w b off p) (cs : Array Value) (hc : cs = (E.c p).toArray)
    (h : wpList P ops Q rest (a.put o.dst (.agg cs)) w) : wpList P ops Q (o :: rest) a w :=
  BigFrame.wpList_want hw fun _ hK => El.wp_load R x ho b off hx p hg cs hc (hK _ _ h)
end Go.Proofs.YtdcjffajmckleaaGreatDoor

/- The law's awake. -/
namespace Go.Proofs.YtdcjffajmckleaaGreatDoor
open Go.RowKit Nam Cod Tre Pst Pln

set_option maxRecDepth 100000 in
set_option maxHeartbeats 20000000 in
theorem awake18_any (H : DeviceCalls) (w : World) : Calls Tryz.prog 6 #[] w fun e w' => e = .returned (.bool true) ∧ Below w.heap.size w w' := by
  go_enter Tryz.func6, Tryz.ntmps6
  go_wp2_with fail
  refine (some18_any w).mono ?_
  rintro e w1 ⟨m, rfl, hT, hB⟩
  have hP : pnE.In (w1.alloc (.cells #[.slice (some ⟨m, 0, none⟩) 3 3, .int .i64 2, .int .i64 3, .int .i64 2, .int .i64 20, .int .i64 2, .int .i64 32, .int .i64 4, .int .i64 16] 26)) w1.heap.size (pl18 m 2) := El.In.new (E := pnE) w1 (pl18 m 2) _ rfl
  have hal := below_alloc (Below.refl w1.heap.size w1) (.cells #[.slice (some ⟨m, 0, none⟩) 3 3, .int .i64 2, .int .i64 3, .int .i64 2, .int .i64 20, .int .i64 2, .int .i64 32, .int .i64 4, .int .i64 16] 26)
  replace hT := hT.below hal
  replace hB := below_then hB hal
  clear hal
  go_upto_region 2 with fail
  generalize w1.alloc (.cells #[.slice (some ⟨m, 0, none⟩) 3 3, .int .i64 2, .int .i64 3, .int .i64 2, .int .i64 20, .int .i64 2, .int .i64 32, .int .i64 4, .int .i64 16] 26) = W at *
  generalize w1.heap.size = n1 at *
  have hn1 := hP.lt
  apply wp_mergeE (fun x z kk w' => z.v = sA ∧ (w.heap.size ≤ kk ∧ n1 < kk ∧ m < kk) ∧ dvE.In w' kk z ∧ z.ok w' ∧ pnE.In w' n1 (pl18 m 2) ∧ inE.Sl w' (some ⟨m, 0, none⟩) [-1, 0, 0] ∧ Below w.heap.size w w')
  · refine region_anyG (S := PnS n1 m 2) 8 (by kernel_rfl) ?_
    have hd : Below W.heap.size W W.drew := (Below.refl _ _).drew
    replace hP : pnE.In W.drew n1 (pl18 m 2) := hP
    replace hT := hT.below hd
    replace hB := hB.drew
    clear hd
    generalize W.drew = V at *
    have hS : PnS n1 m 2 V := pnS_of hP
    refine anyG_take (i := 0) (v := .agg #[.slice (some ⟨m, 0, none⟩) 3 3, .int .i64 2, .int .i64 3, .int .i64 2, .int .i64 20, .int .i64 2, .int .i64 32, .int .i64 4, .int .i64 16]) rfl (by kernel_rfl) (by kernel_rfl) (by kernel_rfl) (by kernel_rfl) (by kernel_rfl) (fun _ _ _ h => h) (Or.inl ⟨by rfl, fun w' hSw => by (obtain ⟨s0, s1, s2, s3, s4, s5, s6, s7, s8⟩ := hSw; go_simp)⟩) hS ?_
    try simp only [Act.put, List.setIfInBounds_toArray, List.set_cons_zero, List.set_cons_succ]
    refine anyG_take (i := 2) (v := .agg #[.int .i64 2, .int .i64 0, .string ⟨#[97]⟩]) rfl (by kernel_rfl) (by kernel_rfl) (by kernel_rfl) (by kernel_rfl) (by kernel_rfl) (fun _ _ _ h => h) (Or.inl ⟨by rfl, fun w' hSw => by (obtain ⟨s0, s1, s2, s3, s4, s5, s6, s7, s8⟩ := hSw; go_simp)⟩) hS ?_
    try simp only [Act.put, List.setIfInBounds_toArray, List.set_cons_zero, List.set_cons_succ]
    refine anyG_step (rs := [1, 7]) (by kernel_rfl) (by simp) ?_
    refine AllG.cons rfl (fun K hK => ?_) (AllG.cons rfl (fun K hK => ?_) AllG.nil)
    · skip
      go_simp
      refine (newAt H _).mono ?_
      rintro e W6 ⟨x, rfl, hx, hvx, hb6⟩
      replace hP := hP.below hb6
      replace hT := hT.below hb6
      replace hB := below_then hB hb6
      try replace hZ := hZ.below hb6
      try replace hnA := Nat.lt_of_lt_of_le hnA hb6.size
      clear hb6
      try go_wp2_with fail
      refine hK.out _ _ (pnS_of hP : PnS n1 m 2 _) ?_
      try simp only [Act.put, List.setIfInBounds_toArray, List.set_cons_zero, List.set_cons_succ]
      clear hK hS
      have hS := pnS_of hP
      refine anyG_step (rs := [3, 7]) (by kernel_rfl) (by simp) ?_
      refine AllG.cons rfl (fun K hK => ?_) (AllG.cons rfl (fun K hK => ?_) AllG.nil)
      · skip
        go_simp
        refine (editAt H m 2 (by omega) x 2 0 ⟨#[97]⟩ _ hT hx hvx (newD_r (by omega)) rfl (by unfold i64; omega) (by unfold i64; omega) (by decide) sA_is).mono ?_
        rintro e W9 ⟨z, rfl, hz, hvz, hb9⟩
        replace hP := hP.below hb9
        replace hT := hT.below hb9
        replace hB := below_then hB hb9
        try replace hZ := hZ.below hb9
        try replace hnA := Nat.lt_of_lt_of_le hnA hb9.size
        clear hb9 hx hvx
        try go_wp2_with fail
        refine hK.out _ _ (pnS_of hP : PnS n1 m 2 _) ?_
        try simp only [Act.put, List.setIfInBounds_toArray, List.set_cons_zero, List.set_cons_succ]
        clear hK hS
        have hS := pnS_of hP
        refine anyG_plain (i := 4) (v := .tuple #[.agg #[.int .i64 z.node, .int .i64 z.boot, .int .i64 z.above, .int .i64 z.pos, .int .i64 z.y.t, .int .i64 z.pos, .slice none 0 0, .int .i64 z.q.f, .int .i64 z.q.g, .slice z.qA z.q.os.length z.qc, .slice none 0 0, .slice none 0 0, .slice none 0 0, .slice none 0 0, .slice z.y.bA z.y.base.length z.y.bc, .int .i64 z.y.t, .slice z.y.oA z.y.ops.length z.y.oc, .slice z.y.uA z.y.us.length z.y.uc, .slice z.y.wA z.y.now.length z.y.wc, .slice z.cA z.l.length z.cc, .int .i64 z.inc, .int .i64 z.mode, .int .i64 z.clock, .int .i64 z.sent, .slice z.pA 0 z.pc, .int .i64 z.late], .int .i64 0]) rfl (by kernel_rfl) (by kernel_rfl) (by kernel_rfl) (by kernel_rfl) (fun _ _ _ h => h) (Or.inl ⟨by rfl, fun w' => by go_simp⟩) (fun _ => hS) ?_
        try simp only [Act.put, List.setIfInBounds_toArray, List.set_cons_zero, List.set_cons_succ]
        refine anyG_plain (i := 5) (v := .agg #[.int .i64 z.node, .int .i64 z.boot, .int .i64 z.above, .int .i64 z.pos, .int .i64 z.y.t, .int .i64 z.pos, .slice none 0 0, .int .i64 z.q.f, .int .i64 z.q.g, .slice z.qA z.q.os.length z.qc, .slice none 0 0, .slice none 0 0, .slice none 0 0, .slice none 0 0, .slice z.y.bA z.y.base.length z.y.bc, .int .i64 z.y.t, .slice z.y.oA z.y.ops.length z.y.oc, .slice z.y.uA z.y.us.length z.y.uc, .slice z.y.wA z.y.now.length z.y.wc, .slice z.cA z.l.length z.cc, .int .i64 z.inc, .int .i64 z.mode, .int .i64 z.clock, .int .i64 z.sent, .slice z.pA 0 z.pc, .int .i64 z.late]) rfl (by kernel_rfl) (by kernel_rfl) (by kernel_rfl) (by kernel_rfl) (fun _ _ _ h => h) (Or.inl ⟨by rfl, fun w' => by go_simp⟩) (fun _ => hS) ?_
        try simp only [Act.put, List.setIfInBounds_toArray, List.set_cons_zero, List.set_cons_succ]
        refine anyG_plain (i := 6) (v := .int .i64 0) rfl (by kernel_rfl) (by kernel_rfl) (by kernel_rfl) (by kernel_rfl) (fun _ _ _ h => h) (Or.inl ⟨by rfl, fun w' => by go_simp⟩) (fun _ => hS) ?_
        try simp only [Act.put, List.setIfInBounds_toArray, List.set_cons_zero, List.set_cons_succ]
        refine anyG_step (rs := [7]) (by kernel_rfl) (by simp) ?_
        refine AllG.cons rfl (fun K hK => ?_) AllG.nil
        have hZ : dvE.In ((W9).alloc (.cells #[.int .i64 0, .int .i64 0, .int .i64 0, .int .i64 0, .int .i64 0, .int .i64 0, .slice none 0 0, .int .i64 0, .int .i64 0, .slice none 0 0, .slice none 0 0, .slice none 0 0, .slice none 0 0, .slice none 0 0, .slice none 0 0, .int .i64 0, .slice none 0 0, .slice none 0 0, .slice none 0 0, .slice none 0 0, .int .i64 0, .int .i64 0, .int .i64 0, .int .i64 0, .slice none 0 0, .int .i64 0] 44)) (W9).heap.size Dw.zero := El.In.new (E := dvE) W9 Dw.zero _ rfl
        have hal := below_alloc (Below.refl (W9).heap.size W9) (.cells #[.int .i64 0, .int .i64 0, .int .i64 0, .int .i64 0, .int .i64 0, .int .i64 0, .slice none 0 0, .int .i64 0, .int .i64 0, .slice none 0 0, .slice none 0 0, .slice none 0 0, .slice none 0 0, .slice none 0 0, .slice none 0 0, .int .i64 0, .slice none 0 0, .slice none 0 0, .slice none 0 0, .slice none 0 0, .int .i64 0, .int .i64 0, .int .i64 0, .int .i64 0, .slice none 0 0, .int .i64 0] 44)
        have hnA : (W9).heap.size < ((W9).alloc (.cells #[.int .i64 0, .int .i64 0, .int .i64 0, .int .i64 0, .int .i64 0, .int .i64 0, .slice none 0 0, .int .i64 0, .int .i64 0, .slice none 0 0, .slice none 0 0, .slice none 0 0, .slice none 0 0, .slice none 0 0, .slice none 0 0, .int .i64 0, .slice none 0 0, .slice none 0 0, .slice none 0 0, .slice none 0 0, .int .i64 0, .int .i64 0, .int .i64 0, .int .i64 0, .slice none 0 0, .int .i64 0] 44)).heap.size := by rw [alloc_size]; omega
        have hnW : w.heap.size ≤ (W9).heap.size := hB.size
        have hn1A : n1 < (W9).heap.size := hP.lt
        have hmA : m < (W9).heap.size := inSl_lt hT (by decide)
        replace hP := hP.below hal
        replace hT := hT.below hal
        replace hB := below_then hB hal
        try replace hx := hx.below hal
        try replace hz := hz.below hal
        clear hal
        refine step_alloc_dv rfl rfl ?_
        refine hK.out _ _ (pnS_of hP : PnS n1 m 2 _) ?_
        try simp only [Act.put, List.setIfInBounds_toArray, List.set_cons_zero, List.set_cons_succ]
        clear hK hS
        have hS := pnS_of hP
        generalize (W9).alloc (.cells #[.int .i64 0, .int .i64 0, .int .i64 0, .int .i64 0, .int .i64 0, .int .i64 0, .slice none 0 0, .int .i64 0, .int .i64 0, .slice none 0 0, .slice none 0 0, .slice none 0 0, .slice none 0 0, .slice none 0 0, .slice none 0 0, .int .i64 0, .slice none 0 0, .slice none 0 0, .slice none 0 0, .slice none 0 0, .int .i64 0, .int .i64 0, .int .i64 0, .int .i64 0, .slice none 0 0, .int .i64 0] 44) = V7 at *
        generalize (W9).heap.size = nA at *
        refine anyG_step (rs := [8]) (by kernel_rfl) (by simp) ?_
        refine AllG.last (n := 8) rfl (fun K hK => ?_)
        refine El.step_store dvRow rfl _ _ rfl nA z #[.int .i64 z.node, .int .i64 z.boot, .int .i64 z.above, .int .i64 z.pos, .int .i64 z.y.t, .int .i64 z.pos, .slice none 0 0, .int .i64 z.q.f, .int .i64 z.q.g, .slice z.qA z.q.os.length z.qc, .slice none 0 0, .slice none 0 0, .slice none 0 0, .slice none 0 0, .slice z.y.bA z.y.base.length z.y.bc, .int .i64 z.y.t, .slice z.y.oA z.y.ops.length z.y.oc, .slice z.y.uA z.y.us.length z.y.uc, .slice z.y.wA z.y.now.length z.y.wc, .slice z.cA z.l.length z.cc, .int .i64 z.inc, .int .i64 z.mode, .int .i64 z.clock, .int .i64 z.sent, .slice z.pA 0 z.pc, .int .i64 z.late] rfl rfl rfl Dw.zero hZ ?_
        refine hK.out _ _ ?_
        try simp only [Act.put, List.setIfInBounds_toArray, List.set_cons_zero, List.set_cons_succ]
        clear hK hS
        refine anyG_plain_after (i := 9) (v := .int .i64 0) rfl (by kernel_rfl) (by kernel_rfl) (by kernel_rfl) (by kernel_rfl) (fun _ _ _ h => h) (Or.inl ⟨by rfl, fun w' => by go_simp⟩) (by kernel_rfl) ?_
        try simp only [Act.put, List.setIfInBounds_toArray, List.set_cons_zero, List.set_cons_succ]
        refine anyG_done (by kernel_rfl) ?_ _
        have hgr := fun (V : World) => by_row V nA #[.int .i64 z.node, .int .i64 z.boot, .int .i64 z.above, .int .i64 z.pos, .int .i64 z.y.t, .int .i64 z.pos, .slice none 0 0, .int .i64 z.q.f, .int .i64 z.q.g, .slice z.qA z.q.os.length z.qc, .slice none 0 0, .slice none 0 0, .slice none 0 0, .slice none 0 0, .slice z.y.bA z.y.base.length z.y.bc, .int .i64 z.y.t, .slice z.y.oA z.y.ops.length z.y.oc, .slice z.y.uA z.y.us.length z.y.uc, .slice z.y.wA z.y.now.length z.y.wc, .slice z.cA z.l.length z.cc, .int .i64 z.inc, .int .i64 z.mode, .int .i64 z.clock, .int .i64 z.sent, .slice z.pA 0 z.pc, .int .i64 z.late]
        exact ⟨x, z, nA, rfl, hvz, ⟨hnW, hn1A, hmA⟩, hZ.set z #[.int .i64 z.node, .int .i64 z.boot, .int .i64 z.above, .int .i64 z.pos, .int .i64 z.y.t, .int .i64 z.pos, .slice none 0 0, .int .i64 z.q.f, .int .i64 z.q.g, .slice z.qA z.q.os.length z.qc, .slice none 0 0, .slice none 0 0, .slice none 0 0, .slice none 0 0, .slice z.y.bA z.y.base.length z.y.bc, .int .i64 z.y.t, .slice z.y.oA z.y.ops.length z.y.oc, .slice z.y.uA z.y.us.length z.y.uc, .slice z.y.wA z.y.now.length z.y.wc, .slice z.cA z.l.length z.cc, .int .i64 z.inc, .int .i64 z.mode, .int .i64 z.clock, .int .i64 z.sent, .slice z.pA 0 z.pc, .int .i64 z.late] rfl, hz.keepB hZ (hgr _), hP.keep (hgr _) (fun e => by have := Option.some.inj e; omega), inSl_keep hT (by omega) (hgr _), below_setRow hB hnW _⟩
      · skip
        have hZ : dvE.In ((W6).alloc (.cells #[.int .i64 0, .int .i64 0, .int .i64 0, .int .i64 0, .int .i64 0, .int .i64 0, .slice none 0 0, .int .i64 0, .int .i64 0, .slice none 0 0, .slice none 0 0, .slice none 0 0, .slice none 0 0, .slice none 0 0, .slice none 0 0, .int .i64 0, .slice none 0 0, .slice none 0 0, .slice none 0 0, .slice none 0 0, .int .i64 0, .int .i64 0, .int .i64 0, .int .i64 0, .slice none 0 0, .int .i64 0] 44)) (W6).heap.size Dw.zero := El.In.new (E := dvE) W6 Dw.zero _ rfl
        have hal := below_alloc (Below.refl (W6).heap.size W6) (.cells #[.int .i64 0, .int .i64 0, .int .i64 0, .int .i64 0, .int .i64 0, .int .i64 0, .slice none 0 0, .int .i64 0, .int .i64 0, .slice none 0 0, .slice none 0 0, .slice none 0 0, .slice none 0 0, .slice none 0 0, .slice none 0 0, .int .i64 0, .slice none 0 0, .slice none 0 0, .slice none 0 0, .slice none 0 0, .int .i64 0, .int .i64 0, .int .i64 0, .int .i64 0, .slice none 0 0, .int .i64 0] 44)
        have hnA : (W6).heap.size < ((W6).alloc (.cells #[.int .i64 0, .int .i64 0, .int .i64 0, .int .i64 0, .int .i64 0, .int .i64 0, .slice none 0 0, .int .i64 0, .int .i64 0, .slice none 0 0, .slice none 0 0, .slice none 0 0, .slice none 0 0, .slice none 0 0, .slice none 0 0, .int .i64 0, .slice none 0 0, .slice none 0 0, .slice none 0 0, .slice none 0 0, .int .i64 0, .int .i64 0, .int .i64 0, .int .i64 0, .slice none 0 0, .int .i64 0] 44)).heap.size := by rw [alloc_size]; omega
        have hnW : w.heap.size ≤ (W6).heap.size := hB.size
        have hn1A : n1 < (W6).heap.size := hP.lt
        have hmA : m < (W6).heap.size := inSl_lt hT (by decide)
        replace hP := hP.below hal
        replace hT := hT.below hal
        replace hB := below_then hB hal
        try replace hx := hx.below hal
        try replace hz := hz.below hal
        clear hal
        refine step_alloc_dv rfl rfl ?_
        refine hK.out _ _ (pnS_of hP : PnS n1 m 2 _) ?_
        try simp only [Act.put, List.setIfInBounds_toArray, List.set_cons_zero, List.set_cons_succ]
        clear hK hS
        have hS := pnS_of hP
        generalize (W6).alloc (.cells #[.int .i64 0, .int .i64 0, .int .i64 0, .int .i64 0, .int .i64 0, .int .i64 0, .slice none 0 0, .int .i64 0, .int .i64 0, .slice none 0 0, .slice none 0 0, .slice none 0 0, .slice none 0 0, .slice none 0 0, .slice none 0 0, .int .i64 0, .slice none 0 0, .slice none 0 0, .slice none 0 0, .slice none 0 0, .int .i64 0, .int .i64 0, .int .i64 0, .int .i64 0, .slice none 0 0, .int .i64 0] 44) = V7 at *
        generalize (W6).heap.size = nA at *
        refine anyG_step (rs := [3]) (by kernel_rfl) (by simp) ?_
        refine AllG.cons rfl (fun K hK => ?_) AllG.nil
        go_simp
        refine (editAt H m 2 (by omega) x 2 0 ⟨#[97]⟩ _ hT hx hvx (newD_r (by omega)) rfl (by unfold i64; omega) (by unfold i64; omega) (by decide) sA_is).mono ?_
        rintro e W9 ⟨z, rfl, hz, hvz, hb9⟩
        replace hP := hP.below hb9
        replace hT := hT.below hb9
        replace hB := below_then hB hb9
        try replace hZ := hZ.below hb9
        try replace hnA := Nat.lt_of_lt_of_le hnA hb9.size
        clear hb9 hx hvx
        try go_wp2_with fail
        refine hK.out _ _ (pnS_of hP : PnS n1 m 2 _) ?_
        try simp only [Act.put, List.setIfInBounds_toArray, List.set_cons_zero, List.set_cons_succ]
        clear hK hS
        have hS := pnS_of hP
        refine anyG_plain (i := 4) (v := .tuple #[.agg #[.int .i64 z.node, .int .i64 z.boot, .int .i64 z.above, .int .i64 z.pos, .int .i64 z.y.t, .int .i64 z.pos, .slice none 0 0, .int .i64 z.q.f, .int .i64 z.q.g, .slice z.qA z.q.os.length z.qc, .slice none 0 0, .slice none 0 0, .slice none 0 0, .slice none 0 0, .slice z.y.bA z.y.base.length z.y.bc, .int .i64 z.y.t, .slice z.y.oA z.y.ops.length z.y.oc, .slice z.y.uA z.y.us.length z.y.uc, .slice z.y.wA z.y.now.length z.y.wc, .slice z.cA z.l.length z.cc, .int .i64 z.inc, .int .i64 z.mode, .int .i64 z.clock, .int .i64 z.sent, .slice z.pA 0 z.pc, .int .i64 z.late], .int .i64 0]) rfl (by kernel_rfl) (by kernel_rfl) (by kernel_rfl) (by kernel_rfl) (fun _ _ _ h => h) (Or.inl ⟨by rfl, fun w' => by go_simp⟩) (fun _ => hS) ?_
        try simp only [Act.put, List.setIfInBounds_toArray, List.set_cons_zero, List.set_cons_succ]
        refine anyG_plain (i := 5) (v := .agg #[.int .i64 z.node, .int .i64 z.boot, .int .i64 z.above, .int .i64 z.pos, .int .i64 z.y.t, .int .i64 z.pos, .slice none 0 0, .int .i64 z.q.f, .int .i64 z.q.g, .slice z.qA z.q.os.length z.qc, .slice none 0 0, .slice none 0 0, .slice none 0 0, .slice none 0 0, .slice z.y.bA z.y.base.length z.y.bc, .int .i64 z.y.t, .slice z.y.oA z.y.ops.length z.y.oc, .slice z.y.uA z.y.us.length z.y.uc, .slice z.y.wA z.y.now.length z.y.wc, .slice z.cA z.l.length z.cc, .int .i64 z.inc, .int .i64 z.mode, .int .i64 z.clock, .int .i64 z.sent, .slice z.pA 0 z.pc, .int .i64 z.late]) rfl (by kernel_rfl) (by kernel_rfl) (by kernel_rfl) (by kernel_rfl) (fun _ _ _ h => h) (Or.inl ⟨by rfl, fun w' => by go_simp⟩) (fun _ => hS) ?_
        try simp only [Act.put, List.setIfInBounds_toArray, List.set_cons_zero, List.set_cons_succ]
        refine anyG_plain (i := 6) (v := .int .i64 0) rfl (by kernel_rfl) (by kernel_rfl) (by kernel_rfl) (by kernel_rfl) (fun _ _ _ h => h) (Or.inl ⟨by rfl, fun w' => by go_simp⟩) (fun _ => hS) ?_
        try simp only [Act.put, List.setIfInBounds_toArray, List.set_cons_zero, List.set_cons_succ]
        refine anyG_step (rs := [8]) (by kernel_rfl) (by simp) ?_
        refine AllG.last (n := 8) rfl (fun K hK => ?_)
        refine El.step_store dvRow rfl _ _ rfl nA z #[.int .i64 z.node, .int .i64 z.boot, .int .i64 z.above, .int .i64 z.pos, .int .i64 z.y.t, .int .i64 z.pos, .slice none 0 0, .int .i64 z.q.f, .int .i64 z.q.g, .slice z.qA z.q.os.length z.qc, .slice none 0 0, .slice none 0 0, .slice none 0 0, .slice none 0 0, .slice z.y.bA z.y.base.length z.y.bc, .int .i64 z.y.t, .slice z.y.oA z.y.ops.length z.y.oc, .slice z.y.uA z.y.us.length z.y.uc, .slice z.y.wA z.y.now.length z.y.wc, .slice z.cA z.l.length z.cc, .int .i64 z.inc, .int .i64 z.mode, .int .i64 z.clock, .int .i64 z.sent, .slice z.pA 0 z.pc, .int .i64 z.late] rfl rfl rfl Dw.zero hZ ?_
        refine hK.out _ _ ?_
        try simp only [Act.put, List.setIfInBounds_toArray, List.set_cons_zero, List.set_cons_succ]
        clear hK hS
        refine anyG_plain_after (i := 9) (v := .int .i64 0) rfl (by kernel_rfl) (by kernel_rfl) (by kernel_rfl) (by kernel_rfl) (fun _ _ _ h => h) (Or.inl ⟨by rfl, fun w' => by go_simp⟩) (by kernel_rfl) ?_
        try simp only [Act.put, List.setIfInBounds_toArray, List.set_cons_zero, List.set_cons_succ]
        refine anyG_done (by kernel_rfl) ?_ _
        have hgr := fun (V : World) => by_row V nA #[.int .i64 z.node, .int .i64 z.boot, .int .i64 z.above, .int .i64 z.pos, .int .i64 z.y.t, .int .i64 z.pos, .slice none 0 0, .int .i64 z.q.f, .int .i64 z.q.g, .slice z.qA z.q.os.length z.qc, .slice none 0 0, .slice none 0 0, .slice none 0 0, .slice none 0 0, .slice z.y.bA z.y.base.length z.y.bc, .int .i64 z.y.t, .slice z.y.oA z.y.ops.length z.y.oc, .slice z.y.uA z.y.us.length z.y.uc, .slice z.y.wA z.y.now.length z.y.wc, .slice z.cA z.l.length z.cc, .int .i64 z.inc, .int .i64 z.mode, .int .i64 z.clock, .int .i64 z.sent, .slice z.pA 0 z.pc, .int .i64 z.late]
        exact ⟨x, z, nA, rfl, hvz, ⟨hnW, hn1A, hmA⟩, hZ.set z #[.int .i64 z.node, .int .i64 z.boot, .int .i64 z.above, .int .i64 z.pos, .int .i64 z.y.t, .int .i64 z.pos, .slice none 0 0, .int .i64 z.q.f, .int .i64 z.q.g, .slice z.qA z.q.os.length z.qc, .slice none 0 0, .slice none 0 0, .slice none 0 0, .slice none 0 0, .slice z.y.bA z.y.base.length z.y.bc, .int .i64 z.y.t, .slice z.y.oA z.y.ops.length z.y.oc, .slice z.y.uA z.y.us.length z.y.uc, .slice z.y.wA z.y.now.length z.y.wc, .slice z.cA z.l.length z.cc, .int .i64 z.inc, .int .i64 z.mode, .int .i64 z.clock, .int .i64 z.sent, .slice z.pA 0 z.pc, .int .i64 z.late] rfl, hz.keepB hZ (hgr _), hP.keep (hgr _) (fun e => by have := Option.some.inj e; omega), inSl_keep hT (by omega) (hgr _), below_setRow hB hnW _⟩
    · skip
      have hZ : dvE.In ((V).alloc (.cells #[.int .i64 0, .int .i64 0, .int .i64 0, .int .i64 0, .int .i64 0, .int .i64 0, .slice none 0 0, .int .i64 0, .int .i64 0, .slice none 0 0, .slice none 0 0, .slice none 0 0, .slice none 0 0, .slice none 0 0, .slice none 0 0, .int .i64 0, .slice none 0 0, .slice none 0 0, .slice none 0 0, .slice none 0 0, .int .i64 0, .int .i64 0, .int .i64 0, .int .i64 0, .slice none 0 0, .int .i64 0] 44)) (V).heap.size Dw.zero := El.In.new (E := dvE) V Dw.zero _ rfl
      have hal := below_alloc (Below.refl (V).heap.size V) (.cells #[.int .i64 0, .int .i64 0, .int .i64 0, .int .i64 0, .int .i64 0, .int .i64 0, .slice none 0 0, .int .i64 0, .int .i64 0, .slice none 0 0, .slice none 0 0, .slice none 0 0, .slice none 0 0, .slice none 0 0, .slice none 0 0, .int .i64 0, .slice none 0 0, .slice none 0 0, .slice none 0 0, .slice none 0 0, .int .i64 0, .int .i64 0, .int .i64 0, .int .i64 0, .slice none 0 0, .int .i64 0] 44)
      have hnA : (V).heap.size < ((V).alloc (.cells #[.int .i64 0, .int .i64 0, .int .i64 0, .int .i64 0, .int .i64 0, .int .i64 0, .slice none 0 0, .int .i64 0, .int .i64 0, .slice none 0 0, .slice none 0 0, .slice none 0 0, .slice none 0 0, .slice none 0 0, .slice none 0 0, .int .i64 0, .slice none 0 0, .slice none 0 0, .slice none 0 0, .slice none 0 0, .int .i64 0, .int .i64 0, .int .i64 0, .int .i64 0, .slice none 0 0, .int .i64 0] 44)).heap.size := by rw [alloc_size]; omega
      have hnW : w.heap.size ≤ (V).heap.size := hB.size
      have hn1A : n1 < (V).heap.size := hP.lt
      have hmA : m < (V).heap.size := inSl_lt hT (by decide)
      replace hP := hP.below hal
      replace hT := hT.below hal
      replace hB := below_then hB hal
      try replace hx := hx.below hal
      try replace hz := hz.below hal
      clear hal
      refine step_alloc_dv rfl rfl ?_
      refine hK.out _ _ (pnS_of hP : PnS n1 m 2 _) ?_
      try simp only [Act.put, List.setIfInBounds_toArray, List.set_cons_zero, List.set_cons_succ]
      clear hK hS
      have hS := pnS_of hP
      generalize (V).alloc (.cells #[.int .i64 0, .int .i64 0, .int .i64 0, .int .i64 0, .int .i64 0, .int .i64 0, .slice none 0 0, .int .i64 0, .int .i64 0, .slice none 0 0, .slice none 0 0, .slice none 0 0, .slice none 0 0, .slice none 0 0, .slice none 0 0, .int .i64 0, .slice none 0 0, .slice none 0 0, .slice none 0 0, .slice none 0 0, .int .i64 0, .int .i64 0, .int .i64 0, .int .i64 0, .slice none 0 0, .int .i64 0] 44) = V7 at *
      generalize (V).heap.size = nA at *
      refine anyG_step (rs := [1]) (by kernel_rfl) (by simp) ?_
      refine AllG.cons rfl (fun K hK => ?_) AllG.nil
      go_simp
      refine (newAt H _).mono ?_
      rintro e W6 ⟨x, rfl, hx, hvx, hb6⟩
      replace hP := hP.below hb6
      replace hT := hT.below hb6
      replace hB := below_then hB hb6
      try replace hZ := hZ.below hb6
      try replace hnA := Nat.lt_of_lt_of_le hnA hb6.size
      clear hb6
      try go_wp2_with fail
      refine hK.out _ _ (pnS_of hP : PnS n1 m 2 _) ?_
      try simp only [Act.put, List.setIfInBounds_toArray, List.set_cons_zero, List.set_cons_succ]
      clear hK hS
      have hS := pnS_of hP
      refine anyG_step (rs := [3]) (by kernel_rfl) (by simp) ?_
      refine AllG.cons rfl (fun K hK => ?_) AllG.nil
      go_simp
      refine (editAt H m 2 (by omega) x 2 0 ⟨#[97]⟩ _ hT hx hvx (newD_r (by omega)) rfl (by unfold i64; omega) (by unfold i64; omega) (by decide) sA_is).mono ?_
      rintro e W9 ⟨z, rfl, hz, hvz, hb9⟩
      replace hP := hP.below hb9
      replace hT := hT.below hb9
      replace hB := below_then hB hb9
      try replace hZ := hZ.below hb9
      try replace hnA := Nat.lt_of_lt_of_le hnA hb9.size
      clear hb9 hx hvx
      try go_wp2_with fail
      refine hK.out _ _ (pnS_of hP : PnS n1 m 2 _) ?_
      try simp only [Act.put, List.setIfInBounds_toArray, List.set_cons_zero, List.set_cons_succ]
      clear hK hS
      have hS := pnS_of hP
      refine anyG_plain (i := 4) (v := .tuple #[.agg #[.int .i64 z.node, .int .i64 z.boot, .int .i64 z.above, .int .i64 z.pos, .int .i64 z.y.t, .int .i64 z.pos, .slice none 0 0, .int .i64 z.q.f, .int .i64 z.q.g, .slice z.qA z.q.os.length z.qc, .slice none 0 0, .slice none 0 0, .slice none 0 0, .slice none 0 0, .slice z.y.bA z.y.base.length z.y.bc, .int .i64 z.y.t, .slice z.y.oA z.y.ops.length z.y.oc, .slice z.y.uA z.y.us.length z.y.uc, .slice z.y.wA z.y.now.length z.y.wc, .slice z.cA z.l.length z.cc, .int .i64 z.inc, .int .i64 z.mode, .int .i64 z.clock, .int .i64 z.sent, .slice z.pA 0 z.pc, .int .i64 z.late], .int .i64 0]) rfl (by kernel_rfl) (by kernel_rfl) (by kernel_rfl) (by kernel_rfl) (fun _ _ _ h => h) (Or.inl ⟨by rfl, fun w' => by go_simp⟩) (fun _ => hS) ?_
      try simp only [Act.put, List.setIfInBounds_toArray, List.set_cons_zero, List.set_cons_succ]
      refine anyG_plain (i := 5) (v := .agg #[.int .i64 z.node, .int .i64 z.boot, .int .i64 z.above, .int .i64 z.pos, .int .i64 z.y.t, .int .i64 z.pos, .slice none 0 0, .int .i64 z.q.f, .int .i64 z.q.g, .slice z.qA z.q.os.length z.qc, .slice none 0 0, .slice none 0 0, .slice none 0 0, .slice none 0 0, .slice z.y.bA z.y.base.length z.y.bc, .int .i64 z.y.t, .slice z.y.oA z.y.ops.length z.y.oc, .slice z.y.uA z.y.us.length z.y.uc, .slice z.y.wA z.y.now.length z.y.wc, .slice z.cA z.l.length z.cc, .int .i64 z.inc, .int .i64 z.mode, .int .i64 z.clock, .int .i64 z.sent, .slice z.pA 0 z.pc, .int .i64 z.late]) rfl (by kernel_rfl) (by kernel_rfl) (by kernel_rfl) (by kernel_rfl) (fun _ _ _ h => h) (Or.inl ⟨by rfl, fun w' => by go_simp⟩) (fun _ => hS) ?_
      try simp only [Act.put, List.setIfInBounds_toArray, List.set_cons_zero, List.set_cons_succ]
      refine anyG_plain (i := 6) (v := .int .i64 0) rfl (by kernel_rfl) (by kernel_rfl) (by kernel_rfl) (by kernel_rfl) (fun _ _ _ h => h) (Or.inl ⟨by rfl, fun w' => by go_simp⟩) (fun _ => hS) ?_
      try simp only [Act.put, List.setIfInBounds_toArray, List.set_cons_zero, List.set_cons_succ]
      refine anyG_step (rs := [8]) (by kernel_rfl) (by simp) ?_
      refine AllG.last (n := 8) rfl (fun K hK => ?_)
      refine El.step_store dvRow rfl _ _ rfl nA z #[.int .i64 z.node, .int .i64 z.boot, .int .i64 z.above, .int .i64 z.pos, .int .i64 z.y.t, .int .i64 z.pos, .slice none 0 0, .int .i64 z.q.f, .int .i64 z.q.g, .slice z.qA z.q.os.length z.qc, .slice none 0 0, .slice none 0 0, .slice none 0 0, .slice none 0 0, .slice z.y.bA z.y.base.length z.y.bc, .int .i64 z.y.t, .slice z.y.oA z.y.ops.length z.y.oc, .slice z.y.uA z.y.us.length z.y.uc, .slice z.y.wA z.y.now.length z.y.wc, .slice z.cA z.l.length z.cc, .int .i64 z.inc, .int .i64 z.mode, .int .i64 z.clock, .int .i64 z.sent, .slice z.pA 0 z.pc, .int .i64 z.late] rfl rfl rfl Dw.zero hZ ?_
      refine hK.out _ _ ?_
      try simp only [Act.put, List.setIfInBounds_toArray, List.set_cons_zero, List.set_cons_succ]
      clear hK hS
      refine anyG_plain_after (i := 9) (v := .int .i64 0) rfl (by kernel_rfl) (by kernel_rfl) (by kernel_rfl) (by kernel_rfl) (fun _ _ _ h => h) (Or.inl ⟨by rfl, fun w' => by go_simp⟩) (by kernel_rfl) ?_
      try simp only [Act.put, List.setIfInBounds_toArray, List.set_cons_zero, List.set_cons_succ]
      refine anyG_done (by kernel_rfl) ?_ _
      have hgr := fun (V : World) => by_row V nA #[.int .i64 z.node, .int .i64 z.boot, .int .i64 z.above, .int .i64 z.pos, .int .i64 z.y.t, .int .i64 z.pos, .slice none 0 0, .int .i64 z.q.f, .int .i64 z.q.g, .slice z.qA z.q.os.length z.qc, .slice none 0 0, .slice none 0 0, .slice none 0 0, .slice none 0 0, .slice z.y.bA z.y.base.length z.y.bc, .int .i64 z.y.t, .slice z.y.oA z.y.ops.length z.y.oc, .slice z.y.uA z.y.us.length z.y.uc, .slice z.y.wA z.y.now.length z.y.wc, .slice z.cA z.l.length z.cc, .int .i64 z.inc, .int .i64 z.mode, .int .i64 z.clock, .int .i64 z.sent, .slice z.pA 0 z.pc, .int .i64 z.late]
      exact ⟨x, z, nA, rfl, hvz, ⟨hnW, hn1A, hmA⟩, hZ.set z #[.int .i64 z.node, .int .i64 z.boot, .int .i64 z.above, .int .i64 z.pos, .int .i64 z.y.t, .int .i64 z.pos, .slice none 0 0, .int .i64 z.q.f, .int .i64 z.q.g, .slice z.qA z.q.os.length z.qc, .slice none 0 0, .slice none 0 0, .slice none 0 0, .slice none 0 0, .slice z.y.bA z.y.base.length z.y.bc, .int .i64 z.y.t, .slice z.y.oA z.y.ops.length z.y.oc, .slice z.y.uA z.y.us.length z.y.uc, .slice z.y.wA z.y.now.length z.y.wc, .slice z.cA z.l.length z.cc, .int .i64 z.inc, .int .i64 z.mode, .int .i64 z.clock, .int .i64 z.sent, .slice z.pA 0 z.pc, .int .i64 z.late] rfl, hz.keepB hZ (hgr _), hP.keep (hgr _) (fun e => by have := Option.some.inj e; omega), inSl_keep hT (by omega) (hgr _), below_setRow hB hnW _⟩
  rintro x0 z n2 w2 ⟨hvz, ⟨hnw, hn12, hm2⟩, hE, hz, hP, hT, hB⟩
  go_upto_region 3 with fail
  go_cut [4] from 18 (fun v wx => v = .int .i64 0 ∧ ∃ z3 : Dw, Hid (z3.v = sB) ∧ dvE.In wx n2 z3 ∧ z3.ok wx ∧ pnE.In wx n1 (pl18 m 2) ∧ inE.Sl wx (some ⟨m, 0, none⟩) [-1, 0, 0] ∧ Below w.heap.size w wx)
  case first =>
    go_wp2_with (first | (refine El.load pnRow rfl _ rfl n1 0 rfl (pl18 m 2) hP.at #[.slice (some ⟨m, 0, none⟩) 3 3, .int .i64 2, .int .i64 3, .int .i64 2, .int .i64 20, .int .i64 2, .int .i64 32, .int .i64 4, .int .i64 16] rfl ?_) | (refine El.load dvRow rfl _ rfl n2 0 rfl z (hE).at #[.int .i64 z.node, .int .i64 z.boot, .int .i64 z.above, .int .i64 z.pos, .int .i64 z.y.t, .int .i64 z.pos, .slice none 0 0, .int .i64 z.q.f, .int .i64 z.q.g, .slice z.qA z.q.os.length z.qc, .slice none 0 0, .slice none 0 0, .slice none 0 0, .slice none 0 0, .slice z.y.bA z.y.base.length z.y.bc, .int .i64 z.y.t, .slice z.y.oA z.y.ops.length z.y.oc, .slice z.y.uA z.y.us.length z.y.uc, .slice z.y.wA z.y.now.length z.y.wc, .slice z.cA z.l.length z.cc, .int .i64 z.inc, .int .i64 z.mode, .int .i64 z.clock, .int .i64 z.sent, .slice z.pA 0 z.pc, .int .i64 z.late] rfl ?_) | fail)
    refine (editAt H m 2 (by omega) z 3 2 ⟨#[98]⟩ _ hT hz hvz sA_r rfl (by unfold i64; omega) (by unfold i64; omega) (by decide) sB_is).mono ?_
    rintro e w3 ⟨z3, rfl, hz3, hvz3, hb3⟩
    replace hP := hP.below hb3
    replace hT := hT.below hb3
    replace hE := hE.below hb3
    replace hB := below_then hB hb3
    clear hb3
    have hgr := by_row w3 n2 #[.int .i64 z3.node, .int .i64 z3.boot, .int .i64 z3.above, .int .i64 z3.pos, .int .i64 z3.y.t, .int .i64 z3.pos, .slice none 0 0, .int .i64 z3.q.f, .int .i64 z3.q.g, .slice z3.qA z3.q.os.length z3.qc, .slice none 0 0, .slice none 0 0, .slice none 0 0, .slice none 0 0, .slice z3.y.bA z3.y.base.length z3.y.bc, .int .i64 z3.y.t, .slice z3.y.oA z3.y.ops.length z3.y.oc, .slice z3.y.uA z3.y.us.length z3.y.uc, .slice z3.y.wA z3.y.now.length z3.y.wc, .slice z3.cA z3.l.length z3.cc, .int .i64 z3.inc, .int .i64 z3.mode, .int .i64 z3.clock, .int .i64 z3.sent, .slice z3.pA 0 z3.pc, .int .i64 z3.late]
    have hne1 : some n1 ≠ some n2 := fun e => by have := Option.some.inj e; omega
    go_wp2_with (first | (refine El.store dvRow rfl _ _ rfl n2 z3 #[.int .i64 z3.node, .int .i64 z3.boot, .int .i64 z3.above, .int .i64 z3.pos, .int .i64 z3.y.t, .int .i64 z3.pos, .slice none 0 0, .int .i64 z3.q.f, .int .i64 z3.q.g, .slice z3.qA z3.q.os.length z3.qc, .slice none 0 0, .slice none 0 0, .slice none 0 0, .slice none 0 0, .slice z3.y.bA z3.y.base.length z3.y.bc, .int .i64 z3.y.t, .slice z3.y.oA z3.y.ops.length z3.y.oc, .slice z3.y.uA z3.y.us.length z3.y.uc, .slice z3.y.wA z3.y.now.length z3.y.wc, .slice z3.cA z3.l.length z3.cc, .int .i64 z3.inc, .int .i64 z3.mode, .int .i64 z3.clock, .int .i64 z3.sent, .slice z3.pA 0 z3.pc, .int .i64 z3.late] rfl rfl rfl z hE ?_) | fail)
    replace hz := hz3.keepB hE hgr
    replace hP := hP.keep hgr hne1
    replace hT := inSl_keep hT (by omega) hgr
    replace hE := hE.set z3 #[.int .i64 z3.node, .int .i64 z3.boot, .int .i64 z3.above, .int .i64 z3.pos, .int .i64 z3.y.t, .int .i64 z3.pos, .slice none 0 0, .int .i64 z3.q.f, .int .i64 z3.q.g, .slice z3.qA z3.q.os.length z3.qc, .slice none 0 0, .slice none 0 0, .slice none 0 0, .slice none 0 0, .slice z3.y.bA z3.y.base.length z3.y.bc, .int .i64 z3.y.t, .slice z3.y.oA z3.y.ops.length z3.y.oc, .slice z3.y.uA z3.y.us.length z3.y.uc, .slice z3.y.wA z3.y.now.length z3.y.wc, .slice z3.cA z3.l.length z3.cc, .int .i64 z3.inc, .int .i64 z3.mode, .int .i64 z3.clock, .int .i64 z3.sent, .slice z3.pA 0 z3.pc, .int .i64 z3.late] rfl
    replace hB := below_setRow hB hnw #[.int .i64 z3.node, .int .i64 z3.boot, .int .i64 z3.above, .int .i64 z3.pos, .int .i64 z3.y.t, .int .i64 z3.pos, .slice none 0 0, .int .i64 z3.q.f, .int .i64 z3.q.g, .slice z3.qA z3.q.os.length z3.qc, .slice none 0 0, .slice none 0 0, .slice none 0 0, .slice none 0 0, .slice z3.y.bA z3.y.base.length z3.y.bc, .int .i64 z3.y.t, .slice z3.y.oA z3.y.ops.length z3.y.oc, .slice z3.y.uA z3.y.us.length z3.y.uc, .slice z3.y.wA z3.y.now.length z3.y.wc, .slice z3.cA z3.l.length z3.cc, .int .i64 z3.inc, .int .i64 z3.mode, .int .i64 z3.clock, .int .i64 z3.sent, .slice z3.pA 0 z3.pc, .int .i64 z3.late]
    go_meet
    exact ⟨rfl, z3, Lib.hid hvz3, hE, hz, hP, hT, hB⟩
  case rest =>
    obtain ⟨rfl, z3, HVZ3, hE, hz, hP, hT, hB⟩ := hcut
    have hvz3 := HVZ3.out
    go_wp2_with (first | (refine El.load pnRow rfl _ rfl n1 0 rfl (pl18 m 2) hP.at #[.slice (some ⟨m, 0, none⟩) 3 3, .int .i64 2, .int .i64 3, .int .i64 2, .int .i64 20, .int .i64 2, .int .i64 32, .int .i64 4, .int .i64 16] rfl ?_) | (refine El.load dvRow rfl _ rfl n2 0 rfl z3 (hE).at #[.int .i64 z3.node, .int .i64 z3.boot, .int .i64 z3.above, .int .i64 z3.pos, .int .i64 z3.y.t, .int .i64 z3.pos, .slice none 0 0, .int .i64 z3.q.f, .int .i64 z3.q.g, .slice z3.qA z3.q.os.length z3.qc, .slice none 0 0, .slice none 0 0, .slice none 0 0, .slice none 0 0, .slice z3.y.bA z3.y.base.length z3.y.bc, .int .i64 z3.y.t, .slice z3.y.oA z3.y.ops.length z3.y.oc, .slice z3.y.uA z3.y.us.length z3.y.uc, .slice z3.y.wA z3.y.now.length z3.y.wc, .slice z3.cA z3.l.length z3.cc, .int .i64 z3.inc, .int .i64 z3.mode, .int .i64 z3.clock, .int .i64 z3.sent, .slice z3.pA 0 z3.pc, .int .i64 z3.late] rfl ?_) | fail)
    refine (editAt H m 2 (by omega) z3 4 0 ⟨#[99]⟩ _ hT hz hvz3 sB_r rfl (by unfold i64; omega) (by unfold i64; omega) (by decide) (Prod.ext rfl sB_busy)).mono ?_
    rintro e w4 ⟨z4, rfl, hz4, _, hb4⟩
    replace hP := hP.below hb4
    replace hT := hT.below hb4
    replace hE := hE.below hb4
    replace hB := below_then hB hb4
    replace hz := hz.below hb4
    clear hb4
    have hZ4 : dvE.In (w4.alloc (.cells #[.int .i64 0, .int .i64 0, .int .i64 0, .int .i64 0, .int .i64 0, .int .i64 0, .slice none 0 0, .int .i64 0, .int .i64 0, .slice none 0 0, .slice none 0 0, .slice none 0 0, .slice none 0 0, .slice none 0 0, .slice none 0 0, .int .i64 0, .slice none 0 0, .slice none 0 0, .slice none 0 0, .slice none 0 0, .int .i64 0, .int .i64 0, .int .i64 0, .int .i64 0, .slice none 0 0, .int .i64 0] 44)) w4.heap.size Dw.zero := El.In.new (E := dvE) w4 Dw.zero _ rfl
    go_upto_region 5 with (first | (refine wpList_alloc_dv rfl rfl ?_) | (refine El.store dvRow rfl _ _ rfl w4.heap.size z4 #[.int .i64 z4.node, .int .i64 z4.boot, .int .i64 z4.above, .int .i64 z4.pos, .int .i64 z4.y.t, .int .i64 z4.pos, .slice none 0 0, .int .i64 z4.q.f, .int .i64 z4.q.g, .slice z4.qA z4.q.os.length z4.qc, .slice none 0 0, .slice none 0 0, .slice none 0 0, .slice none 0 0, .slice z4.y.bA z4.y.base.length z4.y.bc, .int .i64 z4.y.t, .slice z4.y.oA z4.y.ops.length z4.y.oc, .slice z4.y.uA z4.y.us.length z4.y.uc, .slice z4.y.wA z4.y.now.length z4.y.wc, .slice z4.cA z4.l.length z4.cc, .int .i64 z4.inc, .int .i64 z4.mode, .int .i64 z4.clock, .int .i64 z4.sent, .slice z4.pA 0 z4.pc, .int .i64 z4.late] rfl rfl rfl Dw.zero hZ4 ?_) | fail)
    have hdn := below_setRow (below_alloc (Below.refl w4.heap.size w4) (.cells #[.int .i64 0, .int .i64 0, .int .i64 0, .int .i64 0, .int .i64 0, .int .i64 0, .slice none 0 0, .int .i64 0, .int .i64 0, .slice none 0 0, .slice none 0 0, .slice none 0 0, .slice none 0 0, .slice none 0 0, .slice none 0 0, .int .i64 0, .slice none 0 0, .slice none 0 0, .slice none 0 0, .slice none 0 0, .int .i64 0, .int .i64 0, .int .i64 0, .int .i64 0, .slice none 0 0, .int .i64 0] 44)) (Nat.le_refl _) #[.int .i64 z4.node, .int .i64 z4.boot, .int .i64 z4.above, .int .i64 z4.pos, .int .i64 z4.y.t, .int .i64 z4.pos, .slice none 0 0, .int .i64 z4.q.f, .int .i64 z4.q.g, .slice z4.qA z4.q.os.length z4.qc, .slice none 0 0, .slice none 0 0, .slice none 0 0, .slice none 0 0, .slice z4.y.bA z4.y.base.length z4.y.bc, .int .i64 z4.y.t, .slice z4.y.oA z4.y.ops.length z4.y.oc, .slice z4.y.uA z4.y.us.length z4.y.uc, .slice z4.y.wA z4.y.now.length z4.y.wc, .slice z4.cA z4.l.length z4.cc, .int .i64 z4.inc, .int .i64 z4.mode, .int .i64 z4.clock, .int .i64 z4.sent, .slice z4.pA 0 z4.pc, .int .i64 z4.late]
    have hN := hZ4.set z4 #[.int .i64 z4.node, .int .i64 z4.boot, .int .i64 z4.above, .int .i64 z4.pos, .int .i64 z4.y.t, .int .i64 z4.pos, .slice none 0 0, .int .i64 z4.q.f, .int .i64 z4.q.g, .slice z4.qA z4.q.os.length z4.qc, .slice none 0 0, .slice none 0 0, .slice none 0 0, .slice none 0 0, .slice z4.y.bA z4.y.base.length z4.y.bc, .int .i64 z4.y.t, .slice z4.y.oA z4.y.ops.length z4.y.oc, .slice z4.y.uA z4.y.us.length z4.y.uc, .slice z4.y.wA z4.y.now.length z4.y.wc, .slice z4.cA z4.l.length z4.cc, .int .i64 z4.inc, .int .i64 z4.mode, .int .i64 z4.clock, .int .i64 z4.sent, .slice z4.pA 0 z4.pc, .int .i64 z4.late] rfl
    replace hz := hz.below hdn
    replace hz4 := (hz4).below hdn
    skip
    replace hP := hP.below hdn
    replace hT := hT.below hdn
    replace hE := hE.below hdn
    replace hB := below_then hB hdn
    clear hZ4 hdn
    generalize (w4.alloc (.cells #[.int .i64 0, .int .i64 0, .int .i64 0, .int .i64 0, .int .i64 0, .int .i64 0, .slice none 0 0, .int .i64 0, .int .i64 0, .slice none 0 0, .slice none 0 0, .slice none 0 0, .slice none 0 0, .slice none 0 0, .slice none 0 0, .int .i64 0, .slice none 0 0, .slice none 0 0, .slice none 0 0, .slice none 0 0, .int .i64 0, .int .i64 0, .int .i64 0, .int .i64 0, .slice none 0 0, .int .i64 0] 44)).setRow w4.heap.size #[.int .i64 z4.node, .int .i64 z4.boot, .int .i64 z4.above, .int .i64 z4.pos, .int .i64 z4.y.t, .int .i64 z4.pos, .slice none 0 0, .int .i64 z4.q.f, .int .i64 z4.q.g, .slice z4.qA z4.q.os.length z4.qc, .slice none 0 0, .slice none 0 0, .slice none 0 0, .slice none 0 0, .slice z4.y.bA z4.y.base.length z4.y.bc, .int .i64 z4.y.t, .slice z4.y.oA z4.y.ops.length z4.y.oc, .slice z4.y.uA z4.y.us.length z4.y.uc, .slice z4.y.wA z4.y.now.length z4.y.wc, .slice z4.cA z4.l.length z4.cc, .int .i64 z4.inc, .int .i64 z4.mode, .int .i64 z4.clock, .int .i64 z4.sent, .slice z4.pA 0 z4.pc, .int .i64 z4.late] = V4 at *
    generalize w4.heap.size = nn at *
    go_wp2_with (first | (refine El.load pnRow rfl _ rfl n1 0 rfl (pl18 m 2) hP.at #[.slice (some ⟨m, 0, none⟩) 3 3, .int .i64 2, .int .i64 3, .int .i64 2, .int .i64 20, .int .i64 2, .int .i64 32, .int .i64 4, .int .i64 16] rfl ?_) | (refine El.load dvRow rfl _ rfl n2 0 rfl z3 (hE).at #[.int .i64 z3.node, .int .i64 z3.boot, .int .i64 z3.above, .int .i64 z3.pos, .int .i64 z3.y.t, .int .i64 z3.pos, .slice none 0 0, .int .i64 z3.q.f, .int .i64 z3.q.g, .slice z3.qA z3.q.os.length z3.qc, .slice none 0 0, .slice none 0 0, .slice none 0 0, .slice none 0 0, .slice z3.y.bA z3.y.base.length z3.y.bc, .int .i64 z3.y.t, .slice z3.y.oA z3.y.ops.length z3.y.oc, .slice z3.y.uA z3.y.us.length z3.y.uc, .slice z3.y.wA z3.y.now.length z3.y.wc, .slice z3.cA z3.l.length z3.cc, .int .i64 z3.inc, .int .i64 z3.mode, .int .i64 z3.clock, .int .i64 z3.sent, .slice z3.pA 0 z3.pc, .int .i64 z3.late] rfl ?_) | fail)
    refine (editAt H m 2 (by omega) z3 4 4 ⟨#[99]⟩ _ hT hz hvz3 sB_r rfl (by unfold i64; omega) (by unfold i64; omega) (by decide) (Prod.ext rfl sB_arg)).mono ?_
    rintro e w5 ⟨z5, rfl, hz5, _, hb5⟩
    replace hP := hP.below hb5
    replace hT := hT.below hb5
    replace hE := hE.below hb5
    replace hB := below_then hB hb5
    replace hz := hz.below hb5
    clear hb5
    have hZ4 : dvE.In (w5.alloc (.cells #[.int .i64 0, .int .i64 0, .int .i64 0, .int .i64 0, .int .i64 0, .int .i64 0, .slice none 0 0, .int .i64 0, .int .i64 0, .slice none 0 0, .slice none 0 0, .slice none 0 0, .slice none 0 0, .slice none 0 0, .slice none 0 0, .int .i64 0, .slice none 0 0, .slice none 0 0, .slice none 0 0, .slice none 0 0, .int .i64 0, .int .i64 0, .int .i64 0, .int .i64 0, .slice none 0 0, .int .i64 0] 44)) w5.heap.size Dw.zero := El.In.new (E := dvE) w5 Dw.zero _ rfl
    go_upto_region 6 with (first | (refine wpList_alloc_dv rfl rfl ?_) | (refine El.store dvRow rfl _ _ rfl w5.heap.size z5 #[.int .i64 z5.node, .int .i64 z5.boot, .int .i64 z5.above, .int .i64 z5.pos, .int .i64 z5.y.t, .int .i64 z5.pos, .slice none 0 0, .int .i64 z5.q.f, .int .i64 z5.q.g, .slice z5.qA z5.q.os.length z5.qc, .slice none 0 0, .slice none 0 0, .slice none 0 0, .slice none 0 0, .slice z5.y.bA z5.y.base.length z5.y.bc, .int .i64 z5.y.t, .slice z5.y.oA z5.y.ops.length z5.y.oc, .slice z5.y.uA z5.y.us.length z5.y.uc, .slice z5.y.wA z5.y.now.length z5.y.wc, .slice z5.cA z5.l.length z5.cc, .int .i64 z5.inc, .int .i64 z5.mode, .int .i64 z5.clock, .int .i64 z5.sent, .slice z5.pA 0 z5.pc, .int .i64 z5.late] rfl rfl rfl Dw.zero hZ4 ?_) | fail)
    have hdn := below_setRow (below_alloc (Below.refl w5.heap.size w5) (.cells #[.int .i64 0, .int .i64 0, .int .i64 0, .int .i64 0, .int .i64 0, .int .i64 0, .slice none 0 0, .int .i64 0, .int .i64 0, .slice none 0 0, .slice none 0 0, .slice none 0 0, .slice none 0 0, .slice none 0 0, .slice none 0 0, .int .i64 0, .slice none 0 0, .slice none 0 0, .slice none 0 0, .slice none 0 0, .int .i64 0, .int .i64 0, .int .i64 0, .int .i64 0, .slice none 0 0, .int .i64 0] 44)) (Nat.le_refl _) #[.int .i64 z5.node, .int .i64 z5.boot, .int .i64 z5.above, .int .i64 z5.pos, .int .i64 z5.y.t, .int .i64 z5.pos, .slice none 0 0, .int .i64 z5.q.f, .int .i64 z5.q.g, .slice z5.qA z5.q.os.length z5.qc, .slice none 0 0, .slice none 0 0, .slice none 0 0, .slice none 0 0, .slice z5.y.bA z5.y.base.length z5.y.bc, .int .i64 z5.y.t, .slice z5.y.oA z5.y.ops.length z5.y.oc, .slice z5.y.uA z5.y.us.length z5.y.uc, .slice z5.y.wA z5.y.now.length z5.y.wc, .slice z5.cA z5.l.length z5.cc, .int .i64 z5.inc, .int .i64 z5.mode, .int .i64 z5.clock, .int .i64 z5.sent, .slice z5.pA 0 z5.pc, .int .i64 z5.late]
    have hN := hZ4.set z5 #[.int .i64 z5.node, .int .i64 z5.boot, .int .i64 z5.above, .int .i64 z5.pos, .int .i64 z5.y.t, .int .i64 z5.pos, .slice none 0 0, .int .i64 z5.q.f, .int .i64 z5.q.g, .slice z5.qA z5.q.os.length z5.qc, .slice none 0 0, .slice none 0 0, .slice none 0 0, .slice none 0 0, .slice z5.y.bA z5.y.base.length z5.y.bc, .int .i64 z5.y.t, .slice z5.y.oA z5.y.ops.length z5.y.oc, .slice z5.y.uA z5.y.us.length z5.y.uc, .slice z5.y.wA z5.y.now.length z5.y.wc, .slice z5.cA z5.l.length z5.cc, .int .i64 z5.inc, .int .i64 z5.mode, .int .i64 z5.clock, .int .i64 z5.sent, .slice z5.pA 0 z5.pc, .int .i64 z5.late] rfl
    replace hz := hz.below hdn
    replace hz5 := (hz5).below hdn
    skip
    replace hP := hP.below hdn
    replace hT := hT.below hdn
    replace hE := hE.below hdn
    replace hB := below_then hB hdn
    clear hZ4 hdn
    generalize (w5.alloc (.cells #[.int .i64 0, .int .i64 0, .int .i64 0, .int .i64 0, .int .i64 0, .int .i64 0, .slice none 0 0, .int .i64 0, .int .i64 0, .slice none 0 0, .slice none 0 0, .slice none 0 0, .slice none 0 0, .slice none 0 0, .slice none 0 0, .int .i64 0, .slice none 0 0, .slice none 0 0, .slice none 0 0, .slice none 0 0, .int .i64 0, .int .i64 0, .int .i64 0, .int .i64 0, .slice none 0 0, .int .i64 0] 44)).setRow w5.heap.size #[.int .i64 z5.node, .int .i64 z5.boot, .int .i64 z5.above, .int .i64 z5.pos, .int .i64 z5.y.t, .int .i64 z5.pos, .slice none 0 0, .int .i64 z5.q.f, .int .i64 z5.q.g, .slice z5.qA z5.q.os.length z5.qc, .slice none 0 0, .slice none 0 0, .slice none 0 0, .slice none 0 0, .slice z5.y.bA z5.y.base.length z5.y.bc, .int .i64 z5.y.t, .slice z5.y.oA z5.y.ops.length z5.y.oc, .slice z5.y.uA z5.y.us.length z5.y.uc, .slice z5.y.wA z5.y.now.length z5.y.wc, .slice z5.cA z5.l.length z5.cc, .int .i64 z5.inc, .int .i64 z5.mode, .int .i64 z5.clock, .int .i64 z5.sent, .slice z5.pA 0 z5.pc, .int .i64 z5.late] = V5 at *
    generalize w5.heap.size = nn at *
    go_cut [9] from 18 (fun v wx => v = .int .i64 0 ∧ ∃ z6 : Dw, Hid (z6.v = sC) ∧ dvE.In wx n2 z6 ∧ z6.ok wx ∧ pnE.In wx n1 (pl18 m 2) ∧ inE.Sl wx (some ⟨m, 0, none⟩) [-1, 0, 0] ∧ Below w.heap.size w wx)
    case first =>
      have hRow : SlV enE (V5.alloc (.cells #[.int .i64 2, .int .i64 2, .int .i64 1, .int .i64 0, .int .i64 0, .int .i64 0, .int .i64 0, .int .i64 0, .int .i64 0, .string ⟨#[]⟩] 60)) (some ⟨V5.heap.size, 0, none⟩) 1 [⟨2, 2, 1, zeroMv⟩] := slOne18 V5 (⟨2, 2, 1, zeroMv⟩ : En) _ rfl
      have hal := below_alloc (Below.refl V5.heap.size V5) (.cells #[.int .i64 2, .int .i64 2, .int .i64 1, .int .i64 0, .int .i64 0, .int .i64 0, .int .i64 0, .int .i64 0, .int .i64 0, .string ⟨#[]⟩] 60)
      have hP5 := hP
      have hE5 := hE
      replace hz := hz.below hal
      replace hP := hP.below hal
      replace hT := hT.below hal
      replace hE := hE.below hal
      replace hB := below_then hB hal
      have HTK := Lib.hid (show Calls Tryz.prog 13 #[.agg #[.slice (some ⟨m, 0, none⟩) 3 3, .int .i64 2, .int .i64 3, .int .i64 2, .int .i64 20, .int .i64 2, .int .i64 32, .int .i64 4, .int .i64 16], .agg #[.int .i64 z3.node, .int .i64 z3.boot, .int .i64 z3.above, .int .i64 z3.pos, .int .i64 z3.y.t, .int .i64 z3.pos, .slice none 0 0, .int .i64 z3.q.f, .int .i64 z3.q.g, .slice z3.qA z3.q.os.length z3.qc, .slice none 0 0, .slice none 0 0, .slice none 0 0, .slice none 0 0, .slice z3.y.bA z3.y.base.length z3.y.bc, .int .i64 z3.y.t, .slice z3.y.oA z3.y.ops.length z3.y.oc, .slice z3.y.uA z3.y.us.length z3.y.uc, .slice z3.y.wA z3.y.now.length z3.y.wc, .slice z3.cA z3.l.length z3.cc, .int .i64 z3.inc, .int .i64 z3.mode, .int .i64 z3.clock, .int .i64 z3.sent, .slice z3.pA 0 z3.pc, .int .i64 z3.late], .agg #[.int .i64 0, .int .i64 1, .int .i64 2, .int .i64 0, .slice none 0 0, .int .i64 0, .slice none 0 0, .int .i64 1, .slice (some ⟨V5.heap.size, 0, none⟩) 1 1, .int .i64 1, .int .i64 5, .int .i64 0, .int .i64 0, .slice none 0 0]] (V5.alloc (.cells #[.int .i64 2, .int .i64 2, .int .i64 1, .int .i64 0, .int .i64 0, .int .i64 0, .int .i64 0, .int .i64 0, .int .i64 0, .string ⟨#[]⟩] 60)) fun e w' => ∃ z : Dw, e = .returned (.tuple #[.agg #[.int .i64 z.node, .int .i64 z.boot, .int .i64 z.above, .int .i64 z.pos, .int .i64 z.y.t, .int .i64 z.pos, .slice none 0 0, .int .i64 z.q.f, .int .i64 z.q.g, .slice z.qA z.q.os.length z.qc, .slice none 0 0, .slice none 0 0, .slice none 0 0, .slice none 0 0, .slice z.y.bA z.y.base.length z.y.bc, .int .i64 z.y.t, .slice z.y.oA z.y.ops.length z.y.oc, .slice z.y.uA z.y.us.length z.y.uc, .slice z.y.wA z.y.now.length z.y.wc, .slice z.cA z.l.length z.cc, .int .i64 z.inc, .int .i64 z.mode, .int .i64 z.clock, .int .i64 z.sent, .slice z.pA 0 z.pc, .int .i64 z.late], .int .i64 0]) ∧ z.ok w' ∧ z.v = sC ∧ Below (V5.alloc (.cells #[.int .i64 2, .int .i64 2, .int .i64 1, .int .i64 0, .int .i64 0, .int .i64 0, .int .i64 0, .int .i64 0, .int .i64 0, .string ⟨#[]⟩] 60)).heap.size (V5.alloc (.cells #[.int .i64 2, .int .i64 2, .int .i64 1, .int .i64 0, .int .i64 0, .int .i64 0, .int .i64 0, .int .i64 0, .int .i64 0, .string ⟨#[]⟩] 60)) w' from
        takeAt H m 2 (by omega) z3 ⟨none, 0, none, 0, some ⟨V5.heap.size, 0, none⟩, 1, none, 0, fE⟩ _ hT hz ⟨SlV.nil _ _, SlV.nil _ _, hRow, SlV.nil _ _⟩ hvz3 sB_r rfl fE_d sC_is)
      clear hRow hal hN
      go_wp2_with (first | (refine El.load pnRow rfl _ rfl n1 0 rfl (pl18 m 2) hP5.at #[.slice (some ⟨m, 0, none⟩) 3 3, .int .i64 2, .int .i64 3, .int .i64 2, .int .i64 20, .int .i64 2, .int .i64 32, .int .i64 4, .int .i64 16] rfl ?_) | (refine El.load dvRow rfl _ rfl n2 0 rfl z3 hE5.at #[.int .i64 z3.node, .int .i64 z3.boot, .int .i64 z3.above, .int .i64 z3.pos, .int .i64 z3.y.t, .int .i64 z3.pos, .slice none 0 0, .int .i64 z3.q.f, .int .i64 z3.q.g, .slice z3.qA z3.q.os.length z3.qc, .slice none 0 0, .slice none 0 0, .slice none 0 0, .slice none 0 0, .slice z3.y.bA z3.y.base.length z3.y.bc, .int .i64 z3.y.t, .slice z3.y.oA z3.y.ops.length z3.y.oc, .slice z3.y.uA z3.y.us.length z3.y.uc, .slice z3.y.wA z3.y.now.length z3.y.wc, .slice z3.cA z3.l.length z3.cc, .int .i64 z3.inc, .int .i64 z3.mode, .int .i64 z3.clock, .int .i64 z3.sent, .slice z3.pA 0 z3.pc, .int .i64 z3.late] rfl ?_) | fail)
      refine HTK.out.mono ?_
      rintro e w6 ⟨z6, rfl, hz6, hvz6, hb6⟩
      replace hP := hP.below hb6
      replace hT := hT.below hb6
      replace hE := hE.below hb6
      replace hB := below_then hB hb6
      clear hb6 HTK hP5 hE5
      have hgr := by_row w6 n2 #[.int .i64 z6.node, .int .i64 z6.boot, .int .i64 z6.above, .int .i64 z6.pos, .int .i64 z6.y.t, .int .i64 z6.pos, .slice none 0 0, .int .i64 z6.q.f, .int .i64 z6.q.g, .slice z6.qA z6.q.os.length z6.qc, .slice none 0 0, .slice none 0 0, .slice none 0 0, .slice none 0 0, .slice z6.y.bA z6.y.base.length z6.y.bc, .int .i64 z6.y.t, .slice z6.y.oA z6.y.ops.length z6.y.oc, .slice z6.y.uA z6.y.us.length z6.y.uc, .slice z6.y.wA z6.y.now.length z6.y.wc, .slice z6.cA z6.l.length z6.cc, .int .i64 z6.inc, .int .i64 z6.mode, .int .i64 z6.clock, .int .i64 z6.sent, .slice z6.pA 0 z6.pc, .int .i64 z6.late]
      have hne1 : some n1 ≠ some n2 := fun e => by have := Option.some.inj e; omega
      go_wp2_with (first | (refine El.store dvRow rfl _ _ rfl n2 z6 #[.int .i64 z6.node, .int .i64 z6.boot, .int .i64 z6.above, .int .i64 z6.pos, .int .i64 z6.y.t, .int .i64 z6.pos, .slice none 0 0, .int .i64 z6.q.f, .int .i64 z6.q.g, .slice z6.qA z6.q.os.length z6.qc, .slice none 0 0, .slice none 0 0, .slice none 0 0, .slice none 0 0, .slice z6.y.bA z6.y.base.length z6.y.bc, .int .i64 z6.y.t, .slice z6.y.oA z6.y.ops.length z6.y.oc, .slice z6.y.uA z6.y.us.length z6.y.uc, .slice z6.y.wA z6.y.now.length z6.y.wc, .slice z6.cA z6.l.length z6.cc, .int .i64 z6.inc, .int .i64 z6.mode, .int .i64 z6.clock, .int .i64 z6.sent, .slice z6.pA 0 z6.pc, .int .i64 z6.late] rfl rfl rfl z3 hE ?_) | fail)
      replace hz := hz6.keepB hE hgr
      replace hP := hP.keep hgr hne1
      replace hT := inSl_keep hT (by omega) hgr
      replace hE := hE.set z6 #[.int .i64 z6.node, .int .i64 z6.boot, .int .i64 z6.above, .int .i64 z6.pos, .int .i64 z6.y.t, .int .i64 z6.pos, .slice none 0 0, .int .i64 z6.q.f, .int .i64 z6.q.g, .slice z6.qA z6.q.os.length z6.qc, .slice none 0 0, .slice none 0 0, .slice none 0 0, .slice none 0 0, .slice z6.y.bA z6.y.base.length z6.y.bc, .int .i64 z6.y.t, .slice z6.y.oA z6.y.ops.length z6.y.oc, .slice z6.y.uA z6.y.us.length z6.y.uc, .slice z6.y.wA z6.y.now.length z6.y.wc, .slice z6.cA z6.l.length z6.cc, .int .i64 z6.inc, .int .i64 z6.mode, .int .i64 z6.clock, .int .i64 z6.sent, .slice z6.pA 0 z6.pc, .int .i64 z6.late] rfl
      replace hB := below_setRow hB hnw #[.int .i64 z6.node, .int .i64 z6.boot, .int .i64 z6.above, .int .i64 z6.pos, .int .i64 z6.y.t, .int .i64 z6.pos, .slice none 0 0, .int .i64 z6.q.f, .int .i64 z6.q.g, .slice z6.qA z6.q.os.length z6.qc, .slice none 0 0, .slice none 0 0, .slice none 0 0, .slice none 0 0, .slice z6.y.bA z6.y.base.length z6.y.bc, .int .i64 z6.y.t, .slice z6.y.oA z6.y.ops.length z6.y.oc, .slice z6.y.uA z6.y.us.length z6.y.uc, .slice z6.y.wA z6.y.now.length z6.y.wc, .slice z6.cA z6.l.length z6.cc, .int .i64 z6.inc, .int .i64 z6.mode, .int .i64 z6.clock, .int .i64 z6.sent, .slice z6.pA 0 z6.pc, .int .i64 z6.late]
      go_meet
      exact ⟨rfl, z6, Lib.hid hvz6, hE, hz, hP, hT, hB⟩
    case rest =>
      obtain ⟨rfl, z6, HVZ6, hE, hz, hP, hT, hB⟩ := hcut
      have hvz6 := HVZ6.out
      go_wp2_with (first | (refine El.load pnRow rfl _ rfl n1 0 rfl (pl18 m 2) hP.at #[.slice (some ⟨m, 0, none⟩) 3 3, .int .i64 2, .int .i64 3, .int .i64 2, .int .i64 20, .int .i64 2, .int .i64 32, .int .i64 4, .int .i64 16] rfl ?_) | (refine El.load dvRow rfl _ rfl n2 0 rfl z6 (hE).at #[.int .i64 z6.node, .int .i64 z6.boot, .int .i64 z6.above, .int .i64 z6.pos, .int .i64 z6.y.t, .int .i64 z6.pos, .slice none 0 0, .int .i64 z6.q.f, .int .i64 z6.q.g, .slice z6.qA z6.q.os.length z6.qc, .slice none 0 0, .slice none 0 0, .slice none 0 0, .slice none 0 0, .slice z6.y.bA z6.y.base.length z6.y.bc, .int .i64 z6.y.t, .slice z6.y.oA z6.y.ops.length z6.y.oc, .slice z6.y.uA z6.y.us.length z6.y.uc, .slice z6.y.wA z6.y.now.length z6.y.wc, .slice z6.cA z6.l.length z6.cc, .int .i64 z6.inc, .int .i64 z6.mode, .int .i64 z6.clock, .int .i64 z6.sent, .slice z6.pA 0 z6.pc, .int .i64 z6.late] rfl ?_) | fail)
      refine (takeAt H m 2 (by omega) z6 ⟨none, 0, none, 0, none, 0, none, 0, fF⟩ _ hT hz ⟨SlV.nil _ _, SlV.nil _ _, SlV.nil _ _, SlV.nil _ _⟩ hvz6 sC_r rfl fF_d (Prod.ext rfl sC_stale)).mono ?_
      rintro e w7 ⟨z7, rfl, hz7, _, hb7⟩
      replace hP := hP.below hb7
      replace hT := hT.below hb7
      replace hE := hE.below hb7
      replace hB := below_then hB hb7
      replace hz := hz.below hb7
      clear hb7
      have hZ4 : dvE.In (w7.alloc (.cells #[.int .i64 0, .int .i64 0, .int .i64 0, .int .i64 0, .int .i64 0, .int .i64 0, .slice none 0 0, .int .i64 0, .int .i64 0, .slice none 0 0, .slice none 0 0, .slice none 0 0, .slice none 0 0, .slice none 0 0, .slice none 0 0, .int .i64 0, .slice none 0 0, .slice none 0 0, .slice none 0 0, .slice none 0 0, .int .i64 0, .int .i64 0, .int .i64 0, .int .i64 0, .slice none 0 0, .int .i64 0] 44)) w7.heap.size Dw.zero := El.In.new (E := dvE) w7 Dw.zero _ rfl
      go_upto_region 8 with (first | (refine wpList_alloc_dv rfl rfl ?_) | (refine El.store dvRow rfl _ _ rfl w7.heap.size z7 #[.int .i64 z7.node, .int .i64 z7.boot, .int .i64 z7.above, .int .i64 z7.pos, .int .i64 z7.y.t, .int .i64 z7.pos, .slice none 0 0, .int .i64 z7.q.f, .int .i64 z7.q.g, .slice z7.qA z7.q.os.length z7.qc, .slice none 0 0, .slice none 0 0, .slice none 0 0, .slice none 0 0, .slice z7.y.bA z7.y.base.length z7.y.bc, .int .i64 z7.y.t, .slice z7.y.oA z7.y.ops.length z7.y.oc, .slice z7.y.uA z7.y.us.length z7.y.uc, .slice z7.y.wA z7.y.now.length z7.y.wc, .slice z7.cA z7.l.length z7.cc, .int .i64 z7.inc, .int .i64 z7.mode, .int .i64 z7.clock, .int .i64 z7.sent, .slice z7.pA 0 z7.pc, .int .i64 z7.late] rfl rfl rfl Dw.zero hZ4 ?_) | fail)
      have hdn := below_setRow (below_alloc (Below.refl w7.heap.size w7) (.cells #[.int .i64 0, .int .i64 0, .int .i64 0, .int .i64 0, .int .i64 0, .int .i64 0, .slice none 0 0, .int .i64 0, .int .i64 0, .slice none 0 0, .slice none 0 0, .slice none 0 0, .slice none 0 0, .slice none 0 0, .slice none 0 0, .int .i64 0, .slice none 0 0, .slice none 0 0, .slice none 0 0, .slice none 0 0, .int .i64 0, .int .i64 0, .int .i64 0, .int .i64 0, .slice none 0 0, .int .i64 0] 44)) (Nat.le_refl _) #[.int .i64 z7.node, .int .i64 z7.boot, .int .i64 z7.above, .int .i64 z7.pos, .int .i64 z7.y.t, .int .i64 z7.pos, .slice none 0 0, .int .i64 z7.q.f, .int .i64 z7.q.g, .slice z7.qA z7.q.os.length z7.qc, .slice none 0 0, .slice none 0 0, .slice none 0 0, .slice none 0 0, .slice z7.y.bA z7.y.base.length z7.y.bc, .int .i64 z7.y.t, .slice z7.y.oA z7.y.ops.length z7.y.oc, .slice z7.y.uA z7.y.us.length z7.y.uc, .slice z7.y.wA z7.y.now.length z7.y.wc, .slice z7.cA z7.l.length z7.cc, .int .i64 z7.inc, .int .i64 z7.mode, .int .i64 z7.clock, .int .i64 z7.sent, .slice z7.pA 0 z7.pc, .int .i64 z7.late]
      have hN := hZ4.set z7 #[.int .i64 z7.node, .int .i64 z7.boot, .int .i64 z7.above, .int .i64 z7.pos, .int .i64 z7.y.t, .int .i64 z7.pos, .slice none 0 0, .int .i64 z7.q.f, .int .i64 z7.q.g, .slice z7.qA z7.q.os.length z7.qc, .slice none 0 0, .slice none 0 0, .slice none 0 0, .slice none 0 0, .slice z7.y.bA z7.y.base.length z7.y.bc, .int .i64 z7.y.t, .slice z7.y.oA z7.y.ops.length z7.y.oc, .slice z7.y.uA z7.y.us.length z7.y.uc, .slice z7.y.wA z7.y.now.length z7.y.wc, .slice z7.cA z7.l.length z7.cc, .int .i64 z7.inc, .int .i64 z7.mode, .int .i64 z7.clock, .int .i64 z7.sent, .slice z7.pA 0 z7.pc, .int .i64 z7.late] rfl
      replace hz := hz.below hdn
      replace hz7 := (hz7).below hdn
      skip
      replace hP := hP.below hdn
      replace hT := hT.below hdn
      replace hE := hE.below hdn
      replace hB := below_then hB hdn
      clear hZ4 hdn
      generalize (w7.alloc (.cells #[.int .i64 0, .int .i64 0, .int .i64 0, .int .i64 0, .int .i64 0, .int .i64 0, .slice none 0 0, .int .i64 0, .int .i64 0, .slice none 0 0, .slice none 0 0, .slice none 0 0, .slice none 0 0, .slice none 0 0, .slice none 0 0, .int .i64 0, .slice none 0 0, .slice none 0 0, .slice none 0 0, .slice none 0 0, .int .i64 0, .int .i64 0, .int .i64 0, .int .i64 0, .slice none 0 0, .int .i64 0] 44)).setRow w7.heap.size #[.int .i64 z7.node, .int .i64 z7.boot, .int .i64 z7.above, .int .i64 z7.pos, .int .i64 z7.y.t, .int .i64 z7.pos, .slice none 0 0, .int .i64 z7.q.f, .int .i64 z7.q.g, .slice z7.qA z7.q.os.length z7.qc, .slice none 0 0, .slice none 0 0, .slice none 0 0, .slice none 0 0, .slice z7.y.bA z7.y.base.length z7.y.bc, .int .i64 z7.y.t, .slice z7.y.oA z7.y.ops.length z7.y.oc, .slice z7.y.uA z7.y.us.length z7.y.uc, .slice z7.y.wA z7.y.now.length z7.y.wc, .slice z7.cA z7.l.length z7.cc, .int .i64 z7.inc, .int .i64 z7.mode, .int .i64 z7.clock, .int .i64 z7.sent, .slice z7.pA 0 z7.pc, .int .i64 z7.late] = V7 at *
      generalize w7.heap.size = nn at *
      go_wp2_with (first | (refine El.load pnRow rfl _ rfl n1 0 rfl (pl18 m 2) hP.at #[.slice (some ⟨m, 0, none⟩) 3 3, .int .i64 2, .int .i64 3, .int .i64 2, .int .i64 20, .int .i64 2, .int .i64 32, .int .i64 4, .int .i64 16] rfl ?_) | (refine El.load dvRow rfl _ rfl n2 0 rfl z6 (hE).at #[.int .i64 z6.node, .int .i64 z6.boot, .int .i64 z6.above, .int .i64 z6.pos, .int .i64 z6.y.t, .int .i64 z6.pos, .slice none 0 0, .int .i64 z6.q.f, .int .i64 z6.q.g, .slice z6.qA z6.q.os.length z6.qc, .slice none 0 0, .slice none 0 0, .slice none 0 0, .slice none 0 0, .slice z6.y.bA z6.y.base.length z6.y.bc, .int .i64 z6.y.t, .slice z6.y.oA z6.y.ops.length z6.y.oc, .slice z6.y.uA z6.y.us.length z6.y.uc, .slice z6.y.wA z6.y.now.length z6.y.wc, .slice z6.cA z6.l.length z6.cc, .int .i64 z6.inc, .int .i64 z6.mode, .int .i64 z6.clock, .int .i64 z6.sent, .slice z6.pA 0 z6.pc, .int .i64 z6.late] rfl ?_) | fail)
      refine (readAt H z6 _ hz hvz6 sC_r sC_mode sC_shown).mono ?_
      rintro e w8 ⟨A8, c8, rfl, _, hb8⟩
      replace hP := hP.below hb8
      replace hT := hT.below hb8
      replace hE := hE.below hb8
      replace hB := below_then hB hb8
      replace hz := hz.below hb8
      clear hb8 hN
      go_wp2_with (first | (refine El.load pnRow rfl _ rfl n1 0 rfl (pl18 m 2) hP.at #[.slice (some ⟨m, 0, none⟩) 3 3, .int .i64 2, .int .i64 3, .int .i64 2, .int .i64 20, .int .i64 2, .int .i64 32, .int .i64 4, .int .i64 16] rfl ?_) | (refine El.load dvRow rfl _ rfl n2 0 rfl z6 (hE).at #[.int .i64 z6.node, .int .i64 z6.boot, .int .i64 z6.above, .int .i64 z6.pos, .int .i64 z6.y.t, .int .i64 z6.pos, .slice none 0 0, .int .i64 z6.q.f, .int .i64 z6.q.g, .slice z6.qA z6.q.os.length z6.qc, .slice none 0 0, .slice none 0 0, .slice none 0 0, .slice none 0 0, .slice z6.y.bA z6.y.base.length z6.y.bc, .int .i64 z6.y.t, .slice z6.y.oA z6.y.ops.length z6.y.oc, .slice z6.y.uA z6.y.us.length z6.y.uc, .slice z6.y.wA z6.y.now.length z6.y.wc, .slice z6.cA z6.l.length z6.cc, .int .i64 z6.inc, .int .i64 z6.mode, .int .i64 z6.clock, .int .i64 z6.sent, .slice z6.pA 0 z6.pc, .int .i64 z6.late] rfl ?_) | fail)
      refine (frameAt H m 2 (by omega) z6 7 (by unfold i64; omega) _ hT hz hvz6 sC_r rfl).mono ?_
      rintro e w9 ⟨f, rfl, hf, hfx0, hb9⟩
      have hfx := Lib.hid hfx0
      clear hfx0
      replace hP := hP.below hb9
      replace hT := hT.below hb9
      replace hE := hE.below hb9
      replace hB := below_then hB hb9
      replace hz := hz.below hb9
      clear hb9
      have hF : frE.In (w9.alloc (.cells #[.int .i64 f.x.a, .int .i64 f.x.b, .int .i64 f.x.boot, .int .i64 f.x.first, .slice f.oA f.x.os.length f.oc, .int .i64 f.x.pos, .slice f.rA f.x.rs.length f.rc, .int .i64 f.x.start, .slice f.eA f.x.es.length f.ec, .int .i64 f.x.ack, .int .i64 f.x.grant, .int .i64 f.x.s, .int .i64 f.x.t, .slice f.gA f.x.gs.length f.gc] 65)) w9.heap.size f := El.In.new (E := frE) w9 f _ rfl
      have hal := below_alloc (Below.refl w9.heap.size w9) (.cells #[.int .i64 f.x.a, .int .i64 f.x.b, .int .i64 f.x.boot, .int .i64 f.x.first, .slice f.oA f.x.os.length f.oc, .int .i64 f.x.pos, .slice f.rA f.x.rs.length f.rc, .int .i64 f.x.start, .slice f.eA f.x.es.length f.ec, .int .i64 f.x.ack, .int .i64 f.x.grant, .int .i64 f.x.s, .int .i64 f.x.t, .slice f.gA f.x.gs.length f.gc] 65)
      replace hf := Fw.ok.below hf hal
      replace hz := hz.below hal
      replace hP := hP.below hal
      replace hT := hT.below hal
      replace hE := hE.below hal
      replace hB := below_then hB hal
      clear hal
      go_upto_region 10 with fail
      generalize w9.alloc (.cells #[.int .i64 f.x.a, .int .i64 f.x.b, .int .i64 f.x.boot, .int .i64 f.x.first, .slice f.oA f.x.os.length f.oc, .int .i64 f.x.pos, .slice f.rA f.x.rs.length f.rc, .int .i64 f.x.start, .slice f.eA f.x.es.length f.ec, .int .i64 f.x.ack, .int .i64 f.x.grant, .int .i64 f.x.s, .int .i64 f.x.t, .slice f.gA f.x.gs.length f.gc] 65) = V9 at *
      generalize w9.heap.size = nf at *
      go_cut [15] from 18 (fun v wx => ∃ (nn : Nat) (z10 : Dw), v = .pointer (some ⟨nn, 0, none⟩) ∧ Hid (z10.v = leaveD sC) ∧ dvE.In wx nn z10 ∧ z10.ok wx ∧ dvE.In wx n2 z6 ∧ z6.ok wx ∧ frE.In wx nf f ∧ f.ok wx ∧ pnE.In wx n1 (pl18 m 2) ∧ inE.Sl wx (some ⟨m, 0, none⟩) [-1, 0, 0] ∧ Below w.heap.size w wx)
      case first =>
        go_wp2_with (first | (refine El.load pnRow rfl _ rfl n1 0 rfl (pl18 m 2) hP.at #[.slice (some ⟨m, 0, none⟩) 3 3, .int .i64 2, .int .i64 3, .int .i64 2, .int .i64 20, .int .i64 2, .int .i64 32, .int .i64 4, .int .i64 16] rfl ?_) | (refine El.load dvRow rfl _ rfl n2 0 rfl z6 (hE).at #[.int .i64 z6.node, .int .i64 z6.boot, .int .i64 z6.above, .int .i64 z6.pos, .int .i64 z6.y.t, .int .i64 z6.pos, .slice none 0 0, .int .i64 z6.q.f, .int .i64 z6.q.g, .slice z6.qA z6.q.os.length z6.qc, .slice none 0 0, .slice none 0 0, .slice none 0 0, .slice none 0 0, .slice z6.y.bA z6.y.base.length z6.y.bc, .int .i64 z6.y.t, .slice z6.y.oA z6.y.ops.length z6.y.oc, .slice z6.y.uA z6.y.us.length z6.y.uc, .slice z6.y.wA z6.y.now.length z6.y.wc, .slice z6.cA z6.l.length z6.cc, .int .i64 z6.inc, .int .i64 z6.mode, .int .i64 z6.clock, .int .i64 z6.sent, .slice z6.pA 0 z6.pc, .int .i64 z6.late] rfl ?_) | fail)
        refine (leaveAt H z6 _ hz hvz6 sC_r).mono ?_
        rintro e w10 ⟨z10, rfl, hz10, hvz10, hb10⟩
        replace hP := hP.below hb10
        replace hT := hT.below hb10
        replace hE := hE.below hb10
        replace hB := below_then hB hb10
        replace hz := hz.below hb10
        replace hf := Fw.ok.below hf hb10
        replace hF := hF.below hb10
        clear hb10
        have hZ4 : dvE.In (w10.alloc (.cells #[.int .i64 0, .int .i64 0, .int .i64 0, .int .i64 0, .int .i64 0, .int .i64 0, .slice none 0 0, .int .i64 0, .int .i64 0, .slice none 0 0, .slice none 0 0, .slice none 0 0, .slice none 0 0, .slice none 0 0, .slice none 0 0, .int .i64 0, .slice none 0 0, .slice none 0 0, .slice none 0 0, .slice none 0 0, .int .i64 0, .int .i64 0, .int .i64 0, .int .i64 0, .slice none 0 0, .int .i64 0] 44)) w10.heap.size Dw.zero := El.In.new (E := dvE) w10 Dw.zero _ rfl
        go_wp2_with (first | (refine wpList_alloc_dv rfl rfl ?_) | (refine El.store dvRow rfl _ _ rfl w10.heap.size z10 #[.int .i64 z10.node, .int .i64 z10.boot, .int .i64 z10.above, .int .i64 z10.pos, .int .i64 z10.y.t, .int .i64 z10.pos, .slice none 0 0, .int .i64 z10.q.f, .int .i64 z10.q.g, .slice z10.qA z10.q.os.length z10.qc, .slice none 0 0, .slice none 0 0, .slice none 0 0, .slice none 0 0, .slice z10.y.bA z10.y.base.length z10.y.bc, .int .i64 z10.y.t, .slice z10.y.oA z10.y.ops.length z10.y.oc, .slice z10.y.uA z10.y.us.length z10.y.uc, .slice z10.y.wA z10.y.now.length z10.y.wc, .slice z10.cA z10.l.length z10.cc, .int .i64 z10.inc, .int .i64 z10.mode, .int .i64 z10.clock, .int .i64 z10.sent, .slice z10.pA 0 z10.pc, .int .i64 z10.late] rfl rfl rfl Dw.zero hZ4 ?_) | fail)
        have hdn := below_setRow (below_alloc (Below.refl w10.heap.size w10) (.cells #[.int .i64 0, .int .i64 0, .int .i64 0, .int .i64 0, .int .i64 0, .int .i64 0, .slice none 0 0, .int .i64 0, .int .i64 0, .slice none 0 0, .slice none 0 0, .slice none 0 0, .slice none 0 0, .slice none 0 0, .slice none 0 0, .int .i64 0, .slice none 0 0, .slice none 0 0, .slice none 0 0, .slice none 0 0, .int .i64 0, .int .i64 0, .int .i64 0, .int .i64 0, .slice none 0 0, .int .i64 0] 44)) (Nat.le_refl _) #[.int .i64 z10.node, .int .i64 z10.boot, .int .i64 z10.above, .int .i64 z10.pos, .int .i64 z10.y.t, .int .i64 z10.pos, .slice none 0 0, .int .i64 z10.q.f, .int .i64 z10.q.g, .slice z10.qA z10.q.os.length z10.qc, .slice none 0 0, .slice none 0 0, .slice none 0 0, .slice none 0 0, .slice z10.y.bA z10.y.base.length z10.y.bc, .int .i64 z10.y.t, .slice z10.y.oA z10.y.ops.length z10.y.oc, .slice z10.y.uA z10.y.us.length z10.y.uc, .slice z10.y.wA z10.y.now.length z10.y.wc, .slice z10.cA z10.l.length z10.cc, .int .i64 z10.inc, .int .i64 z10.mode, .int .i64 z10.clock, .int .i64 z10.sent, .slice z10.pA 0 z10.pc, .int .i64 z10.late]
        go_meet
        exact ⟨w10.heap.size, z10, rfl, Lib.hid hvz10, hZ4.set z10 #[.int .i64 z10.node, .int .i64 z10.boot, .int .i64 z10.above, .int .i64 z10.pos, .int .i64 z10.y.t, .int .i64 z10.pos, .slice none 0 0, .int .i64 z10.q.f, .int .i64 z10.q.g, .slice z10.qA z10.q.os.length z10.qc, .slice none 0 0, .slice none 0 0, .slice none 0 0, .slice none 0 0, .slice z10.y.bA z10.y.base.length z10.y.bc, .int .i64 z10.y.t, .slice z10.y.oA z10.y.ops.length z10.y.oc, .slice z10.y.uA z10.y.us.length z10.y.uc, .slice z10.y.wA z10.y.now.length z10.y.wc, .slice z10.cA z10.l.length z10.cc, .int .i64 z10.inc, .int .i64 z10.mode, .int .i64 z10.clock, .int .i64 z10.sent, .slice z10.pA 0 z10.pc, .int .i64 z10.late] rfl, hz10.below hdn, hE.below hdn, hz.below hdn, hF.below hdn, Fw.ok.below hf hdn, hP.below hdn, hT.below hdn, below_then hB hdn⟩
      case rest =>
        obtain ⟨nn, z10, rfl, HVZ10, hN, hz10, hE, hz, hF, hf, hP, hT, hB⟩ := hcut
        have hvz10 := HVZ10.out
        try simp only [List.append_eq, List.cons_append, List.nil_append]
        go_wp2_with (first | (refine El.load pnRow rfl _ rfl n1 0 rfl (pl18 m 2) hP.at #[.slice (some ⟨m, 0, none⟩) 3 3, .int .i64 2, .int .i64 3, .int .i64 2, .int .i64 20, .int .i64 2, .int .i64 32, .int .i64 4, .int .i64 16] rfl ?_) | (refine El.load dvRow rfl _ rfl nn 0 rfl z10 hN.at #[.int .i64 z10.node, .int .i64 z10.boot, .int .i64 z10.above, .int .i64 z10.pos, .int .i64 z10.y.t, .int .i64 z10.pos, .slice none 0 0, .int .i64 z10.q.f, .int .i64 z10.q.g, .slice z10.qA z10.q.os.length z10.qc, .slice none 0 0, .slice none 0 0, .slice none 0 0, .slice none 0 0, .slice z10.y.bA z10.y.base.length z10.y.bc, .int .i64 z10.y.t, .slice z10.y.oA z10.y.ops.length z10.y.oc, .slice z10.y.uA z10.y.us.length z10.y.uc, .slice z10.y.wA z10.y.now.length z10.y.wc, .slice z10.cA z10.l.length z10.cc, .int .i64 z10.inc, .int .i64 z10.mode, .int .i64 z10.clock, .int .i64 z10.sent, .slice z10.pA 0 z10.pc, .int .i64 z10.late] rfl ?_) | fail)
        refine (editAt H m 2 (by omega) z10 4 0 ⟨#[99]⟩ _ hT hz10 hvz10 (leaveD_r sC_r (by rw [show sC.inc = 1 from by kernel_rfl]; omega)) rfl (by unfold i64; omega) (by unfold i64; omega) (by decide) (Prod.ext rfl sC_away)).mono ?_
        rintro e w11 ⟨z11, rfl, hz11, _, hb11⟩
        replace hP := hP.below hb11
        replace hT := hT.below hb11
        replace hE := hE.below hb11
        replace hB := below_then hB hb11
        replace hz := hz.below hb11
        replace hf := Fw.ok.below hf hb11
        replace hF := hF.below hb11
        replace hN := hN.below hb11
        clear hb11
        have hZ4 : dvE.In (w11.alloc (.cells #[.int .i64 0, .int .i64 0, .int .i64 0, .int .i64 0, .int .i64 0, .int .i64 0, .slice none 0 0, .int .i64 0, .int .i64 0, .slice none 0 0, .slice none 0 0, .slice none 0 0, .slice none 0 0, .slice none 0 0, .slice none 0 0, .int .i64 0, .slice none 0 0, .slice none 0 0, .slice none 0 0, .slice none 0 0, .int .i64 0, .int .i64 0, .int .i64 0, .int .i64 0, .slice none 0 0, .int .i64 0] 44)) w11.heap.size Dw.zero := El.In.new (E := dvE) w11 Dw.zero _ rfl
        have hdn := below_setRow (below_alloc (Below.refl w11.heap.size w11) (.cells #[.int .i64 0, .int .i64 0, .int .i64 0, .int .i64 0, .int .i64 0, .int .i64 0, .slice none 0 0, .int .i64 0, .int .i64 0, .slice none 0 0, .slice none 0 0, .slice none 0 0, .slice none 0 0, .slice none 0 0, .slice none 0 0, .int .i64 0, .slice none 0 0, .slice none 0 0, .slice none 0 0, .slice none 0 0, .int .i64 0, .int .i64 0, .int .i64 0, .int .i64 0, .slice none 0 0, .int .i64 0] 44)) (Nat.le_refl _) #[.int .i64 z11.node, .int .i64 z11.boot, .int .i64 z11.above, .int .i64 z11.pos, .int .i64 z11.y.t, .int .i64 z11.pos, .slice none 0 0, .int .i64 z11.q.f, .int .i64 z11.q.g, .slice z11.qA z11.q.os.length z11.qc, .slice none 0 0, .slice none 0 0, .slice none 0 0, .slice none 0 0, .slice z11.y.bA z11.y.base.length z11.y.bc, .int .i64 z11.y.t, .slice z11.y.oA z11.y.ops.length z11.y.oc, .slice z11.y.uA z11.y.us.length z11.y.uc, .slice z11.y.wA z11.y.now.length z11.y.wc, .slice z11.cA z11.l.length z11.cc, .int .i64 z11.inc, .int .i64 z11.mode, .int .i64 z11.clock, .int .i64 z11.sent, .slice z11.pA 0 z11.pc, .int .i64 z11.late]
        replace hz := hz.below hdn
        replace hf := Fw.ok.below hf hdn
        replace hF := hF.below hdn
        replace hN := hN.below hdn
        replace hP := hP.below hdn
        replace hT := hT.below hdn
        replace hE := hE.below hdn
        replace hB := below_then hB hdn
        clear hdn hz10
        obtain ⟨br, off, eA, hbw, hc⟩ := hf.r.1 (by rw [hfx.out]; show 0 < 1; omega)
        have hrs : f.x.rs = [reportD sC 7] := by rw [hfx.out]; rfl
        have hr0 : rpE.At ((w11.alloc (.cells #[.int .i64 0, .int .i64 0, .int .i64 0, .int .i64 0, .int .i64 0, .int .i64 0, .slice none 0 0, .int .i64 0, .int .i64 0, .slice none 0 0, .slice none 0 0, .slice none 0 0, .slice none 0 0, .slice none 0 0, .slice none 0 0, .int .i64 0, .slice none 0 0, .slice none 0 0, .slice none 0 0, .slice none 0 0, .int .i64 0, .int .i64 0, .int .i64 0, .int .i64 0, .slice none 0 0, .int .i64 0] 44)).setRow w11.heap.size #[.int .i64 z11.node, .int .i64 z11.boot, .int .i64 z11.above, .int .i64 z11.pos, .int .i64 z11.y.t, .int .i64 z11.pos, .slice none 0 0, .int .i64 z11.q.f, .int .i64 z11.q.g, .slice z11.qA z11.q.os.length z11.qc, .slice none 0 0, .slice none 0 0, .slice none 0 0, .slice none 0 0, .slice z11.y.bA z11.y.base.length z11.y.bc, .int .i64 z11.y.t, .slice z11.y.oA z11.y.ops.length z11.y.oc, .slice z11.y.uA z11.y.us.length z11.y.uc, .slice z11.y.wA z11.y.now.length z11.y.wc, .slice z11.cA z11.l.length z11.cc, .int .i64 z11.inc, .int .i64 z11.mode, .int .i64 z11.clock, .int .i64 z11.sent, .slice z11.pA 0 z11.pc, .int .i64 z11.late]) br off (reportD sC 7) := by
          have h := hc 0 (by rw [hrs]; show 0 < 1; omega)
          rw [Nat.zero_mul, Nat.add_zero] at h
          simp only [hrs, List.getElem_cons_zero] at h
          exact h
        have r3 : ((w11.alloc (.cells #[.int .i64 0, .int .i64 0, .int .i64 0, .int .i64 0, .int .i64 0, .int .i64 0, .slice none 0 0, .int .i64 0, .int .i64 0, .slice none 0 0, .slice none 0 0, .slice none 0 0, .slice none 0 0, .slice none 0 0, .slice none 0 0, .int .i64 0, .slice none 0 0, .slice none 0 0, .slice none 0 0, .slice none 0 0, .int .i64 0, .int .i64 0, .int .i64 0, .int .i64 0, .slice none 0 0, .int .i64 0] 44)).setRow w11.heap.size #[.int .i64 z11.node, .int .i64 z11.boot, .int .i64 z11.above, .int .i64 z11.pos, .int .i64 z11.y.t, .int .i64 z11.pos, .slice none 0 0, .int .i64 z11.q.f, .int .i64 z11.q.g, .slice z11.qA z11.q.os.length z11.qc, .slice none 0 0, .slice none 0 0, .slice none 0 0, .slice none 0 0, .slice z11.y.bA z11.y.base.length z11.y.bc, .int .i64 z11.y.t, .slice z11.y.oA z11.y.ops.length z11.y.oc, .slice z11.y.uA z11.y.us.length z11.y.uc, .slice z11.y.wA z11.y.now.length z11.y.wc, .slice z11.cA z11.l.length z11.cc, .int .i64 z11.inc, .int .i64 z11.mode, .int .i64 z11.clock, .int .i64 z11.sent, .slice z11.pA 0 z11.pc, .int .i64 z11.late]).cell? ⟨br, off + 3, none⟩ = some (.int .i64 7) := hr0 3 _ rfl
        have r7 : ((w11.alloc (.cells #[.int .i64 0, .int .i64 0, .int .i64 0, .int .i64 0, .int .i64 0, .int .i64 0, .slice none 0 0, .int .i64 0, .int .i64 0, .slice none 0 0, .slice none 0 0, .slice none 0 0, .slice none 0 0, .slice none 0 0, .slice none 0 0, .int .i64 0, .slice none 0 0, .slice none 0 0, .slice none 0 0, .slice none 0 0, .int .i64 0, .int .i64 0, .int .i64 0, .int .i64 0, .slice none 0 0, .int .i64 0] 44)).setRow w11.heap.size #[.int .i64 z11.node, .int .i64 z11.boot, .int .i64 z11.above, .int .i64 z11.pos, .int .i64 z11.y.t, .int .i64 z11.pos, .slice none 0 0, .int .i64 z11.q.f, .int .i64 z11.q.g, .slice z11.qA z11.q.os.length z11.qc, .slice none 0 0, .slice none 0 0, .slice none 0 0, .slice none 0 0, .slice z11.y.bA z11.y.base.length z11.y.bc, .int .i64 z11.y.t, .slice z11.y.oA z11.y.ops.length z11.y.oc, .slice z11.y.uA z11.y.us.length z11.y.uc, .slice z11.y.wA z11.y.now.length z11.y.wc, .slice z11.cA z11.l.length z11.cc, .int .i64 z11.inc, .int .i64 z11.mode, .int .i64 z11.clock, .int .i64 z11.sent, .slice z11.pA 0 z11.pc, .int .i64 z11.late]).cell? ⟨br, off + 7, none⟩ = some (.int .i64 2) := hr0 7 _ (by kernel_rfl)
        have q3 : ((w11.alloc (.cells #[.int .i64 0, .int .i64 0, .int .i64 0, .int .i64 0, .int .i64 0, .int .i64 0, .slice none 0 0, .int .i64 0, .int .i64 0, .slice none 0 0, .slice none 0 0, .slice none 0 0, .slice none 0 0, .slice none 0 0, .slice none 0 0, .int .i64 0, .slice none 0 0, .slice none 0 0, .slice none 0 0, .slice none 0 0, .int .i64 0, .int .i64 0, .int .i64 0, .int .i64 0, .slice none 0 0, .int .i64 0] 44)).setRow w11.heap.size #[.int .i64 z11.node, .int .i64 z11.boot, .int .i64 z11.above, .int .i64 z11.pos, .int .i64 z11.y.t, .int .i64 z11.pos, .slice none 0 0, .int .i64 z11.q.f, .int .i64 z11.q.g, .slice z11.qA z11.q.os.length z11.qc, .slice none 0 0, .slice none 0 0, .slice none 0 0, .slice none 0 0, .slice z11.y.bA z11.y.base.length z11.y.bc, .int .i64 z11.y.t, .slice z11.y.oA z11.y.ops.length z11.y.oc, .slice z11.y.uA z11.y.us.length z11.y.uc, .slice z11.y.wA z11.y.now.length z11.y.wc, .slice z11.cA z11.l.length z11.cc, .int .i64 z11.inc, .int .i64 z11.mode, .int .i64 z11.clock, .int .i64 z11.sent, .slice z11.pA 0 z11.pc, .int .i64 z11.late]).cell? ⟨nf, 3, none⟩ = some (.int .i64 2) := by rw [hF.cell]; show some (Value.int .i64 f.x.first) = _; rw [hfx.out, sC_frame.1]
        have q4 : ((w11.alloc (.cells #[.int .i64 0, .int .i64 0, .int .i64 0, .int .i64 0, .int .i64 0, .int .i64 0, .slice none 0 0, .int .i64 0, .int .i64 0, .slice none 0 0, .slice none 0 0, .slice none 0 0, .slice none 0 0, .slice none 0 0, .slice none 0 0, .int .i64 0, .slice none 0 0, .slice none 0 0, .slice none 0 0, .slice none 0 0, .int .i64 0, .int .i64 0, .int .i64 0, .int .i64 0, .slice none 0 0, .int .i64 0] 44)).setRow w11.heap.size #[.int .i64 z11.node, .int .i64 z11.boot, .int .i64 z11.above, .int .i64 z11.pos, .int .i64 z11.y.t, .int .i64 z11.pos, .slice none 0 0, .int .i64 z11.q.f, .int .i64 z11.q.g, .slice z11.qA z11.q.os.length z11.qc, .slice none 0 0, .slice none 0 0, .slice none 0 0, .slice none 0 0, .slice z11.y.bA z11.y.base.length z11.y.bc, .int .i64 z11.y.t, .slice z11.y.oA z11.y.ops.length z11.y.oc, .slice z11.y.uA z11.y.us.length z11.y.uc, .slice z11.y.wA z11.y.now.length z11.y.wc, .slice z11.cA z11.l.length z11.cc, .int .i64 z11.inc, .int .i64 z11.mode, .int .i64 z11.clock, .int .i64 z11.sent, .slice z11.pA 0 z11.pc, .int .i64 z11.late]).cell? ⟨nf, 4, none⟩ = some (.slice f.oA 1 f.oc) := by rw [hF.cell]; show some (Value.slice f.oA f.x.os.length f.oc) = _; rw [hfx.out, sC_frame.2.1]
        have q5 : ((w11.alloc (.cells #[.int .i64 0, .int .i64 0, .int .i64 0, .int .i64 0, .int .i64 0, .int .i64 0, .slice none 0 0, .int .i64 0, .int .i64 0, .slice none 0 0, .slice none 0 0, .slice none 0 0, .slice none 0 0, .slice none 0 0, .slice none 0 0, .int .i64 0, .slice none 0 0, .slice none 0 0, .slice none 0 0, .slice none 0 0, .int .i64 0, .int .i64 0, .int .i64 0, .int .i64 0, .slice none 0 0, .int .i64 0] 44)).setRow w11.heap.size #[.int .i64 z11.node, .int .i64 z11.boot, .int .i64 z11.above, .int .i64 z11.pos, .int .i64 z11.y.t, .int .i64 z11.pos, .slice none 0 0, .int .i64 z11.q.f, .int .i64 z11.q.g, .slice z11.qA z11.q.os.length z11.qc, .slice none 0 0, .slice none 0 0, .slice none 0 0, .slice none 0 0, .slice z11.y.bA z11.y.base.length z11.y.bc, .int .i64 z11.y.t, .slice z11.y.oA z11.y.ops.length z11.y.oc, .slice z11.y.uA z11.y.us.length z11.y.uc, .slice z11.y.wA z11.y.now.length z11.y.wc, .slice z11.cA z11.l.length z11.cc, .int .i64 z11.inc, .int .i64 z11.mode, .int .i64 z11.clock, .int .i64 z11.sent, .slice z11.pA 0 z11.pc, .int .i64 z11.late]).cell? ⟨nf, 5, none⟩ = some (.int .i64 1) := by rw [hF.cell]; show some (Value.int .i64 f.x.pos) = _; rw [hfx.out, sC_frame.2.2]
        have q6 : ((w11.alloc (.cells #[.int .i64 0, .int .i64 0, .int .i64 0, .int .i64 0, .int .i64 0, .int .i64 0, .slice none 0 0, .int .i64 0, .int .i64 0, .slice none 0 0, .slice none 0 0, .slice none 0 0, .slice none 0 0, .slice none 0 0, .slice none 0 0, .int .i64 0, .slice none 0 0, .slice none 0 0, .slice none 0 0, .slice none 0 0, .int .i64 0, .int .i64 0, .int .i64 0, .int .i64 0, .slice none 0 0, .int .i64 0] 44)).setRow w11.heap.size #[.int .i64 z11.node, .int .i64 z11.boot, .int .i64 z11.above, .int .i64 z11.pos, .int .i64 z11.y.t, .int .i64 z11.pos, .slice none 0 0, .int .i64 z11.q.f, .int .i64 z11.q.g, .slice z11.qA z11.q.os.length z11.qc, .slice none 0 0, .slice none 0 0, .slice none 0 0, .slice none 0 0, .slice z11.y.bA z11.y.base.length z11.y.bc, .int .i64 z11.y.t, .slice z11.y.oA z11.y.ops.length z11.y.oc, .slice z11.y.uA z11.y.us.length z11.y.uc, .slice z11.y.wA z11.y.now.length z11.y.wc, .slice z11.cA z11.l.length z11.cc, .int .i64 z11.inc, .int .i64 z11.mode, .int .i64 z11.clock, .int .i64 z11.sent, .slice z11.pA 0 z11.pc, .int .i64 z11.late]).cell? ⟨nf, 6, none⟩ = some (.slice (some ⟨br, off, none⟩) 1 f.rc) := by rw [hF.cell]; show some (Value.slice f.rA f.x.rs.length f.rc) = _; rw [hrs, eA]; rfl
        have hq : ∀ w, (Instr.indexAt 35 (.slice (some ⟨br, off, none⟩) 1 f.rc) (.int .i64 0)).run Tryz.prog w = .ok (.pointer (some ⟨br, off, none⟩)) w := fun w => by go_simp
        clear hF hr0 hc hf eA hrs hfx
        go_wp2_with (first | (refine wpList_alloc_dv rfl rfl ?_) | (refine El.store dvRow rfl _ _ rfl w11.heap.size z11 #[.int .i64 z11.node, .int .i64 z11.boot, .int .i64 z11.above, .int .i64 z11.pos, .int .i64 z11.y.t, .int .i64 z11.pos, .slice none 0 0, .int .i64 z11.q.f, .int .i64 z11.q.g, .slice z11.qA z11.q.os.length z11.qc, .slice none 0 0, .slice none 0 0, .slice none 0 0, .slice none 0 0, .slice z11.y.bA z11.y.base.length z11.y.bc, .int .i64 z11.y.t, .slice z11.y.oA z11.y.ops.length z11.y.oc, .slice z11.y.uA z11.y.us.length z11.y.uc, .slice z11.y.wA z11.y.now.length z11.y.wc, .slice z11.cA z11.l.length z11.cc, .int .i64 z11.inc, .int .i64 z11.mode, .int .i64 z11.clock, .int .i64 z11.sent, .slice z11.pA 0 z11.pc, .int .i64 z11.late] rfl rfl rfl Dw.zero hZ4 ?_) | (refine El.load_if dvRow (by rfl) _ rfl n2 0 rfl z6 hE.at #[.int .i64 z6.node, .int .i64 z6.boot, .int .i64 z6.above, .int .i64 z6.pos, .int .i64 z6.y.t, .int .i64 z6.pos, .slice none 0 0, .int .i64 z6.q.f, .int .i64 z6.q.g, .slice z6.qA z6.q.os.length z6.qc, .slice none 0 0, .slice none 0 0, .slice none 0 0, .slice none 0 0, .slice z6.y.bA z6.y.base.length z6.y.bc, .int .i64 z6.y.t, .slice z6.y.oA z6.y.ops.length z6.y.oc, .slice z6.y.uA z6.y.us.length z6.y.uc, .slice z6.y.wA z6.y.now.length z6.y.wc, .slice z6.cA z6.l.length z6.cc, .int .i64 z6.inc, .int .i64 z6.mode, .int .i64 z6.clock, .int .i64 z6.sent, .slice z6.pA 0 z6.pc, .int .i64 z6.late] rfl ?_) | fail)
        refine (vectorAt H z6 _ hz hvz6 sC_r sC_vector).mono ?_
        rintro e w12 ⟨A12, k12, rfl, _, hb12⟩
        clear r3 r7 q3 q4 q5 q6 hq
        replace hN := hN.below hb12
        have n20 : w12.cell? ⟨nn, 20, none⟩ = some (.int .i64 2) := by rw [hN.cell]; show some (Value.int .i64 z10.inc) = _; rw [show z10.inc = 2 from (congrArg Dv.inc hvz10).trans sC_left.1]
        have n21 : w12.cell? ⟨nn, 21, none⟩ = some (.int .i64 2) := by rw [hN.cell]; show some (Value.int .i64 z10.mode) = _; rw [show z10.mode = 2 from (congrArg Dv.mode hvz10).trans sC_left.2]
        replace hB := below_then hB hb12
        clear hb12 hN hE hP hT hz
        go_wp2_with fail
        go_ret
        exact ⟨rfl, hB⟩
end Go.Proofs.YtdcjffajmckleaaGreatDoor

/- Devices, as values: a frame's entries from a place on; bounds on the way. -/
namespace Go.Proofs.YtdcjffajmckleaaGreatDoor
open Go.RowKit Nam Cod Tre Pst

/-- Entries one behind the other, as long as it is live. -/
def goF : Dv → List En → Dv
  | x, [] => x
  | x, e :: l => goF (if x.mode = 1 then followD x e else x) l
theorem goF_off : ∀ (l : List En) (x : Dv), x.mode ≠ 1 → goF x l = x
  | [], _, _ => rfl
  | e :: l, x, h => by
    show goF (if x.mode = 1 then followD x e else x) l = x
    rw [if_neg h]; exact goF_off l x h
theorem goF_append (l r : List En) (x : Dv) : goF x (l ++ r) = goF (goF x l) r := by
  induction l generalizing x with
  | nil => rfl
  | cons e l ih => exact ih _
theorem goF_next {l : List En} {k : Nat} (h : k < l.length) (x : Dv) (hm : (goF x (l.take k)).mode = 1) : goF x (l.take (k + 1)) = followD (goF x (l.take k)) l[k] := by
  rw [List.take_succ_eq_append_getElem h, goF_append]
  show goF (if (goF x (l.take k)).mode = 1 then _ else _) [] = _
  rw [if_pos hm]; rfl
theorem goF_end {l : List En} {k : Nat} (x : Dv) (hm : (goF x (l.take k)).mode ≠ 1) : goF x l = goF x (l.take k) := by
  have h := goF_append (l.take k) (l.drop k) x
  rw [List.take_append_drop] at h
  rw [h, goF_off _ _ hm]
theorem followD_pos (x : Dv) (e : En) : (followD x e).pos = x.pos + 1 := by
  unfold followD
  split
  · rfl
  · split
    · rfl
    · split <;> rfl
theorem goD_off : ∀ (l : List En) (x : Dv) (a : Int), x.mode ≠ 1 → goD x a l = x
  | [], _, _, _ => rfl
  | e :: l, x, a, h => by
    show goD (if x.mode = 1 ∧ a = x.pos + 1 then followD x e else x) (a + 1) l = x
    rw [if_neg (fun e => h e.1)]; exact goD_off l x _ h
theorem goD_far : ∀ (l : List En) (x : Dv) (a : Int), x.pos + 1 < a → goD x a l = x
  | [], _, _, _ => rfl
  | e :: l, x, a, h => by
    show goD (if x.mode = 1 ∧ a = x.pos + 1 then followD x e else x) (a + 1) l = x
    rw [if_neg (fun e => by have := e.2; omega)]; exact goD_far l x _ (by omega)
theorem goD_near : ∀ (l : List En) (x : Dv) (a : Int), a + l.length ≤ x.pos + 1 → goD x a l = x
  | [], _, _, _ => rfl
  | e :: l, x, a, h => by
    rw [List.length_cons] at h
    show goD (if x.mode = 1 ∧ a = x.pos + 1 then followD x e else x) (a + 1) l = x
    rw [if_neg (fun e => by have := e.2; omega)]; exact goD_near l x _ (by omega)
theorem goD_here : ∀ (l : List En) (x : Dv), goD x (x.pos + 1) l = goF x l
  | [], _ => rfl
  | e :: l, x => by
    show goD (if x.mode = 1 ∧ x.pos + 1 = x.pos + 1 then followD x e else x) (x.pos + 1 + 1) l = goF (if x.mode = 1 then followD x e else x) l
    by_cases h : x.mode = 1
    · rw [if_pos ⟨h, rfl⟩, if_pos h, ← goD_here l (followD x e), followD_pos]
    · rw [if_neg (fun e => h e.1), if_neg h, goD_off _ _ _ h, goF_off _ _ h]
theorem goD_drop : ∀ (l : List En) (x : Dv) (a : Int) (i : Nat), a + i = x.pos + 1 → goD x a l = goF x (l.drop i)
  | l, x, a, 0, h => by
    obtain rfl : a = x.pos + 1 := by omega
    exact goD_here l x
  | [], _, _, i + 1, _ => rfl
  | e :: l, x, a, i + 1, h => by
    show goD (if x.mode = 1 ∧ a = x.pos + 1 then followD x e else x) (a + 1) l = goF x (l.drop i)
    rw [if_neg (fun e => by have := e.2; omega)]; exact goD_drop l x _ i (by omega)
/-- Bounds of a state that follows: n entries since it came. -/
structure DvW (n : Nat) (x : Dv) : Prop where
  pos : 0 ≤ x.pos ∧ x.pos ≤ 4294967296 + n
  y : PInv x.y
  yl : x.y.ops.length ≤ 60 + n
  l : x.l.length ≤ 12 + n
  inc : 1 ≤ x.inc ∧ x.inc ≤ 4294967296 + n
  late : 0 ≤ x.late ∧ x.late ≤ 4294967296 + n
theorem settle_ops (q : Pv) (t : Int) : (settleV q t).ops.length ≤ q.ops.length := by
  unfold settleV
  split
  · exact Nat.le_refl _
  · show (List.drop _ _).length ≤ _
    rw [List.length_drop]; omega
theorem DvW.follow {n : Nat} {x : Dv} (h : DvW n x) {e : En} (he : entB e = true) : DvW (n + 1) (followD x e) := by
  have hp := h.pos
  have hi := h.inc
  have hl := h.late
  have hy := h.yl
  have hc := h.l
  have ht := tally_len x.l e
  have ha := addV_len x.y e.o
  unfold followD
  split
  · exact ⟨by show 0 ≤ x.pos + 1 ∧ x.pos + 1 ≤ _; omega, h.y, by show x.y.ops.length ≤ _; omega, by show (tally x.l e).length ≤ _; omega, by show 1 ≤ min (x.inc + 1) 1099511627776 ∧ min (x.inc + 1) 1099511627776 ≤ _; omega, by show 0 ≤ x.late ∧ x.late ≤ _; omega⟩
  · split
    · exact ⟨by show 0 ≤ x.pos + 1 ∧ x.pos + 1 ≤ _; omega, h.y, by show x.y.ops.length ≤ _; omega, by show (tally x.l e).length ≤ _; omega, by show 1 ≤ x.inc ∧ x.inc ≤ _; omega, by show 0 ≤ x.late ∧ x.late ≤ _; omega⟩
    · rename_i hk
      split
      · exact ⟨by show 0 ≤ x.pos + 1 ∧ x.pos + 1 ≤ _; omega, h.y, by show x.y.ops.length ≤ _; omega, by show (tally x.l e).length ≤ _; omega, by show 1 ≤ x.inc ∧ x.inc ≤ _; omega, by show 0 ≤ x.late ∧ x.late ≤ _; omega⟩
      · have hk1 : e.k = 1 := by omega
        refine ⟨by show 0 ≤ x.pos + 1 ∧ x.pos + 1 ≤ _; omega, h.y.add (by have h2 := he; unfold entB at h2; rw [if_pos hk1, Bool.and_eq_true] at h2; exact h2.2), by show (addV x.y e.o).1.ops.length ≤ _; omega, by show (tally x.l e).length ≤ _; omega, by show 1 ≤ x.inc ∧ x.inc ≤ _; omega, ?_⟩
        show 0 ≤ (if (addV x.y e.o).2 = true then x.late else x.late + 1) ∧ (if (addV x.y e.o).2 = true then x.late else x.late + 1) ≤ _
        split <;> omega
theorem goF_w {x : Dv} (h : DvW 0 x) {l : List En} (hl : ∀ e ∈ l, entB e = true) : ∀ (k : Nat), DvW k (goF x (l.take k))
  | 0 => h
  | k + 1 => by
    have ih := goF_w h hl k
    have hm : DvW (k + 1) (goF x (l.take k)) := ⟨⟨ih.pos.1, by have := ih.pos.2; omega⟩, ih.y, by have := ih.yl; omega, by have := ih.l; omega, ⟨ih.inc.1, by have := ih.inc.2; omega⟩, ⟨ih.late.1, by have := ih.late.2; omega⟩⟩
    rcases Nat.lt_or_ge k l.length with hk | hk
    · by_cases h1 : (goF x (l.take k)).mode = 1
      · rw [goF_next hk x h1]; exact ih.follow (hl _ (List.getElem_mem hk))
      · rw [← goF_end (k := k + 1) x (l := l) (by rw [show goF x (l.take (k + 1)) = goF x (l.take k) from by rw [List.take_succ_eq_append_getElem hk, goF_append, goF_off _ _ h1]]; exact h1), goF_end x h1]; exact hm
    · rw [List.take_of_length_le (by omega), ← List.take_of_length_le hk]; exact hm
end Go.Proofs.YtdcjffajmckleaaGreatDoor

/- A device's state on its way: its stream's three numbers may be unlike. -/
namespace Go.Proofs.YtdcjffajmckleaaGreatDoor
open Go.ChangeShapes Go.WideShapes Go.ChangeAt Go.RowKit Go.Deep Nam Cod Tre Pst Pln

structure Dz where
  x : Dw
  s : Int
  t : Int
def dzE : El Dz where
  e := 44
  k := 26
  c z := [.int .i64 z.x.node, .int .i64 z.x.boot, .int .i64 z.x.above, .int .i64 z.s, .int .i64 z.t, .int .i64 z.x.pos, .slice none 0 0, .int .i64 z.x.q.f, .int .i64 z.x.q.g, .slice z.x.qA z.x.q.os.length z.x.qc, .slice none 0 0, .slice none 0 0, .slice none 0 0, .slice none 0 0, .slice z.x.y.bA z.x.y.base.length z.x.y.bc, .int .i64 z.x.y.t, .slice z.x.y.oA z.x.y.ops.length z.x.y.oc, .slice z.x.y.uA z.x.y.us.length z.x.y.uc, .slice z.x.y.wA z.x.y.now.length z.x.y.wc, .slice z.x.cA z.x.l.length z.x.cc, .int .i64 z.x.inc, .int .i64 z.x.mode, .int .i64 z.x.clock, .int .i64 z.x.sent, .slice z.x.pA 0 z.x.pc, .int .i64 z.x.late]
  len _ := rfl
  one p u h := by
    simp only [List.mem_cons, List.not_mem_nil, or_false] at h
    rcases h with rfl | rfl | rfl | rfl | rfl | rfl | rfl | rfl | rfl | rfl | rfl | rfl | rfl | rfl | rfl | rfl | rfl | rfl | rfl | rfl | rfl | rfl | rfl | rfl | rfl | rfl <;> rfl
  pos := by decide
theorem dzRow : dzE.Row Tryz.prog := ⟨by kernel_rfl, _, Tryz.underlying44, rfl⟩
def Dw.z (x : Dw) : Dz := ⟨x, x.pos, x.y.t⟩
theorem dzE_cells (x : Dz) : ∀ v ∈ dzE.c x, (∃ k, v = .int .i64 k) ∨ ∃ a m c, v = .slice a m c := by
  intro v hv
  simp only [dzE, List.mem_cons, List.not_mem_nil, or_false] at hv
  rcases hv with rfl | rfl | rfl | rfl | rfl | rfl | rfl | rfl | rfl | rfl | rfl | rfl | rfl | rfl | rfl | rfl | rfl | rfl | rfl | rfl | rfl | rfl | rfl | rfl | rfl | rfl <;> first | exact Or.inl ⟨_, rfl⟩ | exact Or.inr ⟨_, _, _, rfl⟩
theorem dzE_cell {w : World} {n i : Nat} {v : Value} {x : Dz} (hZ : dzE.In w n x) (h : w.cell? ⟨n, i, none⟩ = some v) : (∃ k, v = .int .i64 k) ∨ ∃ a m c, v = .slice a m c := by
  rw [hZ.cell] at h
  exact dzE_cells x v (List.mem_of_getElem? h)
/-- A state's block is written: what another state's slices hold stays. -/
theorem Dw.ok.keepZ {w w' : World} {x : Dw} {z : Dz} {n : Nat} (h : x.ok w) (hZ : dzE.In w n z) (hg : w.grownBy w' (some n)) : x.ok w' := by
  have hp : ∀ off y, ¬ plE.At w n off y := fun off y ha => by
    rcases dzE_cell hZ (ha 2 _ rfl) with ⟨_, h⟩ | ⟨_, _, _, h⟩ <;> cases h
  have ho : ∀ off y, ¬ opE.At w n off y := fun off y ha => by
    rcases dzE_cell hZ (ha 6 _ rfl) with ⟨_, h⟩ | ⟨_, _, _, h⟩ <;> cases h
  have hu : ∀ off y, ¬ unE.At w n off y := fun off y ha => by
    rcases dzE_cell hZ (ha 2 _ rfl) with ⟨_, h⟩ | ⟨_, _, _, h⟩ <;> cases h
  have hne : ∀ a, x.cA = some a → a.block ≠ n := fun a e he => by
    obtain ⟨c, hc⟩ := h.t a e
    have hZ' : w.heap[n]? = some (.cells (dzE.c z).toArray 44 (0, 0)) := hZ
    rw [he, hZ'] at hc
    injection hc with hc
    injection hc with _ hc _
    exact absurd hc (by decide)
  refine ⟨⟨h.p.b.keepRD (fun o _ => hp o _) hg, h.p.o.keepRD (fun o _ => ho o _) hg, h.p.u.keepRD (fun o _ => hu o _) hg, h.p.w.keepRD (fun o _ => hp o _) hg⟩, h.q.keepRD (fun o _ => ho o _) hg, ⟨h.c.1.keep hg (fun a e e2 => hne a e (Option.some.inj e2)), h.c.2⟩, fun a e => ?_⟩
  obtain ⟨c, hc⟩ := h.t a e
  refine ⟨c, (hg.block _ ?_ (fun e2 => hne a e (Option.some.inj e2))).trans hc⟩
  rcases Nat.lt_or_ge a.block w.heap.size with h1 | h1
  · exact h1
  · rw [Array.getElem?_eq_none h1] at hc; cases hc
/-- A part of a state stored. -/
theorem wpList_store_dz {T : TypeId} {k : Nat} (hT : (Tryz.prog.info? T).map (·.size) = some k) {ops : Array Oper} {rest : List Oper} {o : Oper} {a : Act} {w : World} {Q : Exit → Act → World → Prop} (hgd : o.guard = none) (x y : Operand) (ho : o.op = .store T x y)
    (b off : Nat) (p z : Dz) (vs : List Value) (hvl : vs.length = k) (h1 : ∀ v ∈ vs, v.oneCell' = true) (hx : a.eval x = .pointer (some ⟨b, off, none⟩)) (hy : a.eval y = .agg vs.toArray) (hg : dzE.In w b p) (hz : (dzE.c p).take off ++ vs ++ (dzE.c p).drop (off + vs.length) = dzE.c z) (hfit : off + vs.length ≤ 26)
    (h : wpList Tryz.prog ops Q rest (a.put o.dst undef) (w.setRow b (dzE.c z).toArray)) : wpList Tryz.prog ops Q (o :: rest) a w :=
  wpList_plain hgd fun _ hK => by
    have hs := run_storeCells_at (P := Tryz.prog) b off 44 vs 0 (dzE.c p).toArray w hg (by show off + 0 + vs.length ≤ 26; omega) h1
    rw [Nat.add_zero, hz] at hs
    have hv : (storeVar T ⟨b, off, none⟩ (.agg vs.toArray)).run Tryz.prog w = .ok () (w.setRow b (dzE.c z).toArray) := by
      cases hq : Tryz.prog.info? T with
      | none => simp [hq] at hT
      | some inf =>
        have hinf : inf.size = k := by simpa [hq] using hT
        simp [storeVar, sizeOf, typeInfo, hq, Value.cells, hinf, hvl, hs]
    unfold Oper.wp execOp
    simp only [ho, hx, hy, Instr.storeAt, Instr.sureAddr, Sem.run_bind, Sem.run_pure, Result.andThen_ok, hv]
    exact hK _ _ h
/-- As a step of a region that draws. -/
theorem step_store_dz {T : TypeId} {k : Nat} (hT : (Tryz.prog.info? T).map (·.size) = some k) {ops : Array Oper} {o : Oper} {a : Act} {w : World} {K : Act → World → Prop} {Q : Exit → Act → World → Prop} {F : Prop} (hgd : o.guard = none) (x y : Operand) (ho : o.op = .store T x y)
    (b off : Nat) (p z : Dz) (vs : List Value) (hvl : vs.length = k) (h1 : ∀ v ∈ vs, v.oneCell' = true) (hx : a.eval x = .pointer (some ⟨b, off, none⟩)) (hy : a.eval y = .agg vs.toArray) (hg : dzE.In w b p) (hz : (dzE.c p).take off ++ vs ++ (dzE.c p).drop (off + vs.length) = dzE.c z) (hfit : off + vs.length ≤ 26)
    (h : K (a.put o.dst undef) (w.setRow b (dzE.c z).toArray)) : if Region.wanted o (yielded ops a.tmps) = true then Oper.wp Tryz.prog o a w K Q else F := by
  have hw : Region.wanted o (yielded ops a.tmps) = true := by simp [Region.wanted, hgd]
  rw [if_pos hw]
  have hs := run_storeCells_at (P := Tryz.prog) b off 44 vs 0 (dzE.c p).toArray w hg (by show off + 0 + vs.length ≤ 26; omega) h1
  rw [Nat.add_zero, hz] at hs
  have hv : (storeVar T ⟨b, off, none⟩ (.agg vs.toArray)).run Tryz.prog w = .ok () (w.setRow b (dzE.c z).toArray) := by
    cases hq : Tryz.prog.info? T with
    | none => simp [hq] at hT
    | some inf =>
      have hinf : inf.size = k := by simpa [hq] using hT
      simp [storeVar, sizeOf, typeInfo, hq, Value.cells, hinf, hvl, hs]
  unfold Oper.wp execOp
  simp only [ho, hx, hy, Instr.storeAt, Instr.sureAddr, Sem.run_bind, Sem.run_pure, Result.andThen_ok, hv]
  exact h
theorem El.quiet_loadZ {α : Type} {E : El α} {P : Program} (R : El.Row E P) {C : World → Prop} {o : Oper} {a : Act} {K : Act → Prop} (x : Operand) (ho : o.op = .load E.e x) (b off : Nat) (hx : a.eval x = .pointer (some ⟨b, off, none⟩)) (p : α) (hg : ∀ w, C w → E.At w b off p) (cs : Array Value) (hc : cs = (E.c p).toArray) (h : K (a.put o.dst (.agg cs))) : o.quiet P a C K := by
  subst hc
  refine ⟨.agg (E.c p).toArray, fun w hw => ?_, h⟩
  unfold Oper.quietAt execOp
  simp only [ho, hx, Instr.loadAt, Instr.sureAddr, Sem.run_bind, Sem.run_pure, Result.andThen_ok, El.run_load R (hg w hw)]
  exact ⟨rfl, rfl⟩
def Dw.Q (x : Dw) : Qw := ⟨x.qA, x.qc, x.q⟩
theorem dz_q {w : World} {b : Nat} {z : Dz} (h : dzE.In w b z) : quE.At w b 7 z.x.Q := fun j u hu => by
  match j, hu with
  | 0, hu => rw [h.cell]; exact hu
  | 1, hu => rw [h.cell]; exact hu
  | 2, hu => rw [h.cell]; exact hu
theorem dz_p {w : World} {b : Nat} {z : Dz} (h : dzE.In w b z) : pwE.At w b 14 z.x.y := fun j u hu => by
  match j, hu with
  | 0, hu => rw [h.cell]; exact hu
  | 1, hu => rw [h.cell]; exact hu
  | 2, hu => rw [h.cell]; exact hu
  | 3, hu => rw [h.cell]; exact hu
  | 4, hu => rw [h.cell]; exact hu
theorem dzIn {w : World} {b : Nat} {z : Dz} (h : dzE.In w b z) : w.cell? ⟨b, 0, none⟩ = some (.int .i64 z.x.node) ∧ w.cell? ⟨b, 1, none⟩ = some (.int .i64 z.x.boot) ∧ w.cell? ⟨b, 2, none⟩ = some (.int .i64 z.x.above) ∧ w.cell? ⟨b, 3, none⟩ = some (.int .i64 z.s) ∧ w.cell? ⟨b, 4, none⟩ = some (.int .i64 z.t) ∧ w.cell? ⟨b, 5, none⟩ = some (.int .i64 z.x.pos) ∧ w.cell? ⟨b, 7, none⟩ = some (.int .i64 z.x.q.f) ∧ w.cell? ⟨b, 9, none⟩ = some (.slice z.x.qA z.x.q.os.length z.x.qc) ∧ w.cell? ⟨b, 15, none⟩ = some (.int .i64 z.x.y.t) ∧ w.cell? ⟨b, 18, none⟩ = some (.slice z.x.y.wA z.x.y.now.length z.x.y.wc) ∧ w.cell? ⟨b, 19, none⟩ = some (.slice z.x.cA z.x.l.length z.x.cc) ∧ w.cell? ⟨b, 20, none⟩ = some (.int .i64 z.x.inc) ∧ w.cell? ⟨b, 21, none⟩ = some (.int .i64 z.x.mode) ∧ w.cell? ⟨b, 22, none⟩ = some (.int .i64 z.x.clock) ∧ w.cell? ⟨b, 23, none⟩ = some (.int .i64 z.x.sent) ∧ w.cell? ⟨b, 24, none⟩ = some (.slice z.x.pA 0 z.x.pc) ∧ w.cell? ⟨b, 25, none⟩ = some (.int .i64 z.x.late) :=
  ⟨h.cell 0, h.cell 1, h.cell 2, h.cell 3, h.cell 4, h.cell 5, h.cell 7, h.cell 9, h.cell 15, h.cell 18, h.cell 19, h.cell 20, h.cell 21, h.cell 22, h.cell 23, h.cell 24, h.cell 25⟩
end Go.Proofs.YtdcjffajmckleaaGreatDoor

/- The program's Leave. -/
namespace Go.Proofs.YtdcjffajmckleaaGreatDoor
open Go.RowKit Nam Cod Tre Pst Pln

def leaveW (x : Dw) : Dw := { x with mode := 2, inc := min (x.inc + 1) 1099511627776, sent := 0, pA := none, pc := 0 }
set_option maxRecDepth 100000 in
set_option maxHeartbeats 4000000 in
theorem leave18_any (x : Dw) (w : World) (hx : x.ok w) (hi : -4611686018427387904 ≤ x.inc ∧ x.inc ≤ 4611686018427387904) :
    Calls Tryz.prog 20 #[.agg #[.int .i64 x.node, .int .i64 x.boot, .int .i64 x.above, .int .i64 x.pos, .int .i64 x.y.t, .int .i64 x.pos, .slice none 0 0, .int .i64 x.q.f, .int .i64 x.q.g, .slice x.qA x.q.os.length x.qc, .slice none 0 0, .slice none 0 0, .slice none 0 0, .slice none 0 0, .slice x.y.bA x.y.base.length x.y.bc, .int .i64 x.y.t, .slice x.y.oA x.y.ops.length x.y.oc, .slice x.y.uA x.y.us.length x.y.uc, .slice x.y.wA x.y.now.length x.y.wc, .slice x.cA x.l.length x.cc, .int .i64 x.inc, .int .i64 x.mode, .int .i64 x.clock, .int .i64 x.sent, .slice x.pA 0 x.pc, .int .i64 x.late]] w fun e w' => e = .returned (.agg #[.int .i64 (leaveW x).node, .int .i64 (leaveW x).boot, .int .i64 (leaveW x).above, .int .i64 (leaveW x).pos, .int .i64 (leaveW x).y.t, .int .i64 (leaveW x).pos, .slice none 0 0, .int .i64 (leaveW x).q.f, .int .i64 (leaveW x).q.g, .slice (leaveW x).qA (leaveW x).q.os.length (leaveW x).qc, .slice none 0 0, .slice none 0 0, .slice none 0 0, .slice none 0 0, .slice (leaveW x).y.bA (leaveW x).y.base.length (leaveW x).y.bc, .int .i64 (leaveW x).y.t, .slice (leaveW x).y.oA (leaveW x).y.ops.length (leaveW x).y.oc, .slice (leaveW x).y.uA (leaveW x).y.us.length (leaveW x).y.uc, .slice (leaveW x).y.wA (leaveW x).y.now.length (leaveW x).y.wc, .slice (leaveW x).cA (leaveW x).l.length (leaveW x).cc, .int .i64 (leaveW x).inc, .int .i64 (leaveW x).mode, .int .i64 (leaveW x).clock, .int .i64 (leaveW x).sent, .slice (leaveW x).pA 0 (leaveW x).pc, .int .i64 (leaveW x).late]) ∧ (leaveW x).ok w' ∧ Below w.heap.size w w' := by
  have hZ : dvE.In (w.alloc (.cells #[.int .i64 x.node, .int .i64 x.boot, .int .i64 x.above, .int .i64 x.pos, .int .i64 x.y.t, .int .i64 x.pos, .slice none 0 0, .int .i64 x.q.f, .int .i64 x.q.g, .slice x.qA x.q.os.length x.qc, .slice none 0 0, .slice none 0 0, .slice none 0 0, .slice none 0 0, .slice x.y.bA x.y.base.length x.y.bc, .int .i64 x.y.t, .slice x.y.oA x.y.ops.length x.y.oc, .slice x.y.uA x.y.us.length x.y.uc, .slice x.y.wA x.y.now.length x.y.wc, .slice x.cA x.l.length x.cc, .int .i64 x.inc, .int .i64 x.mode, .int .i64 x.clock, .int .i64 x.sent, .slice x.pA 0 x.pc, .int .i64 x.late] 44)) w.heap.size x := El.In.new (E := dvE) w x _ rfl
  have hB := below_alloc (Below.refl w.heap.size w) (.cells #[.int .i64 x.node, .int .i64 x.boot, .int .i64 x.above, .int .i64 x.pos, .int .i64 x.y.t, .int .i64 x.pos, .slice none 0 0, .int .i64 x.q.f, .int .i64 x.q.g, .slice x.qA x.q.os.length x.qc, .slice none 0 0, .slice none 0 0, .slice none 0 0, .slice none 0 0, .slice x.y.bA x.y.base.length x.y.bc, .int .i64 x.y.t, .slice x.y.oA x.y.ops.length x.y.oc, .slice x.y.uA x.y.us.length x.y.uc, .slice x.y.wA x.y.now.length x.y.wc, .slice x.cA x.l.length x.cc, .int .i64 x.inc, .int .i64 x.mode, .int .i64 x.clock, .int .i64 x.sent, .slice x.pA 0 x.pc, .int .i64 x.late] 44)
  have hok := hx.below hB
  go_enter Tryz.func20, Tryz.ntmps20
  have hY0 : dvE.In ((w.alloc (.cells #[.int .i64 x.node, .int .i64 x.boot, .int .i64 x.above, .int .i64 x.pos, .int .i64 x.y.t, .int .i64 x.pos, .slice none 0 0, .int .i64 x.q.f, .int .i64 x.q.g, .slice x.qA x.q.os.length x.qc, .slice none 0 0, .slice none 0 0, .slice none 0 0, .slice none 0 0, .slice x.y.bA x.y.base.length x.y.bc, .int .i64 x.y.t, .slice x.y.oA x.y.ops.length x.y.oc, .slice x.y.uA x.y.us.length x.y.uc, .slice x.y.wA x.y.now.length x.y.wc, .slice x.cA x.l.length x.cc, .int .i64 x.inc, .int .i64 x.mode, .int .i64 x.clock, .int .i64 x.sent, .slice x.pA 0 x.pc, .int .i64 x.late] 44)).alloc (.cells #[.int .i64 0, .int .i64 0, .int .i64 0, .int .i64 0, .int .i64 0, .int .i64 0, .slice none 0 0, .int .i64 0, .int .i64 0, .slice none 0 0, .slice none 0 0, .slice none 0 0, .slice none 0 0, .slice none 0 0, .slice none 0 0, .int .i64 0, .slice none 0 0, .slice none 0 0, .slice none 0 0, .slice none 0 0, .int .i64 0, .int .i64 0, .int .i64 0, .int .i64 0, .slice none 0 0, .int .i64 0] 44)) (w.alloc (.cells #[.int .i64 x.node, .int .i64 x.boot, .int .i64 x.above, .int .i64 x.pos, .int .i64 x.y.t, .int .i64 x.pos, .slice none 0 0, .int .i64 x.q.f, .int .i64 x.q.g, .slice x.qA x.q.os.length x.qc, .slice none 0 0, .slice none 0 0, .slice none 0 0, .slice none 0 0, .slice x.y.bA x.y.base.length x.y.bc, .int .i64 x.y.t, .slice x.y.oA x.y.ops.length x.y.oc, .slice x.y.uA x.y.us.length x.y.uc, .slice x.y.wA x.y.now.length x.y.wc, .slice x.cA x.l.length x.cc, .int .i64 x.inc, .int .i64 x.mode, .int .i64 x.clock, .int .i64 x.sent, .slice x.pA 0 x.pc, .int .i64 x.late] 44)).heap.size Dw.zero := El.In.new (E := dvE) (w.alloc (.cells #[.int .i64 x.node, .int .i64 x.boot, .int .i64 x.above, .int .i64 x.pos, .int .i64 x.y.t, .int .i64 x.pos, .slice none 0 0, .int .i64 x.q.f, .int .i64 x.q.g, .slice x.qA x.q.os.length x.qc, .slice none 0 0, .slice none 0 0, .slice none 0 0, .slice none 0 0, .slice x.y.bA x.y.base.length x.y.bc, .int .i64 x.y.t, .slice x.y.oA x.y.ops.length x.y.oc, .slice x.y.uA x.y.us.length x.y.uc, .slice x.y.wA x.y.now.length x.y.wc, .slice x.cA x.l.length x.cc, .int .i64 x.inc, .int .i64 x.mode, .int .i64 x.clock, .int .i64 x.sent, .slice x.pA 0 x.pc, .int .i64 x.late] 44)) Dw.zero _ rfl
  rw [alloc_size] at hY0
  have hal := below_alloc (Below.refl (w.alloc (.cells #[.int .i64 x.node, .int .i64 x.boot, .int .i64 x.above, .int .i64 x.pos, .int .i64 x.y.t, .int .i64 x.pos, .slice none 0 0, .int .i64 x.q.f, .int .i64 x.q.g, .slice x.qA x.q.os.length x.qc, .slice none 0 0, .slice none 0 0, .slice none 0 0, .slice none 0 0, .slice x.y.bA x.y.base.length x.y.bc, .int .i64 x.y.t, .slice x.y.oA x.y.ops.length x.y.oc, .slice x.y.uA x.y.us.length x.y.uc, .slice x.y.wA x.y.now.length x.y.wc, .slice x.cA x.l.length x.cc, .int .i64 x.inc, .int .i64 x.mode, .int .i64 x.clock, .int .i64 x.sent, .slice x.pA 0 x.pc, .int .i64 x.late] 44)).heap.size (w.alloc (.cells #[.int .i64 x.node, .int .i64 x.boot, .int .i64 x.above, .int .i64 x.pos, .int .i64 x.y.t, .int .i64 x.pos, .slice none 0 0, .int .i64 x.q.f, .int .i64 x.q.g, .slice x.qA x.q.os.length x.qc, .slice none 0 0, .slice none 0 0, .slice none 0 0, .slice none 0 0, .slice x.y.bA x.y.base.length x.y.bc, .int .i64 x.y.t, .slice x.y.oA x.y.ops.length x.y.oc, .slice x.y.uA x.y.us.length x.y.uc, .slice x.y.wA x.y.now.length x.y.wc, .slice x.cA x.l.length x.cc, .int .i64 x.inc, .int .i64 x.mode, .int .i64 x.clock, .int .i64 x.sent, .slice x.pA 0 x.pc, .int .i64 x.late] 44))) (.cells #[.int .i64 0, .int .i64 0, .int .i64 0, .int .i64 0, .int .i64 0, .int .i64 0, .slice none 0 0, .int .i64 0, .int .i64 0, .slice none 0 0, .slice none 0 0, .slice none 0 0, .slice none 0 0, .slice none 0 0, .slice none 0 0, .int .i64 0, .slice none 0 0, .slice none 0 0, .slice none 0 0, .slice none 0 0, .int .i64 0, .int .i64 0, .int .i64 0, .int .i64 0, .slice none 0 0, .int .i64 0] 44)
  replace hZ := hZ.below hal
  replace hok := hok.below hal
  replace hB := below_then hB hal
  clear hal hx
  go_upto_region 1 with (first | (refine wpList_alloc_dv rfl rfl ?_) | fail)
  rw [alloc_size]
  generalize (w.alloc (.cells #[.int .i64 x.node, .int .i64 x.boot, .int .i64 x.above, .int .i64 x.pos, .int .i64 x.y.t, .int .i64 x.pos, .slice none 0 0, .int .i64 x.q.f, .int .i64 x.q.g, .slice x.qA x.q.os.length x.qc, .slice none 0 0, .slice none 0 0, .slice none 0 0, .slice none 0 0, .slice x.y.bA x.y.base.length x.y.bc, .int .i64 x.y.t, .slice x.y.oA x.y.ops.length x.y.oc, .slice x.y.uA x.y.us.length x.y.uc, .slice x.y.wA x.y.now.length x.y.wc, .slice x.cA x.l.length x.cc, .int .i64 x.inc, .int .i64 x.mode, .int .i64 x.clock, .int .i64 x.sent, .slice x.pA 0 x.pc, .int .i64 x.late] 44)).alloc (.cells #[.int .i64 0, .int .i64 0, .int .i64 0, .int .i64 0, .int .i64 0, .int .i64 0, .slice none 0 0, .int .i64 0, .int .i64 0, .slice none 0 0, .slice none 0 0, .slice none 0 0, .slice none 0 0, .slice none 0 0, .slice none 0 0, .int .i64 0, .slice none 0 0, .slice none 0 0, .slice none 0 0, .slice none 0 0, .int .i64 0, .int .i64 0, .int .i64 0, .int .i64 0, .slice none 0 0, .int .i64 0] 44) = W at *
  obtain ⟨n1, hn1⟩ : ∃ n1, w.heap.size = n1 := ⟨_, rfl⟩
  obtain ⟨n2, hn2⟩ : ∃ n2, w.heap.size + 1 = n2 := ⟨_, rfl⟩
  have hne : n1 ≠ n2 := by omega
  have hw1 : w.heap.size ≤ n1 := by omega
  have hw2 : w.heap.size ≤ n2 := by omega
  rw [hn2] at hY0 ⊢
  rw [hn1] at hZ ⊢
  clear hn1 hn2
  obtain ⟨i1, hi1⟩ : ∃ i1 : Int, min x.inc 1099511627775 = i1 := ⟨_, rfl⟩
  have hmin : min x.inc 1099511627775 + 1 = min (x.inc + 1) 1099511627776 := by omega
  have hwr : IntKind.i64.wrap (i1 + 1) = min (x.inc + 1) 1099511627776 := by rw [IntKind.wrap_i64]; omega
  have c20 : W.cell? ⟨n1, 20, none⟩ = some (.int .i64 x.inc) := hZ.cell 20
  have c21 : W.cell? ⟨n1, 21, none⟩ = some (.int .i64 x.mode) := hZ.cell 21
  have c23 : W.cell? ⟨n1, 23, none⟩ = some (.int .i64 x.sent) := hZ.cell 23
  have c24 : W.cell? ⟨n1, 24, none⟩ = some (.slice x.pA 0 x.pc) := hZ.cell 24
  have qf := hZ.frozen
  clear hmin hi
  go_upto_region 5 with fail
  clear c20 c21 c23 c24 qf hwr hi1
  have g4 := by_cell2 (by_cell2 (by_cell2 (by_cell W n1 21 (.int .i64 2)) 20 (.int .i64 (min (x.inc + 1) 1099511627776))) 23 (.int .i64 0)) 24 (.slice none 0 0)
  replace hok : (leaveW x).ok (((W.setCell ⟨n1, 21, none⟩ (.int .i64 2)).setCell ⟨n1, 20, none⟩ (.int .i64 (min (x.inc + 1) 1099511627776))).setCell ⟨n1, 23, none⟩ (.int .i64 0) |>.setCell ⟨n1, 24, none⟩ (.slice none 0 0)) := by
    obtain ⟨a, b, c, d⟩ := hok.keepB hZ g4
    exact ⟨a, b, c, d⟩
  replace hZ := (((hZ.put { x with mode := 2 } 21 (.int .i64 2) rfl).put { x with mode := 2, inc := min (x.inc + 1) 1099511627776 } 20 (.int .i64 (min (x.inc + 1) 1099511627776)) rfl).put { x with mode := 2, inc := min (x.inc + 1) 1099511627776, sent := 0 } 23 (.int .i64 0) rfl).put (leaveW x) 24 (.slice none 0 0) rfl
  replace hY0 := (((hY0.other n1 21 (.int .i64 2) (Ne.symm hne)).other n1 20 (.int .i64 (min (x.inc + 1) 1099511627776)) (Ne.symm hne)).other n1 23 (.int .i64 0) (Ne.symm hne)).other n1 24 (.slice none 0 0) (Ne.symm hne)
  replace hB := Below.setCell (Below.setCell (Below.setCell (Below.setCell hB (p := ⟨n1, 21, none⟩) hw1 (.int .i64 2)) (p := ⟨n1, 20, none⟩) hw1 (.int .i64 (min (x.inc + 1) 1099511627776))) (p := ⟨n1, 23, none⟩) hw1 (.int .i64 0)) (p := ⟨n1, 24, none⟩) hw1 (.slice none 0 0)
  clear g4
  generalize (((W.setCell ⟨n1, 21, none⟩ (.int .i64 2)).setCell ⟨n1, 20, none⟩ (.int .i64 (min (x.inc + 1) 1099511627776))).setCell ⟨n1, 23, none⟩ (.int .i64 0)).setCell ⟨n1, 24, none⟩ (.slice none 0 0) = V at *
  go_wp2_with (first | (refine El.load dvRow rfl _ rfl n1 0 rfl (leaveW x) hZ.at #[.int .i64 (leaveW x).node, .int .i64 (leaveW x).boot, .int .i64 (leaveW x).above, .int .i64 (leaveW x).pos, .int .i64 (leaveW x).y.t, .int .i64 (leaveW x).pos, .slice none 0 0, .int .i64 (leaveW x).q.f, .int .i64 (leaveW x).q.g, .slice (leaveW x).qA (leaveW x).q.os.length (leaveW x).qc, .slice none 0 0, .slice none 0 0, .slice none 0 0, .slice none 0 0, .slice (leaveW x).y.bA (leaveW x).y.base.length (leaveW x).y.bc, .int .i64 (leaveW x).y.t, .slice (leaveW x).y.oA (leaveW x).y.ops.length (leaveW x).y.oc, .slice (leaveW x).y.uA (leaveW x).y.us.length (leaveW x).y.uc, .slice (leaveW x).y.wA (leaveW x).y.now.length (leaveW x).y.wc, .slice (leaveW x).cA (leaveW x).l.length (leaveW x).cc, .int .i64 (leaveW x).inc, .int .i64 (leaveW x).mode, .int .i64 (leaveW x).clock, .int .i64 (leaveW x).sent, .slice (leaveW x).pA 0 (leaveW x).pc, .int .i64 (leaveW x).late] rfl ?_) | (refine El.store dvRow rfl _ _ rfl n2 (leaveW x) #[.int .i64 (leaveW x).node, .int .i64 (leaveW x).boot, .int .i64 (leaveW x).above, .int .i64 (leaveW x).pos, .int .i64 (leaveW x).y.t, .int .i64 (leaveW x).pos, .slice none 0 0, .int .i64 (leaveW x).q.f, .int .i64 (leaveW x).q.g, .slice (leaveW x).qA (leaveW x).q.os.length (leaveW x).qc, .slice none 0 0, .slice none 0 0, .slice none 0 0, .slice none 0 0, .slice (leaveW x).y.bA (leaveW x).y.base.length (leaveW x).y.bc, .int .i64 (leaveW x).y.t, .slice (leaveW x).y.oA (leaveW x).y.ops.length (leaveW x).y.oc, .slice (leaveW x).y.uA (leaveW x).y.us.length (leaveW x).y.uc, .slice (leaveW x).y.wA (leaveW x).y.now.length (leaveW x).y.wc, .slice (leaveW x).cA (leaveW x).l.length (leaveW x).cc, .int .i64 (leaveW x).inc, .int .i64 (leaveW x).mode, .int .i64 (leaveW x).clock, .int .i64 (leaveW x).sent, .slice (leaveW x).pA 0 (leaveW x).pc, .int .i64 (leaveW x).late] rfl rfl rfl Dw.zero hY0 ?_) | fail)
  refine El.ret1 dvRow (hY0.set (leaveW x) _ rfl) rfl rfl rfl _ rfl ?_
  exact ⟨rfl, hok.keepB hY0 (by_row _ _ _), below_setRow hB hw2 _⟩
end Go.Proofs.YtdcjffajmckleaaGreatDoor

/- The document's Tally. -/
namespace Go.Proofs.YtdcjffajmckleaaGreatDoor
open Go.RowKit Nam Cod

theorem cutC_next {l : List Cn} {d : Int} {k : Nat} (hk : k ≤ cutC l d) (h : k < l.length) (hd : l[k].d < d) : k + 1 ≤ cutC l d := by
  rcases Nat.lt_or_ge k (cutC l d) with h1 | h1
  · exact h1
  · obtain rfl : k = cutC l d := by omega
    have := cutC_ge l d h; omega
theorem cutC_here {l : List Cn} {d : Int} {k : Nat} (hk : k ≤ cutC l d) (h : k = l.length ∨ ∃ h : k < l.length, d ≤ l[k].d) : k = cutC l d := by
  rcases Nat.lt_or_ge k (cutC l d) with h1 | h1
  · exfalso
    have := cutC_le l d
    rcases h with h | ⟨h, h2⟩
    · omega
    · have := cutC_lt l d k h h1; omega
  · omega
theorem putC_yes {l : List Cn} {c : Cn} {k : Nat} {x : Int} (hk : k = cutC l c.d) (h : k < l.length) (hx : l[k].d = x) (he : x = c.d) : putC l c = (l.take k ++ [c]) ++ l.drop (k + 1) := by
  subst hk he
  have hh : hereC l c.d = 1 := by unfold hereC; rw [dif_pos h, if_pos hx]
  unfold putC
  rw [hh, List.append_assoc]; rfl
theorem putC_no {l : List Cn} {c : Cn} {k : Nat} (hk : k = cutC l c.d) (h : k = l.length ∨ ∃ (h : k < l.length), ¬ l[k].d = c.d) : putC l c = (l.take k ++ [c]) ++ l.drop k := by
  subst hk
  have hh : hereC l c.d = 0 := by
    unfold hereC
    rcases h with h | ⟨h, h2⟩
    · rw [dif_neg (by omega)]
    · rw [dif_pos h, if_neg h2]
  unfold putC
  rw [hh, List.append_assoc]; rfl
end Go.Proofs.YtdcjffajmckleaaGreatDoor

/- The program's entries: Tally. -/
namespace Go.Proofs.YtdcjffajmckleaaGreatDoor
open Go.RowKit Nam Cod
theorem infoCn : (Tryz.prog.info? 73).map (fun i => (i.zero, i.size, i.bytes)) = some (some (.agg #[.int .i64 0, .int .i64 0, .int .i64 0]), 3, 24) := by kernel_rfl
set_option maxRecDepth 100000 in
theorem growCn_any (B n : Nat) (w : World) (hn : n ≤ 2000) (hB : B ≤ w.heap.size) :
    Calls Tryz.prog 117 #[.slice none 0 0, .int .i64 n] w fun e w' => ∃ v, e = .returned v ∧ cnE.Own w' B v [] ∧ Below w.heap.size w w' := by
  by_cases h0 : n = 0
  · subst h0
    go_enter Tryz.func117, Tryz.ntmps117
    go_wp2
    go_ret
    exact ⟨_, rfl, El.Own.nil _ B, Below.refl _ _⟩
  · obtain ⟨i, hi, hz, hz1, hz2⟩ := info_parts infoCn
    have hr := fun ty => Lib.run_append_nil_zeros (P := Tryz.prog) w 41 3 ty 73 i _ .i64 .i64 Tryz.underlying41 Tryz.underlying3 hi hz n (by omega) (by omega) (by omega) (by rw [hz2]; omega)
    have hg1 : n ≤ grownCap w n 0 73 := grownCap_ge w n 0 _
    have hg2 : grownCap w n 0 73 ≤ maxLen := grownCap_le_maxLen w n 0 73 (by unfold maxLen; omega)
    have hown : cnE.Own (w.drew.alloc (.cells (Builtin.zeroCells (Value.agg #[.int .i64 0, .int .i64 0, .int .i64 0]).cells n ++ Builtin.zeroCells (Value.agg #[.int .i64 0, .int .i64 0, .int .i64 0]).cells (grownCap w n 0 73 - n)) 73)) B (.slice (some ⟨w.heap.size, 0, none⟩) 0 (grownCap w n 0 73)) [] := by
      refine World.ownsRow_made w.drew _ (grownCap w n 0 73) hB hg2 ?_
      rw [Array.size_append, size_zeroCells, size_zeroCells]
      show n * 3 + (grownCap w n 0 73 - n) * 3 = _ * 3
      omega
    have hnx : Below w.heap.size w (w.drew.alloc (.cells (Builtin.zeroCells (Value.agg #[.int .i64 0, .int .i64 0, .int .i64 0]).cells n ++ Builtin.zeroCells (Value.agg #[.int .i64 0, .int .i64 0, .int .i64 0]).cells (grownCap w n 0 73 - n)) 73)) := below_alloc (Below.refl _ w).drew _
    generalize grownCap w n 0 73 = cap at *
    generalize w.drew.alloc (.cells (Builtin.zeroCells (Value.agg #[.int .i64 0, .int .i64 0, .int .i64 0]).cells n ++ Builtin.zeroCells (Value.agg #[.int .i64 0, .int .i64 0, .int .i64 0]).cells (cap - n)) 73) = W at *
    go_enter Tryz.func117, Tryz.ntmps117
    go_wp2_with (at_builtin; refine Lib.wpList_append_run _ rfl _ _ 41 3 rfl _ _ rfl rfl _ _ (hr _) ?_)
    go_wp2
    go_ret
    exact ⟨_, rfl, hown, hnx⟩

def pickC {α : Type} (a b c : α) : Nat → α
  | 0 => a
  | 1 => b
  | _ => c

set_option maxRecDepth 100000 in
set_option maxHeartbeats 2000000 in
theorem place_any (A : Option Addr) (cap : Nat) (l : List Cn) (d : Int) (w : World) (hl : l.length ≤ 1000) (hT : cnE.Sl w A l) :
    Calls Tryz.prog 97 #[.slice A l.length cap, .int .i64 d] w fun r w' => r = .returned (.int .i64 (cutC l d)) ∧ Below w.heap.size w w' := by
  have hB := Below.refl w.heap.size w
  go_enter Tryz.func97, Tryz.ntmps97
  go_wp2
  go_loopw [9] (fun y wr => ∃ k : Nat, k ≤ cutC l d ∧ y = .int .i64 k ∧ Below w.heap.size w wr) (fun y _ => l.length - (intOf y).toNat)
  case atStart => exact ⟨0, Nat.zero_le _, rfl, hB⟩
  case round =>
    clear hB
    obtain ⟨k, hk, rfl, hB⟩ := hrel
    by_cases hkl : k < l.length
    · obtain ⟨b, off, hA, hbw, hc⟩ := hT (by omega)
      have hat : cnE.At wr b (off + k * 3) l[k] := (hc k hkl).below hB hbw
      have hx : ∀ w, (Instr.indexAt 41 (.slice A l.length cap) (.int .i64 k)).run Tryz.prog w = .ok (.pointer (some ⟨b, off + k * 3, none⟩)) w := fun w => by
        subst hA
        have h2 : (k : Int) < (l.length : Int) := by omega
        go_simp
      obtain ⟨s0, s1, s2⟩ := cnAt3 hat
      have hki : (k : Int) < (l.length : Int) := by omega
      by_cases hd : l[k].d < d
      · have HN := Lib.hid (cutC_next hk hkl hd)
        have f1 : decide (d ≤ l[k].d) = false := decide_eq_false (by omega)
        clear hc hat hA
        generalize l[k].d = x0 at *
        generalize l[k].i = x1 at *
        generalize l[k].n = x2 at *
        go_wp2_with fail
        go_roundw
        case rel => exact ⟨k + 1, HN.out, by go_num, below_alloc hB _⟩
        case measure => simp [intOf]; omega
      · have HX := Lib.hid (cutC_here hk (Or.inr ⟨hkl, by omega⟩))
        have f1 : decide (d ≤ l[k].d) = true := decide_eq_true (by omega)
        clear hc hat hA
        generalize l[k].d = x0 at *
        generalize l[k].i = x1 at *
        generalize l[k].n = x2 at *
        go_wp2_with fail
        go_ret
        exact ⟨by rw [← HX.out]; rfl, below_alloc hB _⟩
    · have hke : k = l.length := by have := cutC_le l d; omega
      have HX := Lib.hid (show l.length = cutC l d by have := cutC_here hk (Or.inl hke); omega)
      have f1 : decide ((k : Int) < (l.length : Int)) = false := decide_eq_false (by omega)
      have f2 : decide (k < l.length) = false := decide_eq_false (by omega)
      clear hke hkl
      go_wp2_with fail
      go_ret
      exact ⟨by rw [← HX.out]; rfl, hB⟩

end Go.Proofs.YtdcjffajmckleaaGreatDoor
