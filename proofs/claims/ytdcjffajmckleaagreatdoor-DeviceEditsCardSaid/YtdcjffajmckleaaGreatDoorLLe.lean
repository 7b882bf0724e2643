/- DeviceEdits is proved: a device takes edits up to its quota, then tells that it is busy, and changes nothing; its moments rise, its numbers follow on. Conditions: the library's tables read, when the call begins, as the program's own text lays them (the card ties that; no table is read below). -/
import Derived.Test.YtdcjffajmckleaaGreatDoorE08
import Derived.BigQuiet
import Derived.Deep.CutRange
import Derived.Deep.RegionHeld3
import Derived.Lib.QuietBelow
/- The law's some, texts, same of two devices' states. -/
namespace Go.Proofs.YtdcjffajmckleaaGreatDoor
open Go.RowKit Nam Cod Tre Pst Pln

theorem texts0c_any (A B : Option Addr) (c d : Nat) (w : World) : Calls Tryz.prog 30 #[.slice A 0 c, .slice B 0 d] w fun e w' => e = .returned (.bool true) ∧ Below w.heap.size w w' := by
  go_enter Tryz.func30, Tryz.ntmps30
  go_wp2_with fail
  go_loopw [5] (fun i wr => i = .int .i64 0 ∧ wr = w) (fun i _ => 0)
  case atStart => exact ⟨rfl, rfl⟩
  case round =>
    obtain ⟨rfl, rfl⟩ := hrel
    go_wp2_with fail
    go_ret
    exact ⟨rfl, Below.refl _ _⟩

theorem El.quiet_load18 {α : Type} {E : El α} {P : Program} (R : El.Row E P) {C : World → Prop} {o : Oper} {a : Act} {K : Act → Prop} (x : Operand) (ho : o.op = .load E.e x) (b off : Nat) (hx : a.eval x = .pointer (some ⟨b, off, none⟩)) (p : α) (hg : ∀ w, C w → E.At w b off p) (cs : Array Value) (hc : cs = (E.c p).toArray) (h : K (a.put o.dst (.agg cs))) : o.quiet P a C K := by
  subst hc
  refine ⟨.agg (E.c p).toArray, fun w hw => ?_, h⟩
  unfold Oper.quietAt execOp
  simp only [ho, hx, Instr.loadAt, Instr.sureAddr, Sem.run_bind, Sem.run_pure, Result.andThen_ok, El.run_load R (hg w hw)]
  exact ⟨rfl, rfl⟩
theorem dv_past {w : World} {n : Nat} {x : Dw} (h : dvE.In w n x) : pwE.At w n 14 x.y := fun j u hu => by
  rw [h.cell]
  match j, hu with
  | 0, hu => exact hu
  | 1, hu => exact hu
  | 2, hu => exact hu
  | 3, hu => exact hu
  | 4, hu => exact hu
  | j + 5, hu => cases hu
theorem cnB_w {c : Cn} (h : (0 ≤ c.d ∧ c.d < 12) ∧ (1 ≤ c.i ∧ c.i ≤ 1099511627776) ∧ 0 ≤ c.n ∧ c.n ≤ 1099511627776) : CnW c := by
  unfold CnW i64
  omega
set_option maxRecDepth 100000 in
set_option maxHeartbeats 16000000 in
theorem same18_any (x z : Dw) (w : World) (hr : DvR x.v) (hx : x.ok w) (hz : z.ok w) (hv : x.v = z.v) : Calls Tryz.prog 11 #[.agg #[.int .i64 x.node, .int .i64 x.boot, .int .i64 x.above, .int .i64 x.pos, .int .i64 x.y.t, .int .i64 x.pos, .slice none 0 0, .int .i64 x.q.f, .int .i64 x.q.g, .slice x.qA x.q.os.length x.qc, .slice none 0 0, .slice none 0 0, .slice none 0 0, .slice none 0 0, .slice x.y.bA x.y.base.length x.y.bc, .int .i64 x.y.t, .slice x.y.oA x.y.ops.length x.y.oc, .slice x.y.uA x.y.us.length x.y.uc, .slice x.y.wA x.y.now.length x.y.wc, .slice x.cA x.l.length x.cc, .int .i64 x.inc, .int .i64 x.mode, .int .i64 x.clock, .int .i64 x.sent, .slice x.pA 0 x.pc, .int .i64 x.late], .agg #[.int .i64 z.node, .int .i64 z.boot, .int .i64 z.above, .int .i64 z.pos, .int .i64 z.y.t, .int .i64 z.pos, .slice none 0 0, .int .i64 z.q.f, .int .i64 z.q.g, .slice z.qA z.q.os.length z.qc, .slice none 0 0, .slice none 0 0, .slice none 0 0, .slice none 0 0, .slice z.y.bA z.y.base.length z.y.bc, .int .i64 z.y.t, .slice z.y.oA z.y.ops.length z.y.oc, .slice z.y.uA z.y.us.length z.y.uc, .slice z.y.wA z.y.now.length z.y.wc, .slice z.cA z.l.length z.cc, .int .i64 z.inc, .int .i64 z.mode, .int .i64 z.clock, .int .i64 z.sent, .slice z.pA 0 z.pc, .int .i64 z.late]] w fun e w' => e = .returned (.bool true) ∧ Below w.heap.size w w' := by
  have hX : dvE.In ((w.alloc (.cells #[.int .i64 x.node, .int .i64 x.boot, .int .i64 x.above, .int .i64 x.pos, .int .i64 x.y.t, .int .i64 x.pos, .slice none 0 0, .int .i64 x.q.f, .int .i64 x.q.g, .slice x.qA x.q.os.length x.qc, .slice none 0 0, .slice none 0 0, .slice none 0 0, .slice none 0 0, .slice x.y.bA x.y.base.length x.y.bc, .int .i64 x.y.t, .slice x.y.oA x.y.ops.length x.y.oc, .slice x.y.uA x.y.us.length x.y.uc, .slice x.y.wA x.y.now.length x.y.wc, .slice x.cA x.l.length x.cc, .int .i64 x.inc, .int .i64 x.mode, .int .i64 x.clock, .int .i64 x.sent, .slice x.pA 0 x.pc, .int .i64 x.late] 44)).alloc (.cells #[.int .i64 z.node, .int .i64 z.boot, .int .i64 z.above, .int .i64 z.pos, .int .i64 z.y.t, .int .i64 z.pos, .slice none 0 0, .int .i64 z.q.f, .int .i64 z.q.g, .slice z.qA z.q.os.length z.qc, .slice none 0 0, .slice none 0 0, .slice none 0 0, .slice none 0 0, .slice z.y.bA z.y.base.length z.y.bc, .int .i64 z.y.t, .slice z.y.oA z.y.ops.length z.y.oc, .slice z.y.uA z.y.us.length z.y.uc, .slice z.y.wA z.y.now.length z.y.wc, .slice z.cA z.l.length z.cc, .int .i64 z.inc, .int .i64 z.mode, .int .i64 z.clock, .int .i64 z.sent, .slice z.pA 0 z.pc, .int .i64 z.late] 44)) w.heap.size x := (El.In.new (E := dvE) w x _ rfl).alloc _
  have hZ : dvE.In ((w.alloc (.cells #[.int .i64 x.node, .int .i64 x.boot, .int .i64 x.above, .int .i64 x.pos, .int .i64 x.y.t, .int .i64 x.pos, .slice none 0 0, .int .i64 x.q.f, .int .i64 x.q.g, .slice x.qA x.q.os.length x.qc, .slice none 0 0, .slice none 0 0, .slice none 0 0, .slice none 0 0, .slice x.y.bA x.y.base.length x.y.bc, .int .i64 x.y.t, .slice x.y.oA x.y.ops.length x.y.oc, .slice x.y.uA x.y.us.length x.y.uc, .slice x.y.wA x.y.now.length x.y.wc, .slice x.cA x.l.length x.cc, .int .i64 x.inc, .int .i64 x.mode, .int .i64 x.clock, .int .i64 x.sent, .slice x.pA 0 x.pc, .int .i64 x.late] 44)).alloc (.cells #[.int .i64 z.node, .int .i64 z.boot, .int .i64 z.above, .int .i64 z.pos, .int .i64 z.y.t, .int .i64 z.pos, .slice none 0 0, .int .i64 z.q.f, .int .i64 z.q.g, .slice z.qA z.q.os.length z.qc, .slice none 0 0, .slice none 0 0, .slice none 0 0, .slice none 0 0, .slice z.y.bA z.y.base.length z.y.bc, .int .i64 z.y.t, .slice z.y.oA z.y.ops.length z.y.oc, .slice z.y.uA z.y.us.length z.y.uc, .slice z.y.wA z.y.now.length z.y.wc, .slice z.cA z.l.length z.cc, .int .i64 z.inc, .int .i64 z.mode, .int .i64 z.clock, .int .i64 z.sent, .slice z.pA 0 z.pc, .int .i64 z.late] 44)) (w.heap.size + 1) z := by
    have h := El.In.new (E := dvE) (w.alloc (.cells #[.int .i64 x.node, .int .i64 x.boot, .int .i64 x.above, .int .i64 x.pos, .int .i64 x.y.t, .int .i64 x.pos, .slice none 0 0, .int .i64 x.q.f, .int .i64 x.q.g, .slice x.qA x.q.os.length x.qc, .slice none 0 0, .slice none 0 0, .slice none 0 0, .slice none 0 0, .slice x.y.bA x.y.base.length x.y.bc, .int .i64 x.y.t, .slice x.y.oA x.y.ops.length x.y.oc, .slice x.y.uA x.y.us.length x.y.uc, .slice x.y.wA x.y.now.length x.y.wc, .slice x.cA x.l.length x.cc, .int .i64 x.inc, .int .i64 x.mode, .int .i64 x.clock, .int .i64 x.sent, .slice x.pA 0 x.pc, .int .i64 x.late] 44)) z _ rfl
    rw [alloc_size] at h; exact h
  have hB := below_alloc (below_alloc (Below.refl w.heap.size w) (.cells #[.int .i64 x.node, .int .i64 x.boot, .int .i64 x.above, .int .i64 x.pos, .int .i64 x.y.t, .int .i64 x.pos, .slice none 0 0, .int .i64 x.q.f, .int .i64 x.q.g, .slice x.qA x.q.os.length x.qc, .slice none 0 0, .slice none 0 0, .slice none 0 0, .slice none 0 0, .slice x.y.bA x.y.base.length x.y.bc, .int .i64 x.y.t, .slice x.y.oA x.y.ops.length x.y.oc, .slice x.y.uA x.y.us.length x.y.uc, .slice x.y.wA x.y.now.length x.y.wc, .slice x.cA x.l.length x.cc, .int .i64 x.inc, .int .i64 x.mode, .int .i64 x.clock, .int .i64 x.sent, .slice x.pA 0 x.pc, .int .i64 x.late] 44)) (.cells #[.int .i64 z.node, .int .i64 z.boot, .int .i64 z.above, .int .i64 z.pos, .int .i64 z.y.t, .int .i64 z.pos, .slice none 0 0, .int .i64 z.q.f, .int .i64 z.q.g, .slice z.qA z.q.os.length z.qc, .slice none 0 0, .slice none 0 0, .slice none 0 0, .slice none 0 0, .slice z.y.bA z.y.base.length z.y.bc, .int .i64 z.y.t, .slice z.y.oA z.y.ops.length z.y.oc, .slice z.y.uA z.y.us.length z.y.uc, .slice z.y.wA z.y.now.length z.y.wc, .slice z.cA z.l.length z.cc, .int .i64 z.inc, .int .i64 z.mode, .int .i64 z.clock, .int .i64 z.sent, .slice z.pA 0 z.pc, .int .i64 z.late] 44)
  have e0 : z.node = x.node := (congrArg Dv.node hv).symm
  have e1 : z.boot = x.boot := (congrArg Dv.boot hv).symm
  have e2 : z.above = x.above := (congrArg Dv.above hv).symm
  have e3 : z.pos = x.pos := (congrArg Dv.pos hv).symm
  have e4 : z.q = x.q := (congrArg Dv.q hv).symm
  have e5 : z.y.v = x.y.v := (congrArg Dv.y hv).symm
  have e6 : z.l = x.l := (congrArg Dv.l hv).symm
  have e7 : z.inc = x.inc := (congrArg Dv.inc hv).symm
  have e8 : z.mode = x.mode := (congrArg Dv.mode hv).symm
  have e9 : z.clock = x.clock := (congrArg Dv.clock hv).symm
  have e10 : z.sent = x.sent := (congrArg Dv.sent hv).symm
  have e11 : z.late = x.late := (congrArg Dv.late hv).symm
  have e12 : z.y.t = x.y.t := congrArg Pv.t e5
  have hzops : z.y.ops.length ≤ 60 := by rw [show z.y.ops = x.y.ops from congrArg Pv.ops e5]; exact hr.yl
  have i1 : i64 x.pos := by have := hr.pos; show i64 x.v.pos; unfold i64; omega
  have i2 : i64 x.clock := by have := hr.clock; show i64 x.v.clock; unfold i64; omega
  have hzl : z.l.length = x.l.length := by rw [e6]
  have HF1 := Lib.hid (fun (wx : World) (h : Below w.heap.size w wx) => refFreeze_any x.pos x.clock x.y x.cA x.cc x.l wx i1 i2 hr.y hr.yl (hx.p.below h) (by have := hr.l.1; show x.v.l.length ≤ 1000; omega) (fun c hc => cnB_w (hr.lw c hc)) (hx.c.below h).1)
  have HF2 := Lib.hid (fun (wx : World) (h : Below w.heap.size w wx) => (by
    have h2 := refFreeze_any x.pos x.clock z.y z.cA z.cc z.l wx i1 i2 (by rw [e5]; exact hr.y) hzops (hz.p.below h) (by rw [e6]; have := hr.l.1; show x.v.l.length ≤ 1000; omega) (fun c hc => cnB_w (hr.lw c (by rw [e6] at hc; exact hc))) (hz.c.below h).1
    rw [e5, hzl, e6] at h2
    exact h2 : Calls Tryz.prog 29 #[.int .i64 x.pos, .int .i64 x.clock, .agg #[.slice z.y.bA z.y.base.length z.y.bc, .int .i64 z.y.t, .slice z.y.oA z.y.ops.length z.y.oc, .slice z.y.uA z.y.us.length z.y.uc, .slice z.y.wA z.y.now.length z.y.wc], .slice z.cA x.l.length z.cc] wx fun e w' => e = .returned (.string (snBytes ⟨x.pos, x.clock, x.y.v, x.l⟩)) ∧ Below wx.heap.size wx w'))
  have HSO := Lib.hid (fun (wx : World) (h : Below w.heap.size w wx) => (by
    have h2 := sameOp_any x.qA z.qA x.qc z.qc x.q.os x.q.os wx (by have := hr.ql; show x.v.q.os.length ≤ _; omega) (by have := hr.ql; show x.v.q.os.length ≤ _; omega) (hx.q.below h).1 (by have h3 := (hz.q.below h).1; rw [e4] at h3; exact h3)
    exact h2.mono (fun e w' ⟨b, h4, h5, h6⟩ => ⟨by rw [h4, h5.2 rfl], h6⟩) : Calls Tryz.prog 18 #[.slice x.qA x.q.os.length x.qc, .slice z.qA x.q.os.length z.qc] wx fun e w' => e = .returned (.bool true) ∧ Below wx.heap.size wx w'))
  have HTX := Lib.hid (fun (wx : World) => texts0c_any x.pA z.pA x.pc z.pc wx)
  have HEE := Lib.hid (And.intro e0 (And.intro e1 (And.intro e2 (And.intro e3 (And.intro e4 (And.intro e6 (And.intro e7 (And.intro e8 (And.intro e9 (And.intro e10 (And.intro e11 e12)))))))))))
  clear e0 e1 e2 e3 e4 e5 e6 e7 e8 e9 e10 e11 e12 hzops hzl i1 i2 hv
  go_enter Tryz.func11, Tryz.ntmps11
  go_upto_region 1 with fail
  generalize (w.alloc (.cells #[.int .i64 x.node, .int .i64 x.boot, .int .i64 x.above, .int .i64 x.pos, .int .i64 x.y.t, .int .i64 x.pos, .slice none 0 0, .int .i64 x.q.f, .int .i64 x.q.g, .slice x.qA x.q.os.length x.qc, .slice none 0 0, .slice none 0 0, .slice none 0 0, .slice none 0 0, .slice x.y.bA x.y.base.length x.y.bc, .int .i64 x.y.t, .slice x.y.oA x.y.ops.length x.y.oc, .slice x.y.uA x.y.us.length x.y.uc, .slice x.y.wA x.y.now.length x.y.wc, .slice x.cA x.l.length x.cc, .int .i64 x.inc, .int .i64 x.mode, .int .i64 x.clock, .int .i64 x.sent, .slice x.pA 0 x.pc, .int .i64 x.late] 44)).alloc (.cells #[.int .i64 z.node, .int .i64 z.boot, .int .i64 z.above, .int .i64 z.pos, .int .i64 z.y.t, .int .i64 z.pos, .slice none 0 0, .int .i64 z.q.f, .int .i64 z.q.g, .slice z.qA z.q.os.length z.qc, .slice none 0 0, .slice none 0 0, .slice none 0 0, .slice none 0 0, .slice z.y.bA z.y.base.length z.y.bc, .int .i64 z.y.t, .slice z.y.oA z.y.ops.length z.y.oc, .slice z.y.uA z.y.us.length z.y.uc, .slice z.y.wA z.y.now.length z.y.wc, .slice z.cA z.l.length z.cc, .int .i64 z.inc, .int .i64 z.mode, .int .i64 z.clock, .int .i64 z.sent, .slice z.pA 0 z.pc, .int .i64 z.late] 44) = V at *
  obtain ⟨n3, h3⟩ : ∃ n, w.heap.size + 1 = n := ⟨_, rfl⟩
  obtain ⟨n2, h2⟩ : ∃ n, w.heap.size = n := ⟨_, rfl⟩
  rw [h3] at hZ ⊢
  rw [h2] at hX ⊢
  clear h2 h3
  have hZc := dvIn26 hZ
  obtain ⟨e0, e1, e2, e3, e4, e6, e7, e8, e9, e10, e11, e12⟩ := HEE.out
  simp only [e0, e1, e2, e3, e4, e6, e7, e8, e9, e10, e11, e12] at hZc
  obtain ⟨gx0, gx1, gx2, gx3, gx4, gx5, gx6, gx7, gx8, gx9, gx14, gx15, gx16, gx17, gx18, gx19, gx20, gx21, gx22, gx23, gx24, gx25⟩ := dvIn26 hX
  obtain ⟨gz0, gz1, gz2, gz3, gz4, gz5, gz6, gz7, gz8, gz9, gz14, gz15, gz16, gz17, gz18, gz19, gz20, gz21, gz22, gz23, gz24, gz25⟩ := hZc
  have kx0 := cell_regrown gx0
  have kz0 := cell_regrown gz0
  have kx1 := cell_regrown gx1
  have kz1 := cell_regrown gz1
  have kx2 := cell_regrown gx2
  have kz2 := cell_regrown gz2
  have kx3 := cell_regrown gx3
  have kz3 := cell_regrown gz3
  have kx4 := cell_regrown gx4
  have kz4 := cell_regrown gz4
  have kx5 := cell_regrown gx5
  have kz5 := cell_regrown gz5
  have kx7 := cell_regrown gx7
  have kz7 := cell_regrown gz7
  have kx8 := cell_regrown gx8
  have kz8 := cell_regrown gz8
  have kx9 := cell_regrown gx9
  have kz9 := cell_regrown gz9
  have kx19 := cell_regrown gx19
  have kz19 := cell_regrown gz19
  have kx20 := cell_regrown gx20
  have kz20 := cell_regrown gz20
  have kx21 := cell_regrown gx21
  have kz21 := cell_regrown gz21
  have kx22 := cell_regrown gx22
  have kz22 := cell_regrown gz22
  have kx23 := cell_regrown gx23
  have kz23 := cell_regrown gz23
  have kx24 := cell_regrown gx24
  have kz24 := cell_regrown gz24
  have kx25 := cell_regrown gx25
  have kz25 := cell_regrown gz25
  have HPX := Lib.hid (fun (w' : World) (h : ∃ p : Regrown, w' = Sort.grow (redrawn V p.d) p.os) => (by obtain ⟨p, rfl⟩ := h; exact dv_past (hX.below (below_regrown V p.d p.os)) : pwE.At w' n2 14 x.y))
  have HPZ := Lib.hid (fun (w' : World) (h : ∃ p : Regrown, w' = Sort.grow (redrawn V p.d) p.os) => (by obtain ⟨p, rfl⟩ := h; exact dv_past (hZ.below (below_regrown V p.d p.os)) : pwE.At w' n3 14 z.y))
  have d1 : ∀ d' os, Calls Tryz.prog 29 #[.int .i64 x.pos, .int .i64 x.clock, .agg #[.slice x.y.bA x.y.base.length x.y.bc, .int .i64 x.y.t, .slice x.y.oA x.y.ops.length x.y.oc, .slice x.y.uA x.y.us.length x.y.uc, .slice x.y.wA x.y.now.length x.y.wc], .slice x.cA x.l.length x.cc] (Sort.grow (redrawn V d') os) fun e w'' => e = .returned (.string (snBytes ⟨x.pos, x.clock, x.y.v, x.l⟩)) ∧ ∃ p : Regrown, w'' = Sort.grow (redrawn V p.d) p.os := fun d' os => Calls.regrown_of (HF1.out _ (below_then hB (below_regrown V d' os)))
  have d2 : ∀ d' os, Calls Tryz.prog 29 #[.int .i64 x.pos, .int .i64 x.clock, .agg #[.slice z.y.bA z.y.base.length z.y.bc, .int .i64 z.y.t, .slice z.y.oA z.y.ops.length z.y.oc, .slice z.y.uA z.y.us.length z.y.uc, .slice z.y.wA z.y.now.length z.y.wc], .slice z.cA x.l.length z.cc] (Sort.grow (redrawn V d') os) fun e w'' => e = .returned (.string (snBytes ⟨x.pos, x.clock, x.y.v, x.l⟩)) ∧ ∃ p : Regrown, w'' = Sort.grow (redrawn V p.d) p.os := fun d' os => Calls.regrown_of (HF2.out _ (below_then hB (below_regrown V d' os)))
  have d3 : ∀ d' os, Calls Tryz.prog 18 #[.slice x.qA x.q.os.length x.qc, .slice z.qA x.q.os.length z.qc] (Sort.grow (redrawn V d') os) fun e w'' => e = .returned (.bool true) ∧ ∃ p : Regrown, w'' = Sort.grow (redrawn V p.d) p.os := fun d' os => Calls.regrown_of (HSO.out _ (below_then hB (below_regrown V d' os)))
  have d4 : ∀ d' os, Calls Tryz.prog 30 #[.slice x.pA 0 x.pc, .slice z.pA 0 z.pc] (Sort.grow (redrawn V d') os) fun e w'' => e = .returned (.bool true) ∧ ∃ p : Regrown, w'' = Sort.grow (redrawn V p.d) p.os := fun d' os => Calls.regrown_of (HTX.out _)
  have HB := Lib.hid hB
  clear HEE gx0 gx1 gx2 gx3 gx4 gx5 gx6 gx7 gx8 gx9 gx14 gx15 gx16 gx17 gx18 gx19 gx20 gx21 gx22 gx23 gx24 gx25 gz0 gz1 gz2 gz3 gz4 gz5 gz6 gz7 gz8 gz9 gz14 gz15 gz16 gz17 gz18 gz19 gz20 gz21 gz22 gz23 gz24 gz25 hX hZ hB HF1 HF2 HSO HTX e0 e1 e2 e3 e4 e6 e7 e8 e9 e10 e11 e12 hr hx hz
  generalize snBytes ⟨x.pos, x.clock, x.y.v, x.l⟩ = SB at *
  simp only [List.append_eq, List.cons_append, List.nil_append]
  refine wp_region_quiet_below (by kernel_rfl) (lexB_of 123 16 (by kernel_rfl) (by kernel_rfl) (by as_aux_lemma => kernel_rfl) (by decide) (fun c hc => by
    match c, hc with
    | 0, _ => (show _ = true); as_aux_lemma => kernel_rfl
    | 1, _ => (show _ = true); as_aux_lemma => kernel_rfl
    | 2, _ => (show _ = true); as_aux_lemma => kernel_rfl
    | 3, _ => (show _ = true); as_aux_lemma => kernel_rfl
    | 4, _ => (show _ = true); as_aux_lemma => kernel_rfl
    | 5, _ => (show _ = true); as_aux_lemma => kernel_rfl
    | 6, _ => (show _ = true); as_aux_lemma => kernel_rfl
    | 7, _ => (show _ = true); as_aux_lemma => kernel_rfl
    | 8, _ => (show _ = true); as_aux_lemma => kernel_rfl
    | 9, _ => (show _ = true); as_aux_lemma => kernel_rfl
    | 10, _ => (show _ = true); as_aux_lemma => kernel_rfl
    | 11, _ => (show _ = true); as_aux_lemma => kernel_rfl
    | 12, _ => (show _ = true); as_aux_lemma => kernel_rfl
    | 13, _ => (show _ = true); as_aux_lemma => kernel_rfl
    | 14, _ => (show _ = true); as_aux_lemma => kernel_rfl
    | 15, _ => (show _ = true); as_aux_lemma => kernel_rfl
    | c + 16, hc => exact absurd hc (by omega))) ?_
  repeat (first | (go_big_quiet_want; (first | (refine El.quiet_load18 pwRow (.tmp 10) rfl n2 14 rfl x.y HPX.out #[.slice x.y.bA x.y.base.length x.y.bc, .int .i64 x.y.t, .slice x.y.oA x.y.ops.length x.y.oc, .slice x.y.uA x.y.us.length x.y.uc, .slice x.y.wA x.y.now.length x.y.wc] rfl ?_) | (refine El.quiet_load18 pwRow (.tmp 20) rfl n3 14 rfl z.y HPZ.out #[.slice z.y.bA z.y.base.length z.y.bc, .int .i64 z.y.t, .slice z.y.oA z.y.ops.length z.y.oc, .slice z.y.uA z.y.us.length z.y.uc, .slice z.y.wA z.y.now.length z.y.wc] rfl ?_)); go_big_quiet_on; try simp only [Act.put, List.setIfInBounds_toArray, List.set_cons_zero, List.set_cons_succ]) | go_big_quiet_step ((with_reducible (first | exact d1 _ _ | exact d2 _ _ | exact d3 _ _ | exact d4 _ _))))
  refine wpQuiet_nil ?_
  intro _ hw'
  obtain ⟨⟨dq, osq⟩, hw''⟩ := hw'
  subst hw''
  go_wp2_with fail
  go_ret
  exact ⟨rfl, below_then HB.out (below_regrown V dq osq)⟩
end Go.Proofs.YtdcjffajmckleaaGreatDoor

/- The law DeviceEdits. -/
namespace Go.Proofs.YtdcjffajmckleaaGreatDoor
open Go.RowKit Nam Cod Tre Pst Pln

theorem plIdx18e {A : Option Addr} {b off len cap k : Nat} (hA : A = some ⟨b, off, none⟩) (h : k < len) : ∀ w, (Instr.indexAt 22 (.slice A len cap) (.int .i64 k)).run Tryz.prog w = .ok (.pointer (some ⟨b, off + k * 3, none⟩)) w := fun w => by
  subst hA
  have h2 : (k : Int) < (len : Int) := by omega
  go_simp

def EdS (n1 n2 m : Nat) (q : Int) (z : Dw) (b off : Nat) (p : Pl) (w : World) : Prop := pnE.In w n1 (pl18 m q) ∧ dvE.In w n2 z ∧ plE.At w b off p
set_option maxRecDepth 100000 in
set_option maxHeartbeats 16000000 in
theorem edits18_any (H : DeviceCalls) (HA : ∀ wx : World, Calls Tryz.prog 6 #[] wx fun e w' => e = .returned (.bool true) ∧ Below wx.heap.size wx w')
    (HSM : ∀ (x z : Dw) (w : World), DvR x.v → x.ok w → z.ok w → x.v = z.v → Calls Tryz.prog 11 #[.agg #[.int .i64 x.node, .int .i64 x.boot, .int .i64 x.above, .int .i64 x.pos, .int .i64 x.y.t, .int .i64 x.pos, .slice none 0 0, .int .i64 x.q.f, .int .i64 x.q.g, .slice x.qA x.q.os.length x.qc, .slice none 0 0, .slice none 0 0, .slice none 0 0, .slice none 0 0, .slice x.y.bA x.y.base.length x.y.bc, .int .i64 x.y.t, .slice x.y.oA x.y.ops.length x.y.oc, .slice x.y.uA x.y.us.length x.y.uc, .slice x.y.wA x.y.now.length x.y.wc, .slice x.cA x.l.length x.cc, .int .i64 x.inc, .int .i64 x.mode, .int .i64 x.clock, .int .i64 x.sent, .slice x.pA 0 x.pc, .int .i64 x.late], .agg #[.int .i64 z.node, .int .i64 z.boot, .int .i64 z.above, .int .i64 z.pos, .int .i64 z.y.t, .int .i64 z.pos, .slice none 0 0, .int .i64 z.q.f, .int .i64 z.q.g, .slice z.qA z.q.os.length z.qc, .slice none 0 0, .slice none 0 0, .slice none 0 0, .slice none 0 0, .slice z.y.bA z.y.base.length z.y.bc, .int .i64 z.y.t, .slice z.y.oA z.y.ops.length z.y.oc, .slice z.y.uA z.y.us.length z.y.uc, .slice z.y.wA z.y.now.length z.y.wc, .slice z.cA z.l.length z.cc, .int .i64 z.inc, .int .i64 z.mode, .int .i64 z.clock, .int .i64 z.sent, .slice z.pA 0 z.pc, .int .i64 z.late]] w fun e w' => e = .returned (.bool true) ∧ Below w.heap.size w w')
    (A : Option Addr) (c : Nat) (l : List Pl) (t : Int) (w : World) (hT0 : plE.Sl w A l) (hlw : ∀ p ∈ l, i64 p.n ∧ i64 p.u ∧ p.s.size ≤ 9223372036854775807) (ht : 0 ≤ t ∧ t ≤ 255) :
    Calls Tryz.prog 3 #[.slice A l.length c, .int .u8 t] w fun e w' => e = .returned (.bool true) ∧ Below w.heap.size w w' := by
  have HT0 := Lib.hid hT0
  have HLW := Lib.hid hlw
  clear hT0 hlw
  go_enter Tryz.func3, Tryz.ntmps3
  by_cases hl : 30 < l.length
  · have f1 : decide ((30 : Int) < (l.length : Int)) = true := decide_eq_true (by omega)
    clear hl
    go_wp2_with fail
    refine (HA _).mono ?_
    rintro e w1 ⟨rfl, hb⟩
    go_wp2_with fail
    go_ret
    exact ⟨rfl, hb⟩
  · have f1 : decide ((30 : Int) < (l.length : Int)) = false := decide_eq_false (by omega)
    have hlen : l.length ≤ 100000 := by omega
    go_wp2_with fail
    refine (some18_any w).mono ?_
    rintro e w1 ⟨m, rfl, hT, hB⟩
    have hP : pnE.In (w1.alloc (.cells #[.slice (some ⟨m, 0, none⟩) 3 3, .int .i64 2, .int .i64 3, .int .i64 2, .int .i64 20, .int .i64 2, .int .i64 32, .int .i64 4, .int .i64 16] 26)) w1.heap.size (pl18 m 2) := El.In.new (E := pnE) w1 (pl18 m 2) _ rfl
    have hal := below_alloc (Below.refl w1.heap.size w1) (.cells #[.slice (some ⟨m, 0, none⟩) 3 3, .int .i64 2, .int .i64 3, .int .i64 2, .int .i64 20, .int .i64 2, .int .i64 32, .int .i64 4, .int .i64 16] 26)
    have hnw1 : w.heap.size ≤ w1.heap.size := hB.size
    have hmn : m ≠ w1.heap.size := by have := inSl_lt hT (by decide); omega
    replace hT := hT.below hal
    replace hB := below_then hB hal
    clear hal
    go_upto_region 4 with fail
    obtain ⟨q, hqq⟩ : ∃ q, 1 + t % 8 = q := ⟨_, rfl⟩
    have hq : 0 ≤ q ∧ q ≤ 1000 := by omega
    have hq8 : 1 ≤ q ∧ q ≤ 50 := by omega
    have hwr : IntKind.i64.wrap (1 + t % 8) = q := by rw [IntKind.wrap_i64]; omega
    generalize w1.alloc (.cells #[.slice (some ⟨m, 0, none⟩) 3 3, .int .i64 2, .int .i64 3, .int .i64 2, .int .i64 20, .int .i64 2, .int .i64 32, .int .i64 4, .int .i64 16] 26) = W at *
    generalize w1.heap.size = n1 at *
    have kc := hP.cell 1
    have kf := hP.frozen
    replace kc : W.cell? ⟨n1, 1, none⟩ = some (.int .i64 2) := kc
    replace hP := hP.put (pl18 m q) 1 (.int .i64 q) rfl
    have hgq := by_set (by_below (Below.refl W.heap.size W) (some n1)) 1 (.int .i64 q)
    replace hT := inSl_keep hT hmn hgq
    replace hB := Below.setCell hB (p := ⟨n1, 1, none⟩) hnw1 (.int .i64 q)
    go_upto_region 5 with fail
    clear kc kf hgq hwr
    generalize W.setCell ⟨n1, 1, none⟩ (.int .i64 q) = W1 at *
    go_wp2_with fail
    refine (newAt H W1).mono ?_
    rintro e w2 ⟨z0, rfl, hz0, hvz0, hb2⟩
    replace hP := hP.below hb2
    replace hT := hT.below hb2
    replace hB := below_then hB hb2
    clear hb2
    have hZ4 : dvE.In (w2.alloc (.cells #[.int .i64 0, .int .i64 0, .int .i64 0, .int .i64 0, .int .i64 0, .int .i64 0, .slice none 0 0, .int .i64 0, .int .i64 0, .slice none 0 0, .slice none 0 0, .slice none 0 0, .slice none 0 0, .slice none 0 0, .slice none 0 0, .int .i64 0, .slice none 0 0, .slice none 0 0, .slice none 0 0, .slice none 0 0, .int .i64 0, .int .i64 0, .int .i64 0, .int .i64 0, .slice none 0 0, .int .i64 0] 44)) w2.heap.size Dw.zero := El.In.new (E := dvE) w2 Dw.zero _ rfl
    go_upto_region 6 with (first | (refine wpList_alloc_dv rfl rfl ?_) | (refine El.store dvRow rfl _ _ rfl w2.heap.size z0 #[.int .i64 z0.node, .int .i64 z0.boot, .int .i64 z0.above, .int .i64 z0.pos, .int .i64 z0.y.t, .int .i64 z0.pos, .slice none 0 0, .int .i64 z0.q.f, .int .i64 z0.q.g, .slice z0.qA z0.q.os.length z0.qc, .slice none 0 0, .slice none 0 0, .slice none 0 0, .slice none 0 0, .slice z0.y.bA z0.y.base.length z0.y.bc, .int .i64 z0.y.t, .slice z0.y.oA z0.y.ops.length z0.y.oc, .slice z0.y.uA z0.y.us.length z0.y.uc, .slice z0.y.wA z0.y.now.length z0.y.wc, .slice z0.cA z0.l.length z0.cc, .int .i64 z0.inc, .int .i64 z0.mode, .int .i64 z0.clock, .int .i64 z0.sent, .slice z0.pA 0 z0.pc, .int .i64 z0.late] rfl rfl rfl Dw.zero hZ4 ?_) | fail)
    have hdn := below_setRow (below_alloc (Below.refl w2.heap.size w2) (.cells #[.int .i64 0, .int .i64 0, .int .i64 0, .int .i64 0, .int .i64 0, .int .i64 0, .slice none 0 0, .int .i64 0, .int .i64 0, .slice none 0 0, .slice none 0 0, .slice none 0 0, .slice none 0 0, .slice none 0 0, .slice none 0 0, .int .i64 0, .slice none 0 0, .slice none 0 0, .slice none 0 0, .slice none 0 0, .int .i64 0, .int .i64 0, .int .i64 0, .int .i64 0, .slice none 0 0, .int .i64 0] 44)) (Nat.le_refl _) #[.int .i64 z0.node, .int .i64 z0.boot, .int .i64 z0.above, .int .i64 z0.pos, .int .i64 z0.y.t, .int .i64 z0.pos, .slice none 0 0, .int .i64 z0.q.f, .int .i64 z0.q.g, .slice z0.qA z0.q.os.length z0.qc, .slice none 0 0, .slice none 0 0, .slice none 0 0, .slice none 0 0, .slice z0.y.bA z0.y.base.length z0.y.bc, .int .i64 z0.y.t, .slice z0.y.oA z0.y.ops.length z0.y.oc, .slice z0.y.uA z0.y.us.length z0.y.uc, .slice z0.y.wA z0.y.now.length z0.y.wc, .slice z0.cA z0.l.length z0.cc, .int .i64 z0.inc, .int .i64 z0.mode, .int .i64 z0.clock, .int .i64 z0.sent, .slice z0.pA 0 z0.pc, .int .i64 z0.late]
    have hE := hZ4.set z0 #[.int .i64 z0.node, .int .i64 z0.boot, .int .i64 z0.above, .int .i64 z0.pos, .int .i64 z0.y.t, .int .i64 z0.pos, .slice none 0 0, .int .i64 z0.q.f, .int .i64 z0.q.g, .slice z0.qA z0.q.os.length z0.qc, .slice none 0 0, .slice none 0 0, .slice none 0 0, .slice none 0 0, .slice z0.y.bA z0.y.base.length z0.y.bc, .int .i64 z0.y.t, .slice z0.y.oA z0.y.ops.length z0.y.oc, .slice z0.y.uA z0.y.us.length z0.y.uc, .slice z0.y.wA z0.y.now.length z0.y.wc, .slice z0.cA z0.l.length z0.cc, .int .i64 z0.inc, .int .i64 z0.mode, .int .i64 z0.clock, .int .i64 z0.sent, .slice z0.pA 0 z0.pc, .int .i64 z0.late] rfl
    have hn12 : n1 < w2.heap.size := hP.lt
    have hm2 : m < w2.heap.size := inSl_lt hT (by decide)
    have hnw : w.heap.size ≤ w2.heap.size := hB.size
    have hz := hz0.below hdn
    replace hP := hP.below hdn
    replace hT := hT.below hdn
    replace hB := below_then hB hdn
    clear hZ4 hdn hz0
    generalize (w2.alloc (.cells #[.int .i64 0, .int .i64 0, .int .i64 0, .int .i64 0, .int .i64 0, .int .i64 0, .slice none 0 0, .int .i64 0, .int .i64 0, .slice none 0 0, .slice none 0 0, .slice none 0 0, .slice none 0 0, .slice none 0 0, .slice none 0 0, .int .i64 0, .slice none 0 0, .slice none 0 0, .slice none 0 0, .slice none 0 0, .int .i64 0, .int .i64 0, .int .i64 0, .int .i64 0, .slice none 0 0, .int .i64 0] 44)).setRow w2.heap.size #[.int .i64 z0.node, .int .i64 z0.boot, .int .i64 z0.above, .int .i64 z0.pos, .int .i64 z0.y.t, .int .i64 z0.pos, .slice none 0 0, .int .i64 z0.q.f, .int .i64 z0.q.g, .slice z0.qA z0.q.os.length z0.qc, .slice none 0 0, .slice none 0 0, .slice none 0 0, .slice none 0 0, .slice z0.y.bA z0.y.base.length z0.y.bc, .int .i64 z0.y.t, .slice z0.y.oA z0.y.ops.length z0.y.oc, .slice z0.y.uA z0.y.us.length z0.y.uc, .slice z0.y.wA z0.y.now.length z0.y.wc, .slice z0.cA z0.l.length z0.cc, .int .i64 z0.inc, .int .i64 z0.mode, .int .i64 z0.clock, .int .i64 z0.sent, .slice z0.pA 0 z0.pc, .int .i64 z0.late] = V at *
    generalize w2.heap.size = n2 at *
    have HV0 := Lib.hid (show EdN z0.v 0 0 by rw [hvz0]; exact EdN.new)
    clear hvz0
    go_wp2_with fail
    go_loopw [7, 8] (fun x y wr => ∃ (k n : Nat) (z : Dw), k ≤ l.length ∧ x = .int .i64 n ∧ y = .int .i64 k ∧ Hid (EdN z.v k n) ∧ dvE.In wr n2 z ∧ z.ok wr ∧ pnE.In wr n1 (pl18 m q) ∧ inE.Sl wr (some ⟨m, 0, none⟩) [-1, 0, 0] ∧ Below w.heap.size w wr) (fun _ y _ => l.length - (intOf y).toNat)
    case atStart => exact ⟨0, 0, z0, Nat.zero_le _, rfl, rfl, HV0, hE, hz, hP, hT, hB⟩
    case round =>
      clear HV0 hE hz hP hT hB
      obtain ⟨k, n, z, hk, rfl, rfl, HI, hE, hz, hP, hT, hB⟩ := hrel
      by_cases hkl : k < l.length
      · obtain ⟨b, off, eA, hbw, hc⟩ := HT0.out (by omega)
        have hx := plIdx18e (cap := c) eA hkl
        have hat : plE.At wr b (off + k * 3) l[k] := (hc k hkl).below hB hbw
        have hbr := Nat.lt_of_lt_of_le hbw hB.size
        have HW := Lib.hid (HLW.out l[k] (List.getElem_mem _))
        generalize l[k] = p at *
        have HS := Lib.hid HW.out.2.2
        replace HW := Lib.hid (And.intro HW.out.1 HW.out.2.1)
        clear hc eA
        obtain ⟨e1, e2, e3, e4⟩ := HI.out.step (by omega) hq8.1 hq8.2 p.n p.u p.s
        obtain ⟨N, hN⟩ : ∃ N, (editD q 16 z.v p.n p.u p.s).2 = N := ⟨_, rfl⟩
        obtain ⟨Z, hZv⟩ : ∃ Z, (editD q 16 z.v p.n p.u p.s).1 = Z := ⟨_, rfl⟩
        rw [hN] at e1 e2 e3 e4
        rw [hZv] at e2 e3 e4
        have HED := Lib.hid (show editD q 16 z.v p.n p.u p.s = (Z, N) from Prod.ext hZv hN)
        have HEE := Lib.hid (And.intro e1 (And.intro e2 (And.intro e3 e4)))
        clear hN hZv e1 e2 e3 e4
        have hkl' : k < l.length := hkl
        have HKL := Lib.hid hkl
        go_upto_region 10 with fail
        apply wp_mergeD (fun z6 kk w' => z6.v = Z ∧ (w.heap.size ≤ kk ∧ n1 < kk ∧ n2 < kk ∧ m < kk) ∧ dvE.In w' kk z6 ∧ z6.ok w' ∧ dvE.In w' n2 z ∧ z.ok w' ∧ pnE.In w' n1 (pl18 m q) ∧ inE.Sl w' (some ⟨m, 0, none⟩) [-1, 0, 0] ∧ plE.At w' b (off + k * 3) p ∧ b < w'.heap.size ∧ Below w.heap.size w w')
        · refine region_anyG (S := EdS n1 n2 m q z b (off + k * 3) p) 11 (by kernel_rfl) ?_
          replace hP : pnE.In wr.drew n1 (pl18 m q) := hP
          replace hE : dvE.In wr.drew n2 z := hE
          replace hat : plE.At wr.drew b (off + k * 3) p := hat
          replace hbr : b < wr.drew.heap.size := hbr
          replace hz := hz.below (Below.refl wr.heap.size wr).drew
          replace hT := hT.below (Below.refl wr.heap.size wr).drew
          replace hB := hB.drew
          generalize wr.drew = V at *
          have hS : EdS n1 n2 m q z b (off + k * 3) p V := ⟨hP, hE, hat⟩
          refine anyG_take (i := 0) (v := .agg #[.slice (some ⟨m, 0, none⟩) 3 3, .int .i64 q, .int .i64 3, .int .i64 2, .int .i64 20, .int .i64 2, .int .i64 32, .int .i64 4, .int .i64 16]) rfl (by kernel_rfl) (by kernel_rfl) (by kernel_rfl) (by kernel_rfl) (by kernel_rfl) (fun _ _ _ h => h) (Or.inl ⟨by rfl, fun w' hSw => El.exec_load pnRow (.tmp 5) rfl rfl hSw.1.at _ rfl⟩) hS ?_
          try simp only [Act.put, List.setIfInBounds_toArray, List.set_cons_zero, List.set_cons_succ]
          refine anyG_take (i := 1) (v := .agg #[.int .i64 z.node, .int .i64 z.boot, .int .i64 z.above, .int .i64 z.pos, .int .i64 z.y.t, .int .i64 z.pos, .slice none 0 0, .int .i64 z.q.f, .int .i64 z.q.g, .slice z.qA z.q.os.length z.qc, .slice none 0 0, .slice none 0 0, .slice none 0 0, .slice none 0 0, .slice z.y.bA z.y.base.length z.y.bc, .int .i64 z.y.t, .slice z.y.oA z.y.ops.length z.y.oc, .slice z.y.uA z.y.us.length z.y.uc, .slice z.y.wA z.y.now.length z.y.wc, .slice z.cA z.l.length z.cc, .int .i64 z.inc, .int .i64 z.mode, .int .i64 z.clock, .int .i64 z.sent, .slice z.pA 0 z.pc, .int .i64 z.late]) rfl (by kernel_rfl) (by kernel_rfl) (by kernel_rfl) (by kernel_rfl) (by kernel_rfl) (fun _ _ _ h => h) (Or.inl ⟨by rfl, fun w' hSw => El.exec_load dvRow (.tmp 6) rfl rfl hSw.2.1.at _ rfl⟩) hS ?_
          try simp only [Act.put, List.setIfInBounds_toArray, List.set_cons_zero, List.set_cons_succ]
          refine anyG_take (i := 2) (v := .slice A l.length c) rfl (by kernel_rfl) (by kernel_rfl) (by kernel_rfl) (by kernel_rfl) (by kernel_rfl) (fun _ _ _ h => h) (Or.inl ⟨by rfl, fun w' hSw => by go_simp⟩) hS ?_
          try simp only [Act.put, List.setIfInBounds_toArray, List.set_cons_zero, List.set_cons_succ]
          refine anyG_take (i := 3) (v := .int .i64 k) rfl (by kernel_rfl) (by kernel_rfl) (by kernel_rfl) (by kernel_rfl) (by kernel_rfl) (fun _ _ _ h => h) (Or.inl ⟨by rfl, fun w' hSw => by go_simp⟩) hS ?_
          try simp only [Act.put, List.setIfInBounds_toArray, List.set_cons_zero, List.set_cons_succ]
          refine anyG_take (i := 4) (v := .pointer (some ⟨b, off + k * 3, none⟩)) rfl (by kernel_rfl) (by kernel_rfl) (by kernel_rfl) (by kernel_rfl) (by kernel_rfl) (fun _ _ _ h => h) (Or.inl ⟨by rfl, fun w' hSw => by go_simp⟩) hS ?_
          try simp only [Act.put, List.setIfInBounds_toArray, List.set_cons_zero, List.set_cons_succ]
          refine anyG_take (i := 5) (v := .agg #[.int .i64 p.n, .int .i64 p.u, .string p.s]) rfl (by kernel_rfl) (by kernel_rfl) (by kernel_rfl) (by kernel_rfl) (by kernel_rfl) (fun _ _ _ h => h) (Or.inl ⟨by rfl, fun w' hSw => El.exec_load plRow (.tmp 36) rfl rfl hSw.2.2 _ rfl⟩) hS ?_
          try simp only [Act.put, List.setIfInBounds_toArray, List.set_cons_zero, List.set_cons_succ]
          refine anyG_step (rs := [6, 10]) (by kernel_rfl) (by simp) ?_
          refine AllG.cons rfl (fun K hK => ?_) (AllG.cons rfl (fun K hK => ?_) AllG.nil)
          · skip
            go_simp
            refine (editAt H m q hq z p.n p.u p.s _ hT hz rfl HI.out.i.r HI.out.i.node HW.out.1 HW.out.2 HS.out HED.out).mono ?_
            rintro e W6 ⟨z6, rfl, hz6, hvz6, hb6⟩
            try replace hZ := hZ.below hb6
            replace hP := hP.below hb6
            replace hE := hE.below hb6
            replace hat := hat.below hb6 hbr
            replace hbr := Nat.lt_of_lt_of_le hbr (hb6).size
            replace hz := hz.below hb6
            replace hT := hT.below hb6
            replace hB := below_then hB hb6
            clear hb6
            try go_wp2_with fail
            refine hK.out _ _ (⟨hP, hE, hat⟩ : EdS n1 n2 m q z b (off + k * 3) p _) ?_
            try simp only [Act.put, List.setIfInBounds_toArray, List.set_cons_zero, List.set_cons_succ]
            clear hK hS
            have hS : EdS n1 n2 m q z b (off + k * 3) p W6 := ⟨hP, hE, hat⟩
            refine anyG_plain (i := 7) (v := .tuple #[.agg #[.int .i64 z6.node, .int .i64 z6.boot, .int .i64 z6.above, .int .i64 z6.pos, .int .i64 z6.y.t, .int .i64 z6.pos, .slice none 0 0, .int .i64 z6.q.f, .int .i64 z6.q.g, .slice z6.qA z6.q.os.length z6.qc, .slice none 0 0, .slice none 0 0, .slice none 0 0, .slice none 0 0, .slice z6.y.bA z6.y.base.length z6.y.bc, .int .i64 z6.y.t, .slice z6.y.oA z6.y.ops.length z6.y.oc, .slice z6.y.uA z6.y.us.length z6.y.uc, .slice z6.y.wA z6.y.now.length z6.y.wc, .slice z6.cA z6.l.length z6.cc, .int .i64 z6.inc, .int .i64 z6.mode, .int .i64 z6.clock, .int .i64 z6.sent, .slice z6.pA 0 z6.pc, .int .i64 z6.late], .int .i64 N]) rfl (by kernel_rfl) (by kernel_rfl) (by kernel_rfl) (by kernel_rfl) (fun _ _ _ h => h) (Or.inl ⟨by rfl, fun w' => by go_simp⟩) (fun _ => hS) ?_
            try simp only [Act.put, List.setIfInBounds_toArray, List.set_cons_zero, List.set_cons_succ]
            refine anyG_plain (i := 8) (v := .agg #[.int .i64 z6.node, .int .i64 z6.boot, .int .i64 z6.above, .int .i64 z6.pos, .int .i64 z6.y.t, .int .i64 z6.pos, .slice none 0 0, .int .i64 z6.q.f, .int .i64 z6.q.g, .slice z6.qA z6.q.os.length z6.qc, .slice none 0 0, .slice none 0 0, .slice none 0 0, .slice none 0 0, .slice z6.y.bA z6.y.base.length z6.y.bc, .int .i64 z6.y.t, .slice z6.y.oA z6.y.ops.length z6.y.oc, .slice z6.y.uA z6.y.us.length z6.y.uc, .slice z6.y.wA z6.y.now.length z6.y.wc, .slice z6.cA z6.l.length z6.cc, .int .i64 z6.inc, .int .i64 z6.mode, .int .i64 z6.clock, .int .i64 z6.sent, .slice z6.pA 0 z6.pc, .int .i64 z6.late]) rfl (by kernel_rfl) (by kernel_rfl) (by kernel_rfl) (by kernel_rfl) (fun _ _ _ h => h) (Or.inl ⟨by rfl, fun w' => by go_simp⟩) (fun _ => hS) ?_
            try simp only [Act.put, List.setIfInBounds_toArray, List.set_cons_zero, List.set_cons_succ]
            refine anyG_plain (i := 9) (v := .int .i64 N) rfl (by kernel_rfl) (by kernel_rfl) (by kernel_rfl) (by kernel_rfl) (fun _ _ _ h => h) (Or.inl ⟨by rfl, fun w' => by go_simp⟩) (fun _ => hS) ?_
            try simp only [Act.put, List.setIfInBounds_toArray, List.set_cons_zero, List.set_cons_succ]
            refine anyG_step (rs := [10]) (by kernel_rfl) (by simp) ?_
            refine AllG.cons rfl (fun K hK => ?_) AllG.nil
            have hZ : dvE.In ((W6).alloc (.cells #[.int .i64 0, .int .i64 0, .int .i64 0, .int .i64 0, .int .i64 0, .int .i64 0, .slice none 0 0, .int .i64 0, .int .i64 0, .slice none 0 0, .slice none 0 0, .slice none 0 0, .slice none 0 0, .slice none 0 0, .slice none 0 0, .int .i64 0, .slice none 0 0, .slice none 0 0, .slice none 0 0, .slice none 0 0, .int .i64 0, .int .i64 0, .int .i64 0, .int .i64 0, .slice none 0 0, .int .i64 0] 44)) (W6).heap.size Dw.zero := El.In.new (E := dvE) W6 Dw.zero _ rfl
            have hal := below_alloc (Below.refl (W6).heap.size W6) (.cells #[.int .i64 0, .int .i64 0, .int .i64 0, .int .i64 0, .int .i64 0, .int .i64 0, .slice none 0 0, .int .i64 0, .int .i64 0, .slice none 0 0, .slice none 0 0, .slice none 0 0, .slice none 0 0, .slice none 0 0, .slice none 0 0, .int .i64 0, .slice none 0 0, .slice none 0 0, .slice none 0 0, .slice none 0 0, .int .i64 0, .int .i64 0, .int .i64 0, .int .i64 0, .slice none 0 0, .int .i64 0] 44)
            have hnW : w.heap.size ≤ (W6).heap.size := hB.size
            have hn1A : n1 < (W6).heap.size := hP.lt
            have hn2A : n2 < (W6).heap.size := hE.lt
            have hmA : m < (W6).heap.size := inSl_lt hT (by decide)
            have hbA : b ≠ (W6).heap.size := Nat.ne_of_lt hbr
            try replace hz6 := hz6.below hal
            replace hP := hP.below hal
            replace hE := hE.below hal
            replace hat := hat.below hal hbr
            replace hbr := Nat.lt_of_lt_of_le hbr (hal).size
            replace hz := hz.below hal
            replace hT := hT.below hal
            replace hB := below_then hB hal
            clear hal
            refine step_alloc_dv rfl rfl ?_
            refine hK.out _ _ (⟨hP, hE, hat⟩ : EdS n1 n2 m q z b (off + k * 3) p _) ?_
            try simp only [Act.put, List.setIfInBounds_toArray, List.set_cons_zero, List.set_cons_succ]
            clear hK hS
            have hS : EdS n1 n2 m q z b (off + k * 3) p _ := ⟨hP, hE, hat⟩
            generalize (W6).alloc (.cells #[.int .i64 0, .int .i64 0, .int .i64 0, .int .i64 0, .int .i64 0, .int .i64 0, .slice none 0 0, .int .i64 0, .int .i64 0, .slice none 0 0, .slice none 0 0, .slice none 0 0, .slice none 0 0, .slice none 0 0, .slice none 0 0, .int .i64 0, .slice none 0 0, .slice none 0 0, .slice none 0 0, .slice none 0 0, .int .i64 0, .int .i64 0, .int .i64 0, .int .i64 0, .slice none 0 0, .int .i64 0] 44) = V7 at *
            generalize (W6).heap.size = nA at *
            refine anyG_step (rs := [11]) (by kernel_rfl) (by simp) ?_
            refine AllG.last (n := 11) rfl (fun K hK => ?_)
            refine El.step_store dvRow rfl _ _ rfl nA z6 #[.int .i64 z6.node, .int .i64 z6.boot, .int .i64 z6.above, .int .i64 z6.pos, .int .i64 z6.y.t, .int .i64 z6.pos, .slice none 0 0, .int .i64 z6.q.f, .int .i64 z6.q.g, .slice z6.qA z6.q.os.length z6.qc, .slice none 0 0, .slice none 0 0, .slice none 0 0, .slice none 0 0, .slice z6.y.bA z6.y.base.length z6.y.bc, .int .i64 z6.y.t, .slice z6.y.oA z6.y.ops.length z6.y.oc, .slice z6.y.uA z6.y.us.length z6.y.uc, .slice z6.y.wA z6.y.now.length z6.y.wc, .slice z6.cA z6.l.length z6.cc, .int .i64 z6.inc, .int .i64 z6.mode, .int .i64 z6.clock, .int .i64 z6.sent, .slice z6.pA 0 z6.pc, .int .i64 z6.late] rfl rfl rfl Dw.zero hZ ?_
            refine hK.out _ _ ?_
            try simp only [Act.put, List.setIfInBounds_toArray, List.set_cons_zero, List.set_cons_succ]
            clear hK hS
            refine anyG_plain_after (i := 12) (v := .int .i64 N) rfl (by kernel_rfl) (by kernel_rfl) (by kernel_rfl) (by kernel_rfl) (fun _ _ _ h => h) (Or.inl ⟨by rfl, fun w' => by go_simp⟩) (by kernel_rfl) ?_
            try simp only [Act.put, List.setIfInBounds_toArray, List.set_cons_zero, List.set_cons_succ]
            refine anyG_done (by kernel_rfl) ?_ _
            have hgr := fun (V : World) => by_row V nA #[.int .i64 z6.node, .int .i64 z6.boot, .int .i64 z6.above, .int .i64 z6.pos, .int .i64 z6.y.t, .int .i64 z6.pos, .slice none 0 0, .int .i64 z6.q.f, .int .i64 z6.q.g, .slice z6.qA z6.q.os.length z6.qc, .slice none 0 0, .slice none 0 0, .slice none 0 0, .slice none 0 0, .slice z6.y.bA z6.y.base.length z6.y.bc, .int .i64 z6.y.t, .slice z6.y.oA z6.y.ops.length z6.y.oc, .slice z6.y.uA z6.y.us.length z6.y.uc, .slice z6.y.wA z6.y.now.length z6.y.wc, .slice z6.cA z6.l.length z6.cc, .int .i64 z6.inc, .int .i64 z6.mode, .int .i64 z6.clock, .int .i64 z6.sent, .slice z6.pA 0 z6.pc, .int .i64 z6.late]
            have ne1 : some n1 ≠ some nA := fun e => by have := Option.some.inj e; omega
            have ne2 : some n2 ≠ some nA := fun e => by have := Option.some.inj e; omega
            have ne3 : some b ≠ some nA := fun e => hbA (Option.some.inj e)
            exact ⟨z6, nA, rfl, hvz6, ⟨hnW, hn1A, hn2A, hmA⟩, hZ.set z6 #[.int .i64 z6.node, .int .i64 z6.boot, .int .i64 z6.above, .int .i64 z6.pos, .int .i64 z6.y.t, .int .i64 z6.pos, .slice none 0 0, .int .i64 z6.q.f, .int .i64 z6.q.g, .slice z6.qA z6.q.os.length z6.qc, .slice none 0 0, .slice none 0 0, .slice none 0 0, .slice none 0 0, .slice z6.y.bA z6.y.base.length z6.y.bc, .int .i64 z6.y.t, .slice z6.y.oA z6.y.ops.length z6.y.oc, .slice z6.y.uA z6.y.us.length z6.y.uc, .slice z6.y.wA z6.y.now.length z6.y.wc, .slice z6.cA z6.l.length z6.cc, .int .i64 z6.inc, .int .i64 z6.mode, .int .i64 z6.clock, .int .i64 z6.sent, .slice z6.pA 0 z6.pc, .int .i64 z6.late] rfl, hz6.keepB hZ (hgr _), hE.keep (hgr _) ne2, hz.keepB hZ (hgr _), hP.keep (hgr _) ne1, inSl_keep hT (by omega) (hgr _), hat.grown (hgr _) ne3, Nat.lt_of_lt_of_le hbr (hgr _).size, below_setRow hB hnW _⟩
          · skip
            have hZ : dvE.In ((V).alloc (.cells #[.int .i64 0, .int .i64 0, .int .i64 0, .int .i64 0, .int .i64 0, .int .i64 0, .slice none 0 0, .int .i64 0, .int .i64 0, .slice none 0 0, .slice none 0 0, .slice none 0 0, .slice none 0 0, .slice none 0 0, .slice none 0 0, .int .i64 0, .slice none 0 0, .slice none 0 0, .slice none 0 0, .slice none 0 0, .int .i64 0, .int .i64 0, .int .i64 0, .int .i64 0, .slice none 0 0, .int .i64 0] 44)) (V).heap.size Dw.zero := El.In.new (E := dvE) V Dw.zero _ rfl
            have hal := below_alloc (Below.refl (V).heap.size V) (.cells #[.int .i64 0, .int .i64 0, .int .i64 0, .int .i64 0, .int .i64 0, .int .i64 0, .slice none 0 0, .int .i64 0, .int .i64 0, .slice none 0 0, .slice none 0 0, .slice none 0 0, .slice none 0 0, .slice none 0 0, .slice none 0 0, .int .i64 0, .slice none 0 0, .slice none 0 0, .slice none 0 0, .slice none 0 0, .int .i64 0, .int .i64 0, .int .i64 0, .int .i64 0, .slice none 0 0, .int .i64 0] 44)
            have hnW : w.heap.size ≤ (V).heap.size := hB.size
            have hn1A : n1 < (V).heap.size := hP.lt
            have hn2A : n2 < (V).heap.size := hE.lt
            have hmA : m < (V).heap.size := inSl_lt hT (by decide)
            have hbA : b ≠ (V).heap.size := Nat.ne_of_lt hbr
            try replace hz6 := hz6.below hal
            replace hP := hP.below hal
            replace hE := hE.below hal
            replace hat := hat.below hal hbr
            replace hbr := Nat.lt_of_lt_of_le hbr (hal).size
            replace hz := hz.below hal
            replace hT := hT.below hal
            replace hB := below_then hB hal
            clear hal
            refine step_alloc_dv rfl rfl ?_
            refine hK.out _ _ (⟨hP, hE, hat⟩ : EdS n1 n2 m q z b (off + k * 3) p _) ?_
            try simp only [Act.put, List.setIfInBounds_toArray, List.set_cons_zero, List.set_cons_succ]
            clear hK hS
            have hS : EdS n1 n2 m q z b (off + k * 3) p _ := ⟨hP, hE, hat⟩
            generalize (V).alloc (.cells #[.int .i64 0, .int .i64 0, .int .i64 0, .int .i64 0, .int .i64 0, .int .i64 0, .slice none 0 0, .int .i64 0, .int .i64 0, .slice none 0 0, .slice none 0 0, .slice none 0 0, .slice none 0 0, .slice none 0 0, .slice none 0 0, .int .i64 0, .slice none 0 0, .slice none 0 0, .slice none 0 0, .slice none 0 0, .int .i64 0, .int .i64 0, .int .i64 0, .int .i64 0, .slice none 0 0, .int .i64 0] 44) = V7 at *
            generalize (V).heap.size = nA at *
            refine anyG_step (rs := [6]) (by kernel_rfl) (by simp) ?_
            refine AllG.cons rfl (fun K hK => ?_) AllG.nil
            go_simp
            refine (editAt H m q hq z p.n p.u p.s _ hT hz rfl HI.out.i.r HI.out.i.node HW.out.1 HW.out.2 HS.out HED.out).mono ?_
            rintro e W6 ⟨z6, rfl, hz6, hvz6, hb6⟩
            try replace hZ := hZ.below hb6
            replace hP := hP.below hb6
            replace hE := hE.below hb6
            replace hat := hat.below hb6 hbr
            replace hbr := Nat.lt_of_lt_of_le hbr (hb6).size
            replace hz := hz.below hb6
            replace hT := hT.below hb6
            replace hB := below_then hB hb6
            clear hb6
            try go_wp2_with fail
            refine hK.out _ _ (⟨hP, hE, hat⟩ : EdS n1 n2 m q z b (off + k * 3) p _) ?_
            try simp only [Act.put, List.setIfInBounds_toArray, List.set_cons_zero, List.set_cons_succ]
            clear hK hS
            have hS : EdS n1 n2 m q z b (off + k * 3) p W6 := ⟨hP, hE, hat⟩
            refine anyG_plain (i := 7) (v := .tuple #[.agg #[.int .i64 z6.node, .int .i64 z6.boot, .int .i64 z6.above, .int .i64 z6.pos, .int .i64 z6.y.t, .int .i64 z6.pos, .slice none 0 0, .int .i64 z6.q.f, .int .i64 z6.q.g, .slice z6.qA z6.q.os.length z6.qc, .slice none 0 0, .slice none 0 0, .slice none 0 0, .slice none 0 0, .slice z6.y.bA z6.y.base.length z6.y.bc, .int .i64 z6.y.t, .slice z6.y.oA z6.y.ops.length z6.y.oc, .slice z6.y.uA z6.y.us.length z6.y.uc, .slice z6.y.wA z6.y.now.length z6.y.wc, .slice z6.cA z6.l.length z6.cc, .int .i64 z6.inc, .int .i64 z6.mode, .int .i64 z6.clock, .int .i64 z6.sent, .slice z6.pA 0 z6.pc, .int .i64 z6.late], .int .i64 N]) rfl (by kernel_rfl) (by kernel_rfl) (by kernel_rfl) (by kernel_rfl) (fun _ _ _ h => h) (Or.inl ⟨by rfl, fun w' => by go_simp⟩) (fun _ => hS) ?_
            try simp only [Act.put, List.setIfInBounds_toArray, List.set_cons_zero, List.set_cons_succ]
            refine anyG_plain (i := 8) (v := .agg #[.int .i64 z6.node, .int .i64 z6.boot, .int .i64 z6.above, .int .i64 z6.pos, .int .i64 z6.y.t, .int .i64 z6.pos, .slice none 0 0, .int .i64 z6.q.f, .int .i64 z6.q.g, .slice z6.qA z6.q.os.length z6.qc, .slice none 0 0, .slice none 0 0, .slice none 0 0, .slice none 0 0, .slice z6.y.bA z6.y.base.length z6.y.bc, .int .i64 z6.y.t, .slice z6.y.oA z6.y.ops.length z6.y.oc, .slice z6.y.uA z6.y.us.length z6.y.uc, .slice z6.y.wA z6.y.now.length z6.y.wc, .slice z6.cA z6.l.length z6.cc, .int .i64 z6.inc, .int .i64 z6.mode, .int .i64 z6.clock, .int .i64 z6.sent, .slice z6.pA 0 z6.pc, .int .i64 z6.late]) rfl (by kernel_rfl) (by kernel_rfl) (by kernel_rfl) (by kernel_rfl) (fun _ _ _ h => h) (Or.inl ⟨by rfl, fun w' => by go_simp⟩) (fun _ => hS) ?_
            try simp only [Act.put, List.setIfInBounds_toArray, List.set_cons_zero, List.set_cons_succ]
            refine anyG_plain (i := 9) (v := .int .i64 N) rfl (by kernel_rfl) (by kernel_rfl) (by kernel_rfl) (by kernel_rfl) (fun _ _ _ h => h) (Or.inl ⟨by rfl, fun w' => by go_simp⟩) (fun _ => hS) ?_
            try simp only [Act.put, List.setIfInBounds_toArray, List.set_cons_zero, List.set_cons_succ]
            refine anyG_step (rs := [11]) (by kernel_rfl) (by simp) ?_
            refine AllG.last (n := 11) rfl (fun K hK => ?_)
            refine El.step_store dvRow rfl _ _ rfl nA z6 #[.int .i64 z6.node, .int .i64 z6.boot, .int .i64 z6.above, .int .i64 z6.pos, .int .i64 z6.y.t, .int .i64 z6.pos, .slice none 0 0, .int .i64 z6.q.f, .int .i64 z6.q.g, .slice z6.qA z6.q.os.length z6.qc, .slice none 0 0, .slice none 0 0, .slice none 0 0, .slice none 0 0, .slice z6.y.bA z6.y.base.length z6.y.bc, .int .i64 z6.y.t, .slice z6.y.oA z6.y.ops.length z6.y.oc, .slice z6.y.uA z6.y.us.length z6.y.uc, .slice z6.y.wA z6.y.now.length z6.y.wc, .slice z6.cA z6.l.length z6.cc, .int .i64 z6.inc, .int .i64 z6.mode, .int .i64 z6.clock, .int .i64 z6.sent, .slice z6.pA 0 z6.pc, .int .i64 z6.late] rfl rfl rfl Dw.zero hZ ?_
            refine hK.out _ _ ?_
            try simp only [Act.put, List.setIfInBounds_toArray, List.set_cons_zero, List.set_cons_succ]
            clear hK hS
            refine anyG_plain_after (i := 12) (v := .int .i64 N) rfl (by kernel_rfl) (by kernel_rfl) (by kernel_rfl) (by kernel_rfl) (fun _ _ _ h => h) (Or.inl ⟨by rfl, fun w' => by go_simp⟩) (by kernel_rfl) ?_
            try simp only [Act.put, List.setIfInBounds_toArray, List.set_cons_zero, List.set_cons_succ]
            refine anyG_done (by kernel_rfl) ?_ _
            have hgr := fun (V : World) => by_row V nA #[.int .i64 z6.node, .int .i64 z6.boot, .int .i64 z6.above, .int .i64 z6.pos, .int .i64 z6.y.t, .int .i64 z6.pos, .slice none 0 0, .int .i64 z6.q.f, .int .i64 z6.q.g, .slice z6.qA z6.q.os.length z6.qc, .slice none 0 0, .slice none 0 0, .slice none 0 0, .slice none 0 0, .slice z6.y.bA z6.y.base.length z6.y.bc, .int .i64 z6.y.t, .slice z6.y.oA z6.y.ops.length z6.y.oc, .slice z6.y.uA z6.y.us.length z6.y.uc, .slice z6.y.wA z6.y.now.length z6.y.wc, .slice z6.cA z6.l.length z6.cc, .int .i64 z6.inc, .int .i64 z6.mode, .int .i64 z6.clock, .int .i64 z6.sent, .slice z6.pA 0 z6.pc, .int .i64 z6.late]
            have ne1 : some n1 ≠ some nA := fun e => by have := Option.some.inj e; omega
            have ne2 : some n2 ≠ some nA := fun e => by have := Option.some.inj e; omega
            have ne3 : some b ≠ some nA := fun e => hbA (Option.some.inj e)
            exact ⟨z6, nA, rfl, hvz6, ⟨hnW, hn1A, hn2A, hmA⟩, hZ.set z6 #[.int .i64 z6.node, .int .i64 z6.boot, .int .i64 z6.above, .int .i64 z6.pos, .int .i64 z6.y.t, .int .i64 z6.pos, .slice none 0 0, .int .i64 z6.q.f, .int .i64 z6.q.g, .slice z6.qA z6.q.os.length z6.qc, .slice none 0 0, .slice none 0 0, .slice none 0 0, .slice none 0 0, .slice z6.y.bA z6.y.base.length z6.y.bc, .int .i64 z6.y.t, .slice z6.y.oA z6.y.ops.length z6.y.oc, .slice z6.y.uA z6.y.us.length z6.y.uc, .slice z6.y.wA z6.y.now.length z6.y.wc, .slice z6.cA z6.l.length z6.cc, .int .i64 z6.inc, .int .i64 z6.mode, .int .i64 z6.clock, .int .i64 z6.sent, .slice z6.pA 0 z6.pc, .int .i64 z6.late] rfl, hz6.keepB hZ (hgr _), hE.keep (hgr _) ne2, hz.keepB hZ (hgr _), hP.keep (hgr _) ne1, inSl_keep hT (by omega) (hgr _), hat.grown (hgr _) ne3, Nat.lt_of_lt_of_le hbr (hgr _).size, below_setRow hB hnW _⟩
        rintro z6 n9 w9 ⟨hvz6, ⟨hnw9, hn19, hn29, hm9⟩, hE9, hz6, hE, hz, hP, hT, hat, hbr, hB⟩
        go_upto_region 11 with fail
        go_cut [11] from 25 to 163 (fun v wx => v = .bool (badE p.n p.u p.s) ∧ Below w9.heap.size w9 wx)
        case first =>
          obtain ⟨s0, s1, s2⟩ := plAt3 hat
          have i8 : w9.cell? ⟨n1, 8, none⟩ = some (.int .i64 16) := hP.cell 8
          have k0 := cell_regrown s0
          have k1 := cell_regrown s1
          have k2 := cell_regrown s2
          have k8 := cell_regrown i8
          obtain ⟨R, hR⟩ : ∃ R, opB 1 0 1 1 2 0 p.s = R := ⟨_, rfl⟩
          have HRC := Lib.hid (fun wx => (by
            have h := opRefRight_any 1 0 1 1 2 0 p.s wx (by have := HS.out; omega)
            rw [hR] at h
            exact h : Calls Tryz.prog 10 #[.agg #[.int .i64 1, .int .i64 0, .int .i64 1, .int .i64 1, .int .i64 2, .int .i64 0, .string p.s]] wx fun e w' => e = .returned (.bool R) ∧ Below wx.heap.size wx w'))
          have d1 : ∀ d' os, Calls Tryz.prog 10 #[.agg #[.int .i64 1, .int .i64 0, .int .i64 1, .int .i64 1, .int .i64 2, .int .i64 0, .string p.s]] (Sort.grow (redrawn w9 d') os) fun e w'' => e = .returned (.bool R) ∧ ∃ p : Regrown, w'' = Sort.grow (redrawn w9 p.d) p.os := fun d' os => Calls.regrown_of (HRC.out _)
          have HBAD0 := Lib.hid (show badE p.n p.u p.s = (decide (p.n < 2) || (decide (16 ≤ p.n) || (decide (p.u < 0) || (decide (16 ≤ p.u) || (decide (p.u = p.n) || !R))))) by unfold badE; rw [hR])
          clear s0 s1 s2 i8 hR HRC
          refine wp_region_quiet_below (by kernel_rfl) (by as_aux_lemma => kernel_rfl) ?_
          cases a0 : decide (p.n < 2) with
          | true =>
            have HBAD := Lib.hid (show badE p.n p.u p.s = true by rw [HBAD0.out, a0]; rfl)
            clear HBAD0
            repeat (go_big_quiet_step ((with_reducible (exact d1 _ _))))
            refine wpQuiet_nil ?_
            intro _ hw'
            obtain ⟨⟨dq, osq⟩, hw''⟩ := hw'
            subst hw''
            go_wp2_with fail
            go_meet
            exact ⟨by rw [HBAD.out], below_regrown w9 dq osq⟩
          | false =>
            cases a1 : decide (16 ≤ p.n) with
            | true =>
              have HBAD := Lib.hid (show badE p.n p.u p.s = true by rw [HBAD0.out, a0, a1]; rfl)
              clear HBAD0
              repeat (go_big_quiet_step ((with_reducible (exact d1 _ _))))
              refine wpQuiet_nil ?_
              intro _ hw'
              obtain ⟨⟨dq, osq⟩, hw''⟩ := hw'
              subst hw''
              go_wp2_with fail
              go_meet
              exact ⟨by rw [HBAD.out], below_regrown w9 dq osq⟩
            | false =>
              cases a2 : decide (p.u < 0) with
              | true =>
                have HBAD := Lib.hid (show badE p.n p.u p.s = true by rw [HBAD0.out, a0, a1, a2]; rfl)
                clear HBAD0
                repeat (go_big_quiet_step ((with_reducible (exact d1 _ _))))
                refine wpQuiet_nil ?_
                intro _ hw'
                obtain ⟨⟨dq, osq⟩, hw''⟩ := hw'
                subst hw''
                go_wp2_with fail
                go_meet
                exact ⟨by rw [HBAD.out], below_regrown w9 dq osq⟩
              | false =>
                cases a3 : decide (16 ≤ p.u) with
                | true =>
                  have HBAD := Lib.hid (show badE p.n p.u p.s = true by rw [HBAD0.out, a0, a1, a2, a3]; rfl)
                  clear HBAD0
                  repeat (go_big_quiet_step ((with_reducible (exact d1 _ _))))
                  refine wpQuiet_nil ?_
                  intro _ hw'
                  obtain ⟨⟨dq, osq⟩, hw''⟩ := hw'
                  subst hw''
                  go_wp2_with fail
                  go_meet
                  exact ⟨by rw [HBAD.out], below_regrown w9 dq osq⟩
                | false =>
                  cases a4 : decide (p.u = p.n) with
                  | true =>
                    have b4 : (p.u == p.n) = true := a4
                    have HBAD := Lib.hid (show badE p.n p.u p.s = true by rw [HBAD0.out, a0, a1, a2, a3, a4]; rfl)
                    clear HBAD0
                    repeat (go_big_quiet_step ((with_reducible (exact d1 _ _))))
                    refine wpQuiet_nil ?_
                    intro _ hw'
                    obtain ⟨⟨dq, osq⟩, hw''⟩ := hw'
                    subst hw''
                    go_wp2_with fail
                    go_meet
                    exact ⟨by rw [HBAD.out], below_regrown w9 dq osq⟩
                  | false =>
                    have b4 : (p.u == p.n) = false := a4
                    have HBAD := Lib.hid (show badE p.n p.u p.s = !R by rw [HBAD0.out, a0, a1, a2, a3, a4]; rfl)
                    clear HBAD0
                    repeat (go_big_quiet_step ((with_reducible (exact d1 _ _))))
                    refine wpQuiet_nil ?_
                    intro _ hw'
                    obtain ⟨⟨dq, osq⟩, hw''⟩ := hw'
                    subst hw''
                    go_wp2_with fail
                    go_meet
                    exact ⟨by rw [HBAD.out], below_regrown w9 dq osq⟩
        case rest =>
          obtain ⟨rfl, hbx⟩ := hcut
          replace hE9 := hE9.below hbx
          replace hz6 := hz6.below hbx
          replace hE := hE.below hbx
          replace hz := hz.below hbx
          replace hP := hP.below hbx
          replace hT := hT.below hbx
          replace hB := below_then hB hbx
          clear hbx hat hbr hx
          have hne1 : some n1 ≠ some n2 := fun e => by have := Option.some.inj e; omega
          have hne2 : m ≠ n2 := by omega
          obtain ⟨e1, e2, e3, e4⟩ := HEE.out
          have hcn : wc.cell? ⟨n1, 1, none⟩ = some (.int .i64 q) := hP.cell 1
          as_aux_lemma =>
            cases hbad : badE p.n p.u p.s with
            | true =>
              obtain rfl : N = 1 := by rw [e1, hbad]; rfl
              clear hbad
              have hzz : z6.v = z.v := by rw [hvz6]; exact e2 (by omega)
              have HX := Lib.hid (show EdN z6.v (k + 1) n by rw [hvz6]; exact e3 (by omega))
              have CS := Lib.hid (HSM z z6 wc HI.out.i.r hz hz6 hzz.symm)
              clear e1 e2 e3 e4 hzz hvz6 HEE HED
              as_aux_lemma =>
                go_wp2_with (first | (refine El.load_if dvRow (by rfl) _ rfl n9 0 rfl z6 hE9.at #[.int .i64 z6.node, .int .i64 z6.boot, .int .i64 z6.above, .int .i64 z6.pos, .int .i64 z6.y.t, .int .i64 z6.pos, .slice none 0 0, .int .i64 z6.q.f, .int .i64 z6.q.g, .slice z6.qA z6.q.os.length z6.qc, .slice none 0 0, .slice none 0 0, .slice none 0 0, .slice none 0 0, .slice z6.y.bA z6.y.base.length z6.y.bc, .int .i64 z6.y.t, .slice z6.y.oA z6.y.ops.length z6.y.oc, .slice z6.y.uA z6.y.us.length z6.y.uc, .slice z6.y.wA z6.y.now.length z6.y.wc, .slice z6.cA z6.l.length z6.cc, .int .i64 z6.inc, .int .i64 z6.mode, .int .i64 z6.clock, .int .i64 z6.sent, .slice z6.pA 0 z6.pc, .int .i64 z6.late] rfl ?_) | (refine El.load_if dvRow (by rfl) _ rfl n2 0 rfl z hE.at #[.int .i64 z.node, .int .i64 z.boot, .int .i64 z.above, .int .i64 z.pos, .int .i64 z.y.t, .int .i64 z.pos, .slice none 0 0, .int .i64 z.q.f, .int .i64 z.q.g, .slice z.qA z.q.os.length z.qc, .slice none 0 0, .slice none 0 0, .slice none 0 0, .slice none 0 0, .slice z.y.bA z.y.base.length z.y.bc, .int .i64 z.y.t, .slice z.y.oA z.y.ops.length z.y.oc, .slice z.y.uA z.y.us.length z.y.uc, .slice z.y.wA z.y.now.length z.y.wc, .slice z.cA z.l.length z.cc, .int .i64 z.inc, .int .i64 z.mode, .int .i64 z.clock, .int .i64 z.sent, .slice z.pA 0 z.pc, .int .i64 z.late] rfl ?_) | fail)
                refine CS.out.mono ?_
                rintro e w10 ⟨rfl, hb10⟩
                clear CS
                replace hE := hE.below hb10
                replace hE9 := hE9.below hb10
                replace hz6 := hz6.below hb10
                replace hP := hP.below hb10
                replace hT := hT.below hb10
                replace hB := below_then hB hb10
                clear hb10 hz
                have hgr := by_row w10 n2 #[.int .i64 z6.node, .int .i64 z6.boot, .int .i64 z6.above, .int .i64 z6.pos, .int .i64 z6.y.t, .int .i64 z6.pos, .slice none 0 0, .int .i64 z6.q.f, .int .i64 z6.q.g, .slice z6.qA z6.q.os.length z6.qc, .slice none 0 0, .slice none 0 0, .slice none 0 0, .slice none 0 0, .slice z6.y.bA z6.y.base.length z6.y.bc, .int .i64 z6.y.t, .slice z6.y.oA z6.y.ops.length z6.y.oc, .slice z6.y.uA z6.y.us.length z6.y.uc, .slice z6.y.wA z6.y.now.length z6.y.wc, .slice z6.cA z6.l.length z6.cc, .int .i64 z6.inc, .int .i64 z6.mode, .int .i64 z6.clock, .int .i64 z6.sent, .slice z6.pA 0 z6.pc, .int .i64 z6.late]
                as_aux_lemma =>
                  go_wp2_with (first | (refine El.load dvRow rfl _ rfl n9 0 rfl z6 hE9.at #[.int .i64 z6.node, .int .i64 z6.boot, .int .i64 z6.above, .int .i64 z6.pos, .int .i64 z6.y.t, .int .i64 z6.pos, .slice none 0 0, .int .i64 z6.q.f, .int .i64 z6.q.g, .slice z6.qA z6.q.os.length z6.qc, .slice none 0 0, .slice none 0 0, .slice none 0 0, .slice none 0 0, .slice z6.y.bA z6.y.base.length z6.y.bc, .int .i64 z6.y.t, .slice z6.y.oA z6.y.ops.length z6.y.oc, .slice z6.y.uA z6.y.us.length z6.y.uc, .slice z6.y.wA z6.y.now.length z6.y.wc, .slice z6.cA z6.l.length z6.cc, .int .i64 z6.inc, .int .i64 z6.mode, .int .i64 z6.clock, .int .i64 z6.sent, .slice z6.pA 0 z6.pc, .int .i64 z6.late] rfl ?_) | (refine El.store dvRow rfl _ _ rfl n2 z6 #[.int .i64 z6.node, .int .i64 z6.boot, .int .i64 z6.above, .int .i64 z6.pos, .int .i64 z6.y.t, .int .i64 z6.pos, .slice none 0 0, .int .i64 z6.q.f, .int .i64 z6.q.g, .slice z6.qA z6.q.os.length z6.qc, .slice none 0 0, .slice none 0 0, .slice none 0 0, .slice none 0 0, .slice z6.y.bA z6.y.base.length z6.y.bc, .int .i64 z6.y.t, .slice z6.y.oA z6.y.ops.length z6.y.oc, .slice z6.y.uA z6.y.us.length z6.y.uc, .slice z6.y.wA z6.y.now.length z6.y.wc, .slice z6.cA z6.l.length z6.cc, .int .i64 z6.inc, .int .i64 z6.mode, .int .i64 z6.clock, .int .i64 z6.sent, .slice z6.pA 0 z6.pc, .int .i64 z6.late] rfl rfl rfl z hE ?_) | fail)
                  exact ⟨⟨k + 1, n, z6, by have := HKL.out; omega, rfl, by go_num, HX, hE.set z6 #[.int .i64 z6.node, .int .i64 z6.boot, .int .i64 z6.above, .int .i64 z6.pos, .int .i64 z6.y.t, .int .i64 z6.pos, .slice none 0 0, .int .i64 z6.q.f, .int .i64 z6.q.g, .slice z6.qA z6.q.os.length z6.qc, .slice none 0 0, .slice none 0 0, .slice none 0 0, .slice none 0 0, .slice z6.y.bA z6.y.base.length z6.y.bc, .int .i64 z6.y.t, .slice z6.y.oA z6.y.ops.length z6.y.oc, .slice z6.y.uA z6.y.us.length z6.y.uc, .slice z6.y.wA z6.y.now.length z6.y.wc, .slice z6.cA z6.l.length z6.cc, .int .i64 z6.inc, .int .i64 z6.mode, .int .i64 z6.clock, .int .i64 z6.sent, .slice z6.pA 0 z6.pc, .int .i64 z6.late] rfl, hz6.keepB hE hgr, hP.keep hgr hne1, inSl_keep hT hne2 hgr, below_setRow hB hnw _⟩, by have := HKL.out; simp [intOf]; omega⟩
            | false =>
              by_cases hqn : q ≤ (n : Int)
              · obtain rfl : N = 3 := by rw [e1, hbad]; unfold wantE; rw [if_neg (by decide), if_pos hqn]
                have f2 : decide (q ≤ (n : Int)) = true := decide_eq_true hqn
                clear hbad hqn
                have hzz : z6.v = z.v := by rw [hvz6]; exact e2 (by omega)
                have HX := Lib.hid (show EdN z6.v (k + 1) n by rw [hvz6]; exact e3 (by omega))
                have CS := Lib.hid (HSM z z6 wc HI.out.i.r hz hz6 hzz.symm)
                clear e1 e2 e3 e4 hzz hvz6 HEE HED
                as_aux_lemma =>
                  go_wp2_with (first | (refine El.load_if dvRow (by rfl) _ rfl n9 0 rfl z6 hE9.at #[.int .i64 z6.node, .int .i64 z6.boot, .int .i64 z6.above, .int .i64 z6.pos, .int .i64 z6.y.t, .int .i64 z6.pos, .slice none 0 0, .int .i64 z6.q.f, .int .i64 z6.q.g, .slice z6.qA z6.q.os.length z6.qc, .slice none 0 0, .slice none 0 0, .slice none 0 0, .slice none 0 0, .slice z6.y.bA z6.y.base.length z6.y.bc, .int .i64 z6.y.t, .slice z6.y.oA z6.y.ops.length z6.y.oc, .slice z6.y.uA z6.y.us.length z6.y.uc, .slice z6.y.wA z6.y.now.length z6.y.wc, .slice z6.cA z6.l.length z6.cc, .int .i64 z6.inc, .int .i64 z6.mode, .int .i64 z6.clock, .int .i64 z6.sent, .slice z6.pA 0 z6.pc, .int .i64 z6.late] rfl ?_) | (refine El.load_if dvRow (by rfl) _ rfl n2 0 rfl z hE.at #[.int .i64 z.node, .int .i64 z.boot, .int .i64 z.above, .int .i64 z.pos, .int .i64 z.y.t, .int .i64 z.pos, .slice none 0 0, .int .i64 z.q.f, .int .i64 z.q.g, .slice z.qA z.q.os.length z.qc, .slice none 0 0, .slice none 0 0, .slice none 0 0, .slice none 0 0, .slice z.y.bA z.y.base.length z.y.bc, .int .i64 z.y.t, .slice z.y.oA z.y.ops.length z.y.oc, .slice z.y.uA z.y.us.length z.y.uc, .slice z.y.wA z.y.now.length z.y.wc, .slice z.cA z.l.length z.cc, .int .i64 z.inc, .int .i64 z.mode, .int .i64 z.clock, .int .i64 z.sent, .slice z.pA 0 z.pc, .int .i64 z.late] rfl ?_) | fail)
                  refine CS.out.mono ?_
                  rintro e w10 ⟨rfl, hb10⟩
                  clear CS
                  replace hE := hE.below hb10
                  replace hE9 := hE9.below hb10
                  replace hz6 := hz6.below hb10
                  replace hP := hP.below hb10
                  replace hT := hT.below hb10
                  replace hB := below_then hB hb10
                  clear hb10 hz
                  have hgr := by_row w10 n2 #[.int .i64 z6.node, .int .i64 z6.boot, .int .i64 z6.above, .int .i64 z6.pos, .int .i64 z6.y.t, .int .i64 z6.pos, .slice none 0 0, .int .i64 z6.q.f, .int .i64 z6.q.g, .slice z6.qA z6.q.os.length z6.qc, .slice none 0 0, .slice none 0 0, .slice none 0 0, .slice none 0 0, .slice z6.y.bA z6.y.base.length z6.y.bc, .int .i64 z6.y.t, .slice z6.y.oA z6.y.ops.length z6.y.oc, .slice z6.y.uA z6.y.us.length z6.y.uc, .slice z6.y.wA z6.y.now.length z6.y.wc, .slice z6.cA z6.l.length z6.cc, .int .i64 z6.inc, .int .i64 z6.mode, .int .i64 z6.clock, .int .i64 z6.sent, .slice z6.pA 0 z6.pc, .int .i64 z6.late]
                  as_aux_lemma =>
                    go_wp2_with (first | (refine El.load dvRow rfl _ rfl n9 0 rfl z6 hE9.at #[.int .i64 z6.node, .int .i64 z6.boot, .int .i64 z6.above, .int .i64 z6.pos, .int .i64 z6.y.t, .int .i64 z6.pos, .slice none 0 0, .int .i64 z6.q.f, .int .i64 z6.q.g, .slice z6.qA z6.q.os.length z6.qc, .slice none 0 0, .slice none 0 0, .slice none 0 0, .slice none 0 0, .slice z6.y.bA z6.y.base.length z6.y.bc, .int .i64 z6.y.t, .slice z6.y.oA z6.y.ops.length z6.y.oc, .slice z6.y.uA z6.y.us.length z6.y.uc, .slice z6.y.wA z6.y.now.length z6.y.wc, .slice z6.cA z6.l.length z6.cc, .int .i64 z6.inc, .int .i64 z6.mode, .int .i64 z6.clock, .int .i64 z6.sent, .slice z6.pA 0 z6.pc, .int .i64 z6.late] rfl ?_) | (refine El.store dvRow rfl _ _ rfl n2 z6 #[.int .i64 z6.node, .int .i64 z6.boot, .int .i64 z6.above, .int .i64 z6.pos, .int .i64 z6.y.t, .int .i64 z6.pos, .slice none 0 0, .int .i64 z6.q.f, .int .i64 z6.q.g, .slice z6.qA z6.q.os.length z6.qc, .slice none 0 0, .slice none 0 0, .slice none 0 0, .slice none 0 0, .slice z6.y.bA z6.y.base.length z6.y.bc, .int .i64 z6.y.t, .slice z6.y.oA z6.y.ops.length z6.y.oc, .slice z6.y.uA z6.y.us.length z6.y.uc, .slice z6.y.wA z6.y.now.length z6.y.wc, .slice z6.cA z6.l.length z6.cc, .int .i64 z6.inc, .int .i64 z6.mode, .int .i64 z6.clock, .int .i64 z6.sent, .slice z6.pA 0 z6.pc, .int .i64 z6.late] rfl rfl rfl z hE ?_) | fail)
                    exact ⟨⟨k + 1, n, z6, by have := HKL.out; omega, rfl, by go_num, HX, hE.set z6 #[.int .i64 z6.node, .int .i64 z6.boot, .int .i64 z6.above, .int .i64 z6.pos, .int .i64 z6.y.t, .int .i64 z6.pos, .slice none 0 0, .int .i64 z6.q.f, .int .i64 z6.q.g, .slice z6.qA z6.q.os.length z6.qc, .slice none 0 0, .slice none 0 0, .slice none 0 0, .slice none 0 0, .slice z6.y.bA z6.y.base.length z6.y.bc, .int .i64 z6.y.t, .slice z6.y.oA z6.y.ops.length z6.y.oc, .slice z6.y.uA z6.y.us.length z6.y.uc, .slice z6.y.wA z6.y.now.length z6.y.wc, .slice z6.cA z6.l.length z6.cc, .int .i64 z6.inc, .int .i64 z6.mode, .int .i64 z6.clock, .int .i64 z6.sent, .slice z6.pA 0 z6.pc, .int .i64 z6.late] rfl, hz6.keepB hE hgr, hP.keep hgr hne1, inSl_keep hT hne2 hgr, below_setRow hB hnw _⟩, by have := HKL.out; simp [intOf]; omega⟩
              · obtain rfl : N = 0 := by rw [e1, hbad]; unfold wantE; rw [if_neg (by decide), if_neg hqn]
                have f2 : decide (q ≤ (n : Int)) = false := decide_eq_false hqn
                obtain ⟨hx1, hx2⟩ := e4 rfl
                rw [← hvz6] at hx1 hx2
                have HX := Lib.hid hx1
                have HX2 := Lib.hid (show z6.q.os = z.q.os ++ [⟨(n : Int) + 1, 1, 1, (n : Int) + 1, p.n, p.u, p.s⟩] from hx2)
                clear e1 e2 e3 e4 hbad hqn hvz6 HEE HED hx1 hx2
                have hlz : z.v.q.os.length = n := HI.out.len
                have hnk : n < 50 := by have := HI.out.nk; have := HKL.out; omega
                obtain ⟨k1, hk1⟩ : ∃ k1, n + 1 = k1 := ⟨_, rfl⟩
                have hlen6 : z6.q.os.length = k1 := by have h : z6.q.os.length = n + 1 := HX.out.len; omega
                have hgo : z6.q.os[n]? = some ⟨(n : Int) + 1, 1, 1, (n : Int) + 1, p.n, p.u, p.s⟩ := by
                  rw [HX2.out, show n = z.q.os.length from hlz.symm]
                  exact List.getElem?_concat_length ..
                obtain ⟨hn6, hge⟩ := List.getElem?_eq_some_iff.mp hgo
                obtain ⟨bq, oq, eA, hbq, hcq⟩ := hz6.q.1 (by omega)
                have hat7 : opE.At wc bq (oq + n * 7) (⟨(k1 : Int), 1, 1, (k1 : Int), p.n, p.u, p.s⟩ : Mv) := by
                  have h := hcq n hn6
                  rw [hge, show (n : Int) + 1 = (k1 : Int) from by omega] at h
                  exact h
                have hwa : IntKind.i64.wrap ((n : Int) + 1) = (k1 : Int) := by rw [IntKind.wrap_i64]; omega
                have hws : IntKind.i64.wrap ((k1 : Int) - 1) = (n : Int) := by rw [IntKind.wrap_i64]; omega
                have hix : ∀ w, (Instr.indexAt 31 (.slice (some ⟨bq, oq, none⟩) k1 z6.qc) (.int .i64 n)).run Tryz.prog w = .ok (.pointer (some ⟨bq, oq + n * 7, none⟩)) w := fun w => by
                  have h2 : (n : Int) < (k1 : Int) := by omega
                  go_simp
                obtain ⟨o7, ho7⟩ : ∃ o7, oq + n * 7 = o7 := ⟨_, rfl⟩
                rw [ho7] at hat7 hix
                have j0 : wc.cell? ⟨bq, o7, none⟩ = some (.int .i64 k1) := hat7 0 _ rfl
                have j1 : wc.cell? ⟨bq, o7 + 1, none⟩ = some (.int .i64 1) := hat7 1 _ rfl
                have j3 : wc.cell? ⟨bq, o7 + 3, none⟩ = some (.int .i64 k1) := hat7 3 _ rfl
                have c9 : wc.cell? ⟨n9, 9, none⟩ = some (.slice (some ⟨bq, oq, none⟩) k1 z6.qc) := by rw [hE9.cell]; show some (Value.slice z6.qA z6.q.os.length z6.qc) = _; rw [eA, hlen6]
                have c22 : wc.cell? ⟨n9, 22, none⟩ = some (.int .i64 k1) := by rw [hE9.cell]; show some (Value.int .i64 z6.clock) = _; rw [show z6.clock = ((n + 1 : Nat) : Int) from HX.out.clock, hk1]
                have c23 : wc.cell? ⟨n9, 23, none⟩ = some (.int .i64 k1) := by rw [hE9.cell]; show some (Value.int .i64 z6.sent) = _; rw [show z6.sent = ((n + 1 : Nat) : Int) from HX.out.sent, hk1]
                have HX3 := Lib.hid (show EdN z6.v (k + 1) k1 by rw [← hk1]; exact HX.out)
                have hgr := by_row wc n2 #[.int .i64 z6.node, .int .i64 z6.boot, .int .i64 z6.above, .int .i64 z6.pos, .int .i64 z6.y.t, .int .i64 z6.pos, .slice none 0 0, .int .i64 z6.q.f, .int .i64 z6.q.g, .slice z6.qA z6.q.os.length z6.qc, .slice none 0 0, .slice none 0 0, .slice none 0 0, .slice none 0 0, .slice z6.y.bA z6.y.base.length z6.y.bc, .int .i64 z6.y.t, .slice z6.y.oA z6.y.ops.length z6.y.oc, .slice z6.y.uA z6.y.us.length z6.y.uc, .slice z6.y.wA z6.y.now.length z6.y.wc, .slice z6.cA z6.l.length z6.cc, .int .i64 z6.inc, .int .i64 z6.mode, .int .i64 z6.clock, .int .i64 z6.sent, .slice z6.pA 0 z6.pc, .int .i64 z6.late]
                clear hlz hlen6 hgo hge hcq hat7 eA hn6 ho7 hk1 HX HX2 HI hbq hz
                as_aux_lemma =>
                  go_wp2_with (first | (refine El.load dvRow rfl _ rfl n9 0 rfl z6 hE9.at #[.int .i64 z6.node, .int .i64 z6.boot, .int .i64 z6.above, .int .i64 z6.pos, .int .i64 z6.y.t, .int .i64 z6.pos, .slice none 0 0, .int .i64 z6.q.f, .int .i64 z6.q.g, .slice z6.qA z6.q.os.length z6.qc, .slice none 0 0, .slice none 0 0, .slice none 0 0, .slice none 0 0, .slice z6.y.bA z6.y.base.length z6.y.bc, .int .i64 z6.y.t, .slice z6.y.oA z6.y.ops.length z6.y.oc, .slice z6.y.uA z6.y.us.length z6.y.uc, .slice z6.y.wA z6.y.now.length z6.y.wc, .slice z6.cA z6.l.length z6.cc, .int .i64 z6.inc, .int .i64 z6.mode, .int .i64 z6.clock, .int .i64 z6.sent, .slice z6.pA 0 z6.pc, .int .i64 z6.late] rfl ?_) | (refine El.store dvRow rfl _ _ rfl n2 z6 #[.int .i64 z6.node, .int .i64 z6.boot, .int .i64 z6.above, .int .i64 z6.pos, .int .i64 z6.y.t, .int .i64 z6.pos, .slice none 0 0, .int .i64 z6.q.f, .int .i64 z6.q.g, .slice z6.qA z6.q.os.length z6.qc, .slice none 0 0, .slice none 0 0, .slice none 0 0, .slice none 0 0, .slice z6.y.bA z6.y.base.length z6.y.bc, .int .i64 z6.y.t, .slice z6.y.oA z6.y.ops.length z6.y.oc, .slice z6.y.uA z6.y.us.length z6.y.uc, .slice z6.y.wA z6.y.now.length z6.y.wc, .slice z6.cA z6.l.length z6.cc, .int .i64 z6.inc, .int .i64 z6.mode, .int .i64 z6.clock, .int .i64 z6.sent, .slice z6.pA 0 z6.pc, .int .i64 z6.late] rfl rfl rfl z hE ?_) | fail)
                  exact ⟨⟨k + 1, k1, z6, by have := HKL.out; omega, rfl, by go_num, HX3, hE.set z6 #[.int .i64 z6.node, .int .i64 z6.boot, .int .i64 z6.above, .int .i64 z6.pos, .int .i64 z6.y.t, .int .i64 z6.pos, .slice none 0 0, .int .i64 z6.q.f, .int .i64 z6.q.g, .slice z6.qA z6.q.os.length z6.qc, .slice none 0 0, .slice none 0 0, .slice none 0 0, .slice none 0 0, .slice z6.y.bA z6.y.base.length z6.y.bc, .int .i64 z6.y.t, .slice z6.y.oA z6.y.ops.length z6.y.oc, .slice z6.y.uA z6.y.us.length z6.y.uc, .slice z6.y.wA z6.y.now.length z6.y.wc, .slice z6.cA z6.l.length z6.cc, .int .i64 z6.inc, .int .i64 z6.mode, .int .i64 z6.clock, .int .i64 z6.sent, .slice z6.pA 0 z6.pc, .int .i64 z6.late] rfl, hz6.keepB hE hgr, hP.keep hgr hne1, inSl_keep hT hne2 hgr, below_setRow hB hnw _⟩, by have := HKL.out; simp [intOf]; omega⟩
      · obtain rfl : k = l.length := by omega
        clear HI hE hz hP hT
        go_wp2_with fail
        refine (HA _).mono ?_
        rintro e w7 ⟨rfl, hb7⟩
        go_wp2_with fail
        go_ret
        exact ⟨rfl, below_then hB hb7⟩
end Go.Proofs.YtdcjffajmckleaaGreatDoor

namespace Go.Proofs.YtdcjffajmckleaaGreatDoor
open Go.ChangeShapes Go.WideShapes Go.ChangeAt Go.RowKit Go.Deep Nam Cod Tre Pst Pln

set_option maxRecDepth 100000 in
theorem edits18_lifted (os : Os) (started : os.Started) (H : Type) (enc : TypeId × Value → H) :
    ReturnsInHanded {} Tryz.checked os 3 .any (fun w args => (Rows.deviceEditsSpec.pre enc Tryz.prog Tryz.f3 [] false w args ∧ laidMetH Tryz.prog laid3 w) ∧ sizedMet enc Tryz.prog Tryz.f3 (OpenSpec.ofChange Rows.deviceEditsSpec) false w args) (Rows.deviceEditsSpec.post enc Tryz.prog Tryz.f3 false true false false) := by
  refine returnsInHanded_of_change_and (C := Tryz.checked) (X := fun w _ => laidMetH Tryz.prog laid3 w) (fun _ _ _ hh h => h.of_heap hh) own started (by kernel_rfl) Tryz.func3
    (ChangeSpec.witness_shaped (enc := enc) (C := Tryz.checked) (os := os) (X := fun w _ => laidMetH Tryz.prog laid3 w) false (World.doorLaid Tryz.prog 24 os) #[.slice none 0 0, .int .u8 0] 8 rfl (World.shaped_of_RefB (by kernel_rfl) (by kernel_rfl)) (by kernel_rfl) (by kernel_rfl) (by kernel_rfl) (door_met os _)) ?_
  intro W base args ds gs before hval0 hW _ _ hL _
  have hval : ∀ (j : Nat) t v, Tryz.f3.params[j]? = some t → args[j]? = some v → Value.okWide Tryz.prog W .any base t v := hval0
  have hW' := hW
  obtain ⟨p, q, hA0, hV, rfl, _, _⟩ := hW
  have hA : DataW.TrodAll enc Tryz.prog W 0 (fun _ => true) true Tryz.f3.params.toList args.toList ds p := hA0
  rw [Tryz.params3] at hA hval
  obtain ⟨v0, v1, d0, d1, p0, p1, rfl, rfl, rfl, h0, h1⟩ := trodAll_two hA
  obtain ⟨A, c, l, rfl, hT, _, _, hw⟩ := open_tree (hval 0 22 v0 rfl rfl) h0
  obtain ⟨t, rfl, ht⟩ := open_u8 (hval 1 5 v1 rfl rfl) h1
  have hc : Calls Tryz.prog 3 #[.slice A l.length c, .int .u8 t] W fun e w' => e = .returned (.bool true) ∧ Below W.heap.size W w' := by
    exact edits18_any deviceCalls (fun wx => awake18_any deviceCalls wx) (fun x z w hr hx hz hv => same18_any x z w hr hx hz hv) A c l t W (plSl.2 hT) (fun p hp => ⟨(hw p hp).1, (hw p hp).2.1, long_le hw p hp⟩) ht
  refine hc.mono fun e W' ⟨he, hb⟩ => ?_
  subst he
  exact ⟨_, rfl, Frm.law_post (by kernel_rfl) (by kernel_rfl) (by kernel_rfl) Tryz.underlying4 rfl rfl hW' hb⟩

theorem edits18_said : Rows.DeviceEditsSaid :=
  OpenClaim.holds_of_wide 3 Tryz.f3 rfl rfl rfl rfl rfl rfl rfl ⟨rfl, rfl, rfl, rfl, rfl⟩ rfl rfl rfl rfl rfl (by kernel_rfl) Tryz.func3 (by kernel_rfl)
    (of_decide_eq_true (by kernel_rfl)) (by unfold Func.isWrapper; first | (rw [if_pos (by decide +kernel)]; kernel_rfl) | (rw [if_neg (by decide +kernel)]; exact ⟨rfl, rfl⟩))
    (fun os started H enc _ => edits18_lifted os started H enc)

theorem edits18_holds : Rows.DeviceEditsCardSaid :=
  Claim7.holds_tied_plain_at .later [] [.data, .data, .data] true (true, "6b440484a0b03d5e31f6d096c8c5accc0fe897dc17eee7afaa4cc962965475ac") false
    (edits18_said) (fun _ h => by cases h) (by kernel_rfl) (fun _ h => by cases h) deviceEdits_row_tie rfl ⟨rfl, rfl⟩ (by kernel_rfl) rfl
    (fun f fn hf hfn => by
      obtain rfl : f = 3 := Option.some.inj ((show Tryz.prog.funcNamed "bargeman/bargemanlaw18.DeviceEdits" = some 3 by kernel_rfl).symm.trans hf) |>.symm
      obtain rfl : fn = Tryz.f3 := (Option.some.inj (Tryz.func3.symm.trans hfn)).symm
      exact ⟨by kernel_rfl, fun j t ht => by
        rw [Tryz.params3] at ht
        have hm : t ∈ [22, 5] := by simpa using Array.mem_of_getElem? ht
        have hall : ([22, 5].all fun u => !Tryz.prog.wantsStandIn u) = true := by kernel_rfl
        exact (show Tryz.prog.wantsStandIn t = false by simpa using List.all_eq_true.1 hall t hm)⟩)
    (by kernel_rfl)
end Go.Proofs.YtdcjffajmckleaaGreatDoor
