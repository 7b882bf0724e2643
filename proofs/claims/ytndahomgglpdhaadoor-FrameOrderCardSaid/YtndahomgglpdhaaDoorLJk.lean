/- FrameOrder is proved: frames that are unlike have unlike bytes. Conditions: the package's table that the sums read lies, when the call begins, as the program's own text lays it (the card ties that). -/
import Derived.Test.YtndahomgglpdhaaDoorB07
import Derived.Deep.CutRange
namespace Go.Proofs.YtndahomgglpdhaaDoor
open Go.RowKit Nam Cod

theorem frEq_of {x y : Fr} (h : x.a = y.a ∧ x.b = y.b ∧ x.boot = y.boot ∧ x.first = y.first ∧ x.pos = y.pos ∧ x.start = y.start ∧ x.ack = y.ack ∧ x.grant = y.grant ∧ x.s = y.s ∧ x.t = y.t ∧ x.os = y.os ∧ x.rs = y.rs ∧ x.es = y.es ∧ x.gs = y.gs) : x = y := by
  obtain ⟨x1, x2, x3, x4, x5, x6, x7, x8, x9, x10, x11, x12, x13, x14⟩ := x
  obtain ⟨y1, y2, y3, y4, y5, y6, y7, y8, y9, y10, y11, y12, y13, y14⟩ := y
  dsimp only at h
  obtain ⟨rfl, rfl, rfl, rfl, rfl, rfl, rfl, rfl, rfl, rfl, rfl, rfl, rfl, rfl⟩ := h
  rfl
set_option maxRecDepth 100000 in
set_option maxHeartbeats 2000000 in
theorem same15_n0 (y z : Fw) (w : World) (e0 : (y.x.a == z.x.a) = false) (a1 : ¬ y.x.a = z.x.a) : Calls Tryd.prog 20 #[.agg #[.int .i64 y.x.a, .int .i64 y.x.b, .int .i64 y.x.boot, .int .i64 y.x.first, .slice y.oA y.x.os.length y.oc, .int .i64 y.x.pos, .slice y.rA y.x.rs.length y.rc, .int .i64 y.x.start, .slice y.eA y.x.es.length y.ec, .int .i64 y.x.ack, .int .i64 y.x.grant, .int .i64 y.x.s, .int .i64 y.x.t, .slice y.gA y.x.gs.length y.gc], .agg #[.int .i64 z.x.a, .int .i64 z.x.b, .int .i64 z.x.boot, .int .i64 z.x.first, .slice z.oA z.x.os.length z.oc, .int .i64 z.x.pos, .slice z.rA z.x.rs.length z.rc, .int .i64 z.x.start, .slice z.eA z.x.es.length z.ec, .int .i64 z.x.ack, .int .i64 z.x.grant, .int .i64 z.x.s, .int .i64 z.x.t, .slice z.gA z.x.gs.length z.gc]] w fun e w' => ∃ b, e = .returned (.bool b) ∧ (b = true ↔ y.x = z.x) ∧ Below w.heap.size w w' := by
  have HA := Lib.hid a1
  clear a1
  have hP : frE.In ((w.alloc (.cells #[.int .i64 y.x.a, .int .i64 y.x.b, .int .i64 y.x.boot, .int .i64 y.x.first, .slice y.oA y.x.os.length y.oc, .int .i64 y.x.pos, .slice y.rA y.x.rs.length y.rc, .int .i64 y.x.start, .slice y.eA y.x.es.length y.ec, .int .i64 y.x.ack, .int .i64 y.x.grant, .int .i64 y.x.s, .int .i64 y.x.t, .slice y.gA y.x.gs.length y.gc] 27)).alloc (.cells #[.int .i64 z.x.a, .int .i64 z.x.b, .int .i64 z.x.boot, .int .i64 z.x.first, .slice z.oA z.x.os.length z.oc, .int .i64 z.x.pos, .slice z.rA z.x.rs.length z.rc, .int .i64 z.x.start, .slice z.eA z.x.es.length z.ec, .int .i64 z.x.ack, .int .i64 z.x.grant, .int .i64 z.x.s, .int .i64 z.x.t, .slice z.gA z.x.gs.length z.gc] 27)) w.heap.size y := (El.In.new (E := frE) w y _ rfl).alloc _
  have hQ : frE.In ((w.alloc (.cells #[.int .i64 y.x.a, .int .i64 y.x.b, .int .i64 y.x.boot, .int .i64 y.x.first, .slice y.oA y.x.os.length y.oc, .int .i64 y.x.pos, .slice y.rA y.x.rs.length y.rc, .int .i64 y.x.start, .slice y.eA y.x.es.length y.ec, .int .i64 y.x.ack, .int .i64 y.x.grant, .int .i64 y.x.s, .int .i64 y.x.t, .slice y.gA y.x.gs.length y.gc] 27)).alloc (.cells #[.int .i64 z.x.a, .int .i64 z.x.b, .int .i64 z.x.boot, .int .i64 z.x.first, .slice z.oA z.x.os.length z.oc, .int .i64 z.x.pos, .slice z.rA z.x.rs.length z.rc, .int .i64 z.x.start, .slice z.eA z.x.es.length z.ec, .int .i64 z.x.ack, .int .i64 z.x.grant, .int .i64 z.x.s, .int .i64 z.x.t, .slice z.gA z.x.gs.length z.gc] 27)) (w.alloc (.cells #[.int .i64 y.x.a, .int .i64 y.x.b, .int .i64 y.x.boot, .int .i64 y.x.first, .slice y.oA y.x.os.length y.oc, .int .i64 y.x.pos, .slice y.rA y.x.rs.length y.rc, .int .i64 y.x.start, .slice y.eA y.x.es.length y.ec, .int .i64 y.x.ack, .int .i64 y.x.grant, .int .i64 y.x.s, .int .i64 y.x.t, .slice y.gA y.x.gs.length y.gc] 27)).heap.size z := El.In.new (E := frE) (w.alloc (.cells #[.int .i64 y.x.a, .int .i64 y.x.b, .int .i64 y.x.boot, .int .i64 y.x.first, .slice y.oA y.x.os.length y.oc, .int .i64 y.x.pos, .slice y.rA y.x.rs.length y.rc, .int .i64 y.x.start, .slice y.eA y.x.es.length y.ec, .int .i64 y.x.ack, .int .i64 y.x.grant, .int .i64 y.x.s, .int .i64 y.x.t, .slice y.gA y.x.gs.length y.gc] 27)) z _ rfl
  rw [alloc_size] at hQ
  have hB := below_alloc (below_alloc (Below.refl w.heap.size w) (.cells #[.int .i64 y.x.a, .int .i64 y.x.b, .int .i64 y.x.boot, .int .i64 y.x.first, .slice y.oA y.x.os.length y.oc, .int .i64 y.x.pos, .slice y.rA y.x.rs.length y.rc, .int .i64 y.x.start, .slice y.eA y.x.es.length y.ec, .int .i64 y.x.ack, .int .i64 y.x.grant, .int .i64 y.x.s, .int .i64 y.x.t, .slice y.gA y.x.gs.length y.gc] 27)) (.cells #[.int .i64 z.x.a, .int .i64 z.x.b, .int .i64 z.x.boot, .int .i64 z.x.first, .slice z.oA z.x.os.length z.oc, .int .i64 z.x.pos, .slice z.rA z.x.rs.length z.rc, .int .i64 z.x.start, .slice z.eA z.x.es.length z.ec, .int .i64 z.x.ack, .int .i64 z.x.grant, .int .i64 z.x.s, .int .i64 z.x.t, .slice z.gA z.x.gs.length z.gc] 27)
  go_enter Tryd.func20, Tryd.ntmps20
  go_upto_region 1 with fail
  generalize (w.alloc (.cells #[.int .i64 y.x.a, .int .i64 y.x.b, .int .i64 y.x.boot, .int .i64 y.x.first, .slice y.oA y.x.os.length y.oc, .int .i64 y.x.pos, .slice y.rA y.x.rs.length y.rc, .int .i64 y.x.start, .slice y.eA y.x.es.length y.ec, .int .i64 y.x.ack, .int .i64 y.x.grant, .int .i64 y.x.s, .int .i64 y.x.t, .slice y.gA y.x.gs.length y.gc] 27)).alloc (.cells #[.int .i64 z.x.a, .int .i64 z.x.b, .int .i64 z.x.boot, .int .i64 z.x.first, .slice z.oA z.x.os.length z.oc, .int .i64 z.x.pos, .slice z.rA z.x.rs.length z.rc, .int .i64 z.x.start, .slice z.eA z.x.es.length z.ec, .int .i64 z.x.ack, .int .i64 z.x.grant, .int .i64 z.x.s, .int .i64 z.x.t, .slice z.gA z.x.gs.length z.gc] 27) = W at *
  obtain ⟨n2, hn2⟩ : ∃ n, w.heap.size + 1 = n := ⟨_, rfl⟩
  obtain ⟨n1, hn1⟩ : ∃ n, w.heap.size = n := ⟨_, rfl⟩
  rw [hn2] at hQ ⊢
  rw [hn1] at hP ⊢
  clear hn1 hn2
  obtain ⟨p0, p1, p2, p3, p4, p5, p6, p7, p8, p9, p10, p11, p12, p13⟩ := frIn14 hP
  obtain ⟨q0, q1, q2, q3, q4, q5, q6, q7, q8, q9, q10, q11, q12, q13⟩ := frIn14 hQ
  go_wp2_with fail
  have a1 := HA.out
  go_ret
  exact ⟨false, rfl, ⟨fun h => (by cases h), fun h => absurd (by rw [h]) a1⟩, hB⟩
set_option maxRecDepth 100000 in
set_option maxHeartbeats 2000000 in
theorem same15_n1 (y z : Fw) (w : World) (e0 : (y.x.a == z.x.a) = true) (e1 : (y.x.b == z.x.b) = false) (a1 : ¬ y.x.b = z.x.b) : Calls Tryd.prog 20 #[.agg #[.int .i64 y.x.a, .int .i64 y.x.b, .int .i64 y.x.boot, .int .i64 y.x.first, .slice y.oA y.x.os.length y.oc, .int .i64 y.x.pos, .slice y.rA y.x.rs.length y.rc, .int .i64 y.x.start, .slice y.eA y.x.es.length y.ec, .int .i64 y.x.ack, .int .i64 y.x.grant, .int .i64 y.x.s, .int .i64 y.x.t, .slice y.gA y.x.gs.length y.gc], .agg #[.int .i64 z.x.a, .int .i64 z.x.b, .int .i64 z.x.boot, .int .i64 z.x.first, .slice z.oA z.x.os.length z.oc, .int .i64 z.x.pos, .slice z.rA z.x.rs.length z.rc, .int .i64 z.x.start, .slice z.eA z.x.es.length z.ec, .int .i64 z.x.ack, .int .i64 z.x.grant, .int .i64 z.x.s, .int .i64 z.x.t, .slice z.gA z.x.gs.length z.gc]] w fun e w' => ∃ b, e = .returned (.bool b) ∧ (b = true ↔ y.x = z.x) ∧ Below w.heap.size w w' := by
  have HA := Lib.hid a1
  clear a1
  have hP : frE.In ((w.alloc (.cells #[.int .i64 y.x.a, .int .i64 y.x.b, .int .i64 y.x.boot, .int .i64 y.x.first, .slice y.oA y.x.os.length y.oc, .int .i64 y.x.pos, .slice y.rA y.x.rs.length y.rc, .int .i64 y.x.start, .slice y.eA y.x.es.length y.ec, .int .i64 y.x.ack, .int .i64 y.x.grant, .int .i64 y.x.s, .int .i64 y.x.t, .slice y.gA y.x.gs.length y.gc] 27)).alloc (.cells #[.int .i64 z.x.a, .int .i64 z.x.b, .int .i64 z.x.boot, .int .i64 z.x.first, .slice z.oA z.x.os.length z.oc, .int .i64 z.x.pos, .slice z.rA z.x.rs.length z.rc, .int .i64 z.x.start, .slice z.eA z.x.es.length z.ec, .int .i64 z.x.ack, .int .i64 z.x.grant, .int .i64 z.x.s, .int .i64 z.x.t, .slice z.gA z.x.gs.length z.gc] 27)) w.heap.size y := (El.In.new (E := frE) w y _ rfl).alloc _
  have hQ : frE.In ((w.alloc (.cells #[.int .i64 y.x.a, .int .i64 y.x.b, .int .i64 y.x.boot, .int .i64 y.x.first, .slice y.oA y.x.os.length y.oc, .int .i64 y.x.pos, .slice y.rA y.x.rs.length y.rc, .int .i64 y.x.start, .slice y.eA y.x.es.length y.ec, .int .i64 y.x.ack, .int .i64 y.x.grant, .int .i64 y.x.s, .int .i64 y.x.t, .slice y.gA y.x.gs.length y.gc] 27)).alloc (.cells #[.int .i64 z.x.a, .int .i64 z.x.b, .int .i64 z.x.boot, .int .i64 z.x.first, .slice z.oA z.x.os.length z.oc, .int .i64 z.x.pos, .slice z.rA z.x.rs.length z.rc, .int .i64 z.x.start, .slice z.eA z.x.es.length z.ec, .int .i64 z.x.ack, .int .i64 z.x.grant, .int .i64 z.x.s, .int .i64 z.x.t, .slice z.gA z.x.gs.length z.gc] 27)) (w.alloc (.cells #[.int .i64 y.x.a, .int .i64 y.x.b, .int .i64 y.x.boot, .int .i64 y.x.first, .slice y.oA y.x.os.length y.oc, .int .i64 y.x.pos, .slice y.rA y.x.rs.length y.rc, .int .i64 y.x.start, .slice y.eA y.x.es.length y.ec, .int .i64 y.x.ack, .int .i64 y.x.grant, .int .i64 y.x.s, .int .i64 y.x.t, .slice y.gA y.x.gs.length y.gc] 27)).heap.size z := El.In.new (E := frE) (w.alloc (.cells #[.int .i64 y.x.a, .int .i64 y.x.b, .int .i64 y.x.boot, .int .i64 y.x.first, .slice y.oA y.x.os.length y.oc, .int .i64 y.x.pos, .slice y.rA y.x.rs.length y.rc, .int .i64 y.x.start, .slice y.eA y.x.es.length y.ec, .int .i64 y.x.ack, .int .i64 y.x.grant, .int .i64 y.x.s, .int .i64 y.x.t, .slice y.gA y.x.gs.length y.gc] 27)) z _ rfl
  rw [alloc_size] at hQ
  have hB := below_alloc (below_alloc (Below.refl w.heap.size w) (.cells #[.int .i64 y.x.a, .int .i64 y.x.b, .int .i64 y.x.boot, .int .i64 y.x.first, .slice y.oA y.x.os.length y.oc, .int .i64 y.x.pos, .slice y.rA y.x.rs.length y.rc, .int .i64 y.x.start, .slice y.eA y.x.es.length y.ec, .int .i64 y.x.ack, .int .i64 y.x.grant, .int .i64 y.x.s, .int .i64 y.x.t, .slice y.gA y.x.gs.length y.gc] 27)) (.cells #[.int .i64 z.x.a, .int .i64 z.x.b, .int .i64 z.x.boot, .int .i64 z.x.first, .slice z.oA z.x.os.length z.oc, .int .i64 z.x.pos, .slice z.rA z.x.rs.length z.rc, .int .i64 z.x.start, .slice z.eA z.x.es.length z.ec, .int .i64 z.x.ack, .int .i64 z.x.grant, .int .i64 z.x.s, .int .i64 z.x.t, .slice z.gA z.x.gs.length z.gc] 27)
  go_enter Tryd.func20, Tryd.ntmps20
  go_upto_region 1 with fail
  generalize (w.alloc (.cells #[.int .i64 y.x.a, .int .i64 y.x.b, .int .i64 y.x.boot, .int .i64 y.x.first, .slice y.oA y.x.os.length y.oc, .int .i64 y.x.pos, .slice y.rA y.x.rs.length y.rc, .int .i64 y.x.start, .slice y.eA y.x.es.length y.ec, .int .i64 y.x.ack, .int .i64 y.x.grant, .int .i64 y.x.s, .int .i64 y.x.t, .slice y.gA y.x.gs.length y.gc] 27)).alloc (.cells #[.int .i64 z.x.a, .int .i64 z.x.b, .int .i64 z.x.boot, .int .i64 z.x.first, .slice z.oA z.x.os.length z.oc, .int .i64 z.x.pos, .slice z.rA z.x.rs.length z.rc, .int .i64 z.x.start, .slice z.eA z.x.es.length z.ec, .int .i64 z.x.ack, .int .i64 z.x.grant, .int .i64 z.x.s, .int .i64 z.x.t, .slice z.gA z.x.gs.length z.gc] 27) = W at *
  obtain ⟨n2, hn2⟩ : ∃ n, w.heap.size + 1 = n := ⟨_, rfl⟩
  obtain ⟨n1, hn1⟩ : ∃ n, w.heap.size = n := ⟨_, rfl⟩
  rw [hn2] at hQ ⊢
  rw [hn1] at hP ⊢
  clear hn1 hn2
  obtain ⟨p0, p1, p2, p3, p4, p5, p6, p7, p8, p9, p10, p11, p12, p13⟩ := frIn14 hP
  obtain ⟨q0, q1, q2, q3, q4, q5, q6, q7, q8, q9, q10, q11, q12, q13⟩ := frIn14 hQ
  go_wp2_with fail
  have a1 := HA.out
  go_ret
  exact ⟨false, rfl, ⟨fun h => (by cases h), fun h => absurd (by rw [h]) a1⟩, hB⟩
set_option maxRecDepth 100000 in
set_option maxHeartbeats 2000000 in
theorem same15_n2 (y z : Fw) (w : World) (e0 : (y.x.a == z.x.a) = true) (e1 : (y.x.b == z.x.b) = true) (e2 : (y.x.boot == z.x.boot) = false) (a1 : ¬ y.x.boot = z.x.boot) : Calls Tryd.prog 20 #[.agg #[.int .i64 y.x.a, .int .i64 y.x.b, .int .i64 y.x.boot, .int .i64 y.x.first, .slice y.oA y.x.os.length y.oc, .int .i64 y.x.pos, .slice y.rA y.x.rs.length y.rc, .int .i64 y.x.start, .slice y.eA y.x.es.length y.ec, .int .i64 y.x.ack, .int .i64 y.x.grant, .int .i64 y.x.s, .int .i64 y.x.t, .slice y.gA y.x.gs.length y.gc], .agg #[.int .i64 z.x.a, .int .i64 z.x.b, .int .i64 z.x.boot, .int .i64 z.x.first, .slice z.oA z.x.os.length z.oc, .int .i64 z.x.pos, .slice z.rA z.x.rs.length z.rc, .int .i64 z.x.start, .slice z.eA z.x.es.length z.ec, .int .i64 z.x.ack, .int .i64 z.x.grant, .int .i64 z.x.s, .int .i64 z.x.t, .slice z.gA z.x.gs.length z.gc]] w fun e w' => ∃ b, e = .returned (.bool b) ∧ (b = true ↔ y.x = z.x) ∧ Below w.heap.size w w' := by
  have HA := Lib.hid a1
  clear a1
  have hP : frE.In ((w.alloc (.cells #[.int .i64 y.x.a, .int .i64 y.x.b, .int .i64 y.x.boot, .int .i64 y.x.first, .slice y.oA y.x.os.length y.oc, .int .i64 y.x.pos, .slice y.rA y.x.rs.length y.rc, .int .i64 y.x.start, .slice y.eA y.x.es.length y.ec, .int .i64 y.x.ack, .int .i64 y.x.grant, .int .i64 y.x.s, .int .i64 y.x.t, .slice y.gA y.x.gs.length y.gc] 27)).alloc (.cells #[.int .i64 z.x.a, .int .i64 z.x.b, .int .i64 z.x.boot, .int .i64 z.x.first, .slice z.oA z.x.os.length z.oc, .int .i64 z.x.pos, .slice z.rA z.x.rs.length z.rc, .int .i64 z.x.start, .slice z.eA z.x.es.length z.ec, .int .i64 z.x.ack, .int .i64 z.x.grant, .int .i64 z.x.s, .int .i64 z.x.t, .slice z.gA z.x.gs.length z.gc] 27)) w.heap.size y := (El.In.new (E := frE) w y _ rfl).alloc _
  have hQ : frE.In ((w.alloc (.cells #[.int .i64 y.x.a, .int .i64 y.x.b, .int .i64 y.x.boot, .int .i64 y.x.first, .slice y.oA y.x.os.length y.oc, .int .i64 y.x.pos, .slice y.rA y.x.rs.length y.rc, .int .i64 y.x.start, .slice y.eA y.x.es.length y.ec, .int .i64 y.x.ack, .int .i64 y.x.grant, .int .i64 y.x.s, .int .i64 y.x.t, .slice y.gA y.x.gs.length y.gc] 27)).alloc (.cells #[.int .i64 z.x.a, .int .i64 z.x.b, .int .i64 z.x.boot, .int .i64 z.x.first, .slice z.oA z.x.os.length z.oc, .int .i64 z.x.pos, .slice z.rA z.x.rs.length z.rc, .int .i64 z.x.start, .slice z.eA z.x.es.length z.ec, .int .i64 z.x.ack, .int .i64 z.x.grant, .int .i64 z.x.s, .int .i64 z.x.t, .slice z.gA z.x.gs.length z.gc] 27)) (w.alloc (.cells #[.int .i64 y.x.a, .int .i64 y.x.b, .int .i64 y.x.boot, .int .i64 y.x.first, .slice y.oA y.x.os.length y.oc, .int .i64 y.x.pos, .slice y.rA y.x.rs.length y.rc, .int .i64 y.x.start, .slice y.eA y.x.es.length y.ec, .int .i64 y.x.ack, .int .i64 y.x.grant, .int .i64 y.x.s, .int .i64 y.x.t, .slice y.gA y.x.gs.length y.gc] 27)).heap.size z := El.In.new (E := frE) (w.alloc (.cells #[.int .i64 y.x.a, .int .i64 y.x.b, .int .i64 y.x.boot, .int .i64 y.x.first, .slice y.oA y.x.os.length y.oc, .int .i64 y.x.pos, .slice y.rA y.x.rs.length y.rc, .int .i64 y.x.start, .slice y.eA y.x.es.length y.ec, .int .i64 y.x.ack, .int .i64 y.x.grant, .int .i64 y.x.s, .int .i64 y.x.t, .slice y.gA y.x.gs.length y.gc] 27)) z _ rfl
  rw [alloc_size] at hQ
  have hB := below_alloc (below_alloc (Below.refl w.heap.size w) (.cells #[.int .i64 y.x.a, .int .i64 y.x.b, .int .i64 y.x.boot, .int .i64 y.x.first, .slice y.oA y.x.os.length y.oc, .int .i64 y.x.pos, .slice y.rA y.x.rs.length y.rc, .int .i64 y.x.start, .slice y.eA y.x.es.length y.ec, .int .i64 y.x.ack, .int .i64 y.x.grant, .int .i64 y.x.s, .int .i64 y.x.t, .slice y.gA y.x.gs.length y.gc] 27)) (.cells #[.int .i64 z.x.a, .int .i64 z.x.b, .int .i64 z.x.boot, .int .i64 z.x.first, .slice z.oA z.x.os.length z.oc, .int .i64 z.x.pos, .slice z.rA z.x.rs.length z.rc, .int .i64 z.x.start, .slice z.eA z.x.es.length z.ec, .int .i64 z.x.ack, .int .i64 z.x.grant, .int .i64 z.x.s, .int .i64 z.x.t, .slice z.gA z.x.gs.length z.gc] 27)
  go_enter Tryd.func20, Tryd.ntmps20
  go_upto_region 1 with fail
  generalize (w.alloc (.cells #[.int .i64 y.x.a, .int .i64 y.x.b, .int .i64 y.x.boot, .int .i64 y.x.first, .slice y.oA y.x.os.length y.oc, .int .i64 y.x.pos, .slice y.rA y.x.rs.length y.rc, .int .i64 y.x.start, .slice y.eA y.x.es.length y.ec, .int .i64 y.x.ack, .int .i64 y.x.grant, .int .i64 y.x.s, .int .i64 y.x.t, .slice y.gA y.x.gs.length y.gc] 27)).alloc (.cells #[.int .i64 z.x.a, .int .i64 z.x.b, .int .i64 z.x.boot, .int .i64 z.x.first, .slice z.oA z.x.os.length z.oc, .int .i64 z.x.pos, .slice z.rA z.x.rs.length z.rc, .int .i64 z.x.start, .slice z.eA z.x.es.length z.ec, .int .i64 z.x.ack, .int .i64 z.x.grant, .int .i64 z.x.s, .int .i64 z.x.t, .slice z.gA z.x.gs.length z.gc] 27) = W at *
  obtain ⟨n2, hn2⟩ : ∃ n, w.heap.size + 1 = n := ⟨_, rfl⟩
  obtain ⟨n1, hn1⟩ : ∃ n, w.heap.size = n := ⟨_, rfl⟩
  rw [hn2] at hQ ⊢
  rw [hn1] at hP ⊢
  clear hn1 hn2
  obtain ⟨p0, p1, p2, p3, p4, p5, p6, p7, p8, p9, p10, p11, p12, p13⟩ := frIn14 hP
  obtain ⟨q0, q1, q2, q3, q4, q5, q6, q7, q8, q9, q10, q11, q12, q13⟩ := frIn14 hQ
  go_wp2_with fail
  have a1 := HA.out
  go_ret
  exact ⟨false, rfl, ⟨fun h => (by cases h), fun h => absurd (by rw [h]) a1⟩, hB⟩
set_option maxRecDepth 100000 in
set_option maxHeartbeats 2000000 in
theorem same15_n3 (y z : Fw) (w : World) (e0 : (y.x.a == z.x.a) = true) (e1 : (y.x.b == z.x.b) = true) (e2 : (y.x.boot == z.x.boot) = true) (e3 : (y.x.first == z.x.first) = false) (a1 : ¬ y.x.first = z.x.first) : Calls Tryd.prog 20 #[.agg #[.int .i64 y.x.a, .int .i64 y.x.b, .int .i64 y.x.boot, .int .i64 y.x.first, .slice y.oA y.x.os.length y.oc, .int .i64 y.x.pos, .slice y.rA y.x.rs.length y.rc, .int .i64 y.x.start, .slice y.eA y.x.es.length y.ec, .int .i64 y.x.ack, .int .i64 y.x.grant, .int .i64 y.x.s, .int .i64 y.x.t, .slice y.gA y.x.gs.length y.gc], .agg #[.int .i64 z.x.a, .int .i64 z.x.b, .int .i64 z.x.boot, .int .i64 z.x.first, .slice z.oA z.x.os.length z.oc, .int .i64 z.x.pos, .slice z.rA z.x.rs.length z.rc, .int .i64 z.x.start, .slice z.eA z.x.es.length z.ec, .int .i64 z.x.ack, .int .i64 z.x.grant, .int .i64 z.x.s, .int .i64 z.x.t, .slice z.gA z.x.gs.length z.gc]] w fun e w' => ∃ b, e = .returned (.bool b) ∧ (b = true ↔ y.x = z.x) ∧ Below w.heap.size w w' := by
  have HA := Lib.hid a1
  clear a1
  have hP : frE.In ((w.alloc (.cells #[.int .i64 y.x.a, .int .i64 y.x.b, .int .i64 y.x.boot, .int .i64 y.x.first, .slice y.oA y.x.os.length y.oc, .int .i64 y.x.pos, .slice y.rA y.x.rs.length y.rc, .int .i64 y.x.start, .slice y.eA y.x.es.length y.ec, .int .i64 y.x.ack, .int .i64 y.x.grant, .int .i64 y.x.s, .int .i64 y.x.t, .slice y.gA y.x.gs.length y.gc] 27)).alloc (.cells #[.int .i64 z.x.a, .int .i64 z.x.b, .int .i64 z.x.boot, .int .i64 z.x.first, .slice z.oA z.x.os.length z.oc, .int .i64 z.x.pos, .slice z.rA z.x.rs.length z.rc, .int .i64 z.x.start, .slice z.eA z.x.es.length z.ec, .int .i64 z.x.ack, .int .i64 z.x.grant, .int .i64 z.x.s, .int .i64 z.x.t, .slice z.gA z.x.gs.length z.gc] 27)) w.heap.size y := (El.In.new (E := frE) w y _ rfl).alloc _
  have hQ : frE.In ((w.alloc (.cells #[.int .i64 y.x.a, .int .i64 y.x.b, .int .i64 y.x.boot, .int .i64 y.x.first, .slice y.oA y.x.os.length y.oc, .int .i64 y.x.pos, .slice y.rA y.x.rs.length y.rc, .int .i64 y.x.start, .slice y.eA y.x.es.length y.ec, .int .i64 y.x.ack, .int .i64 y.x.grant, .int .i64 y.x.s, .int .i64 y.x.t, .slice y.gA y.x.gs.length y.gc] 27)).alloc (.cells #[.int .i64 z.x.a, .int .i64 z.x.b, .int .i64 z.x.boot, .int .i64 z.x.first, .slice z.oA z.x.os.length z.oc, .int .i64 z.x.pos, .slice z.rA z.x.rs.length z.rc, .int .i64 z.x.start, .slice z.eA z.x.es.length z.ec, .int .i64 z.x.ack, .int .i64 z.x.grant, .int .i64 z.x.s, .int .i64 z.x.t, .slice z.gA z.x.gs.length z.gc] 27)) (w.alloc (.cells #[.int .i64 y.x.a, .int .i64 y.x.b, .int .i64 y.x.boot, .int .i64 y.x.first, .slice y.oA y.x.os.length y.oc, .int .i64 y.x.pos, .slice y.rA y.x.rs.length y.rc, .int .i64 y.x.start, .slice y.eA y.x.es.length y.ec, .int .i64 y.x.ack, .int .i64 y.x.grant, .int .i64 y.x.s, .int .i64 y.x.t, .slice y.gA y.x.gs.length y.gc] 27)).heap.size z := El.In.new (E := frE) (w.alloc (.cells #[.int .i64 y.x.a, .int .i64 y.x.b, .int .i64 y.x.boot, .int .i64 y.x.first, .slice y.oA y.x.os.length y.oc, .int .i64 y.x.pos, .slice y.rA y.x.rs.length y.rc, .int .i64 y.x.start, .slice y.eA y.x.es.length y.ec, .int .i64 y.x.ack, .int .i64 y.x.grant, .int .i64 y.x.s, .int .i64 y.x.t, .slice y.gA y.x.gs.length y.gc] 27)) z _ rfl
  rw [alloc_size] at hQ
  have hB := below_alloc (below_alloc (Below.refl w.heap.size w) (.cells #[.int .i64 y.x.a, .int .i64 y.x.b, .int .i64 y.x.boot, .int .i64 y.x.first, .slice y.oA y.x.os.length y.oc, .int .i64 y.x.pos, .slice y.rA y.x.rs.length y.rc, .int .i64 y.x.start, .slice y.eA y.x.es.length y.ec, .int .i64 y.x.ack, .int .i64 y.x.grant, .int .i64 y.x.s, .int .i64 y.x.t, .slice y.gA y.x.gs.length y.gc] 27)) (.cells #[.int .i64 z.x.a, .int .i64 z.x.b, .int .i64 z.x.boot, .int .i64 z.x.first, .slice z.oA z.x.os.length z.oc, .int .i64 z.x.pos, .slice z.rA z.x.rs.length z.rc, .int .i64 z.x.start, .slice z.eA z.x.es.length z.ec, .int .i64 z.x.ack, .int .i64 z.x.grant, .int .i64 z.x.s, .int .i64 z.x.t, .slice z.gA z.x.gs.length z.gc] 27)
  go_enter Tryd.func20, Tryd.ntmps20
  go_upto_region 1 with fail
  generalize (w.alloc (.cells #[.int .i64 y.x.a, .int .i64 y.x.b, .int .i64 y.x.boot, .int .i64 y.x.first, .slice y.oA y.x.os.length y.oc, .int .i64 y.x.pos, .slice y.rA y.x.rs.length y.rc, .int .i64 y.x.start, .slice y.eA y.x.es.length y.ec, .int .i64 y.x.ack, .int .i64 y.x.grant, .int .i64 y.x.s, .int .i64 y.x.t, .slice y.gA y.x.gs.length y.gc] 27)).alloc (.cells #[.int .i64 z.x.a, .int .i64 z.x.b, .int .i64 z.x.boot, .int .i64 z.x.first, .slice z.oA z.x.os.length z.oc, .int .i64 z.x.pos, .slice z.rA z.x.rs.length z.rc, .int .i64 z.x.start, .slice z.eA z.x.es.length z.ec, .int .i64 z.x.ack, .int .i64 z.x.grant, .int .i64 z.x.s, .int .i64 z.x.t, .slice z.gA z.x.gs.length z.gc] 27) = W at *
  obtain ⟨n2, hn2⟩ : ∃ n, w.heap.size + 1 = n := ⟨_, rfl⟩
  obtain ⟨n1, hn1⟩ : ∃ n, w.heap.size = n := ⟨_, rfl⟩
  rw [hn2] at hQ ⊢
  rw [hn1] at hP ⊢
  clear hn1 hn2
  obtain ⟨p0, p1, p2, p3, p4, p5, p6, p7, p8, p9, p10, p11, p12, p13⟩ := frIn14 hP
  obtain ⟨q0, q1, q2, q3, q4, q5, q6, q7, q8, q9, q10, q11, q12, q13⟩ := frIn14 hQ
  go_wp2_with fail
  have a1 := HA.out
  go_ret
  exact ⟨false, rfl, ⟨fun h => (by cases h), fun h => absurd (by rw [h]) a1⟩, hB⟩
set_option maxRecDepth 100000 in
set_option maxHeartbeats 2000000 in
theorem same15_n4 (y z : Fw) (w : World) (e0 : (y.x.a == z.x.a) = true) (e1 : (y.x.b == z.x.b) = true) (e2 : (y.x.boot == z.x.boot) = true) (e3 : (y.x.first == z.x.first) = true) (e4 : (y.x.pos == z.x.pos) = false) (a1 : ¬ y.x.pos = z.x.pos) : Calls Tryd.prog 20 #[.agg #[.int .i64 y.x.a, .int .i64 y.x.b, .int .i64 y.x.boot, .int .i64 y.x.first, .slice y.oA y.x.os.length y.oc, .int .i64 y.x.pos, .slice y.rA y.x.rs.length y.rc, .int .i64 y.x.start, .slice y.eA y.x.es.length y.ec, .int .i64 y.x.ack, .int .i64 y.x.grant, .int .i64 y.x.s, .int .i64 y.x.t, .slice y.gA y.x.gs.length y.gc], .agg #[.int .i64 z.x.a, .int .i64 z.x.b, .int .i64 z.x.boot, .int .i64 z.x.first, .slice z.oA z.x.os.length z.oc, .int .i64 z.x.pos, .slice z.rA z.x.rs.length z.rc, .int .i64 z.x.start, .slice z.eA z.x.es.length z.ec, .int .i64 z.x.ack, .int .i64 z.x.grant, .int .i64 z.x.s, .int .i64 z.x.t, .slice z.gA z.x.gs.length z.gc]] w fun e w' => ∃ b, e = .returned (.bool b) ∧ (b = true ↔ y.x = z.x) ∧ Below w.heap.size w w' := by
  have HA := Lib.hid a1
  clear a1
  have hP : frE.In ((w.alloc (.cells #[.int .i64 y.x.a, .int .i64 y.x.b, .int .i64 y.x.boot, .int .i64 y.x.first, .slice y.oA y.x.os.length y.oc, .int .i64 y.x.pos, .slice y.rA y.x.rs.length y.rc, .int .i64 y.x.start, .slice y.eA y.x.es.length y.ec, .int .i64 y.x.ack, .int .i64 y.x.grant, .int .i64 y.x.s, .int .i64 y.x.t, .slice y.gA y.x.gs.length y.gc] 27)).alloc (.cells #[.int .i64 z.x.a, .int .i64 z.x.b, .int .i64 z.x.boot, .int .i64 z.x.first, .slice z.oA z.x.os.length z.oc, .int .i64 z.x.pos, .slice z.rA z.x.rs.length z.rc, .int .i64 z.x.start, .slice z.eA z.x.es.length z.ec, .int .i64 z.x.ack, .int .i64 z.x.grant, .int .i64 z.x.s, .int .i64 z.x.t, .slice z.gA z.x.gs.length z.gc] 27)) w.heap.size y := (El.In.new (E := frE) w y _ rfl).alloc _
  have hQ : frE.In ((w.alloc (.cells #[.int .i64 y.x.a, .int .i64 y.x.b, .int .i64 y.x.boot, .int .i64 y.x.first, .slice y.oA y.x.os.length y.oc, .int .i64 y.x.pos, .slice y.rA y.x.rs.length y.rc, .int .i64 y.x.start, .slice y.eA y.x.es.length y.ec, .int .i64 y.x.ack, .int .i64 y.x.grant, .int .i64 y.x.s, .int .i64 y.x.t, .slice y.gA y.x.gs.length y.gc] 27)).alloc (.cells #[.int .i64 z.x.a, .int .i64 z.x.b, .int .i64 z.x.boot, .int .i64 z.x.first, .slice z.oA z.x.os.length z.oc, .int .i64 z.x.pos, .slice z.rA z.x.rs.length z.rc, .int .i64 z.x.start, .slice z.eA z.x.es.length z.ec, .int .i64 z.x.ack, .int .i64 z.x.grant, .int .i64 z.x.s, .int .i64 z.x.t, .slice z.gA z.x.gs.length z.gc] 27)) (w.alloc (.cells #[.int .i64 y.x.a, .int .i64 y.x.b, .int .i64 y.x.boot, .int .i64 y.x.first, .slice y.oA y.x.os.length y.oc, .int .i64 y.x.pos, .slice y.rA y.x.rs.length y.rc, .int .i64 y.x.start, .slice y.eA y.x.es.length y.ec, .int .i64 y.x.ack, .int .i64 y.x.grant, .int .i64 y.x.s, .int .i64 y.x.t, .slice y.gA y.x.gs.length y.gc] 27)).heap.size z := El.In.new (E := frE) (w.alloc (.cells #[.int .i64 y.x.a, .int .i64 y.x.b, .int .i64 y.x.boot, .int .i64 y.x.first, .slice y.oA y.x.os.length y.oc, .int .i64 y.x.pos, .slice y.rA y.x.rs.length y.rc, .int .i64 y.x.start, .slice y.eA y.x.es.length y.ec, .int .i64 y.x.ack, .int .i64 y.x.grant, .int .i64 y.x.s, .int .i64 y.x.t, .slice y.gA y.x.gs.length y.gc] 27)) z _ rfl
  rw [alloc_size] at hQ
  have hB := below_alloc (below_alloc (Below.refl w.heap.size w) (.cells #[.int .i64 y.x.a, .int .i64 y.x.b, .int .i64 y.x.boot, .int .i64 y.x.first, .slice y.oA y.x.os.length y.oc, .int .i64 y.x.pos, .slice y.rA y.x.rs.length y.rc, .int .i64 y.x.start, .slice y.eA y.x.es.length y.ec, .int .i64 y.x.ack, .int .i64 y.x.grant, .int .i64 y.x.s, .int .i64 y.x.t, .slice y.gA y.x.gs.length y.gc] 27)) (.cells #[.int .i64 z.x.a, .int .i64 z.x.b, .int .i64 z.x.boot, .int .i64 z.x.first, .slice z.oA z.x.os.length z.oc, .int .i64 z.x.pos, .slice z.rA z.x.rs.length z.rc, .int .i64 z.x.start, .slice z.eA z.x.es.length z.ec, .int .i64 z.x.ack, .int .i64 z.x.grant, .int .i64 z.x.s, .int .i64 z.x.t, .slice z.gA z.x.gs.length z.gc] 27)
  go_enter Tryd.func20, Tryd.ntmps20
  go_upto_region 1 with fail
  generalize (w.alloc (.cells #[.int .i64 y.x.a, .int .i64 y.x.b, .int .i64 y.x.boot, .int .i64 y.x.first, .slice y.oA y.x.os.length y.oc, .int .i64 y.x.pos, .slice y.rA y.x.rs.length y.rc, .int .i64 y.x.start, .slice y.eA y.x.es.length y.ec, .int .i64 y.x.ack, .int .i64 y.x.grant, .int .i64 y.x.s, .int .i64 y.x.t, .slice y.gA y.x.gs.length y.gc] 27)).alloc (.cells #[.int .i64 z.x.a, .int .i64 z.x.b, .int .i64 z.x.boot, .int .i64 z.x.first, .slice z.oA z.x.os.length z.oc, .int .i64 z.x.pos, .slice z.rA z.x.rs.length z.rc, .int .i64 z.x.start, .slice z.eA z.x.es.length z.ec, .int .i64 z.x.ack, .int .i64 z.x.grant, .int .i64 z.x.s, .int .i64 z.x.t, .slice z.gA z.x.gs.length z.gc] 27) = W at *
  obtain ⟨n2, hn2⟩ : ∃ n, w.heap.size + 1 = n := ⟨_, rfl⟩
  obtain ⟨n1, hn1⟩ : ∃ n, w.heap.size = n := ⟨_, rfl⟩
  rw [hn2] at hQ ⊢
  rw [hn1] at hP ⊢
  clear hn1 hn2
  obtain ⟨p0, p1, p2, p3, p4, p5, p6, p7, p8, p9, p10, p11, p12, p13⟩ := frIn14 hP
  obtain ⟨q0, q1, q2, q3, q4, q5, q6, q7, q8, q9, q10, q11, q12, q13⟩ := frIn14 hQ
  go_wp2_with fail
  have a1 := HA.out
  go_ret
  exact ⟨false, rfl, ⟨fun h => (by cases h), fun h => absurd (by rw [h]) a1⟩, hB⟩
end Go.Proofs.YtndahomgglpdhaaDoor

namespace Go.Proofs.YtndahomgglpdhaaDoor
open Go.RowKit Nam Cod

set_option maxRecDepth 100000 in
set_option maxHeartbeats 2000000 in
theorem same15_n5 (y z : Fw) (w : World) (e0 : (y.x.a == z.x.a) = true) (e1 : (y.x.b == z.x.b) = true) (e2 : (y.x.boot == z.x.boot) = true) (e3 : (y.x.first == z.x.first) = true) (e4 : (y.x.pos == z.x.pos) = true) (e5 : (y.x.start == z.x.start) = false) (a1 : ¬ y.x.start = z.x.start) : Calls Tryd.prog 20 #[.agg #[.int .i64 y.x.a, .int .i64 y.x.b, .int .i64 y.x.boot, .int .i64 y.x.first, .slice y.oA y.x.os.length y.oc, .int .i64 y.x.pos, .slice y.rA y.x.rs.length y.rc, .int .i64 y.x.start, .slice y.eA y.x.es.length y.ec, .int .i64 y.x.ack, .int .i64 y.x.grant, .int .i64 y.x.s, .int .i64 y.x.t, .slice y.gA y.x.gs.length y.gc], .agg #[.int .i64 z.x.a, .int .i64 z.x.b, .int .i64 z.x.boot, .int .i64 z.x.first, .slice z.oA z.x.os.length z.oc, .int .i64 z.x.pos, .slice z.rA z.x.rs.length z.rc, .int .i64 z.x.start, .slice z.eA z.x.es.length z.ec, .int .i64 z.x.ack, .int .i64 z.x.grant, .int .i64 z.x.s, .int .i64 z.x.t, .slice z.gA z.x.gs.length z.gc]] w fun e w' => ∃ b, e = .returned (.bool b) ∧ (b = true ↔ y.x = z.x) ∧ Below w.heap.size w w' := by
  have HA := Lib.hid a1
  clear a1
  have hP : frE.In ((w.alloc (.cells #[.int .i64 y.x.a, .int .i64 y.x.b, .int .i64 y.x.boot, .int .i64 y.x.first, .slice y.oA y.x.os.length y.oc, .int .i64 y.x.pos, .slice y.rA y.x.rs.length y.rc, .int .i64 y.x.start, .slice y.eA y.x.es.length y.ec, .int .i64 y.x.ack, .int .i64 y.x.grant, .int .i64 y.x.s, .int .i64 y.x.t, .slice y.gA y.x.gs.length y.gc] 27)).alloc (.cells #[.int .i64 z.x.a, .int .i64 z.x.b, .int .i64 z.x.boot, .int .i64 z.x.first, .slice z.oA z.x.os.length z.oc, .int .i64 z.x.pos, .slice z.rA z.x.rs.length z.rc, .int .i64 z.x.start, .slice z.eA z.x.es.length z.ec, .int .i64 z.x.ack, .int .i64 z.x.grant, .int .i64 z.x.s, .int .i64 z.x.t, .slice z.gA z.x.gs.length z.gc] 27)) w.heap.size y := (El.In.new (E := frE) w y _ rfl).alloc _
  have hQ : frE.In ((w.alloc (.cells #[.int .i64 y.x.a, .int .i64 y.x.b, .int .i64 y.x.boot, .int .i64 y.x.first, .slice y.oA y.x.os.length y.oc, .int .i64 y.x.pos, .slice y.rA y.x.rs.length y.rc, .int .i64 y.x.start, .slice y.eA y.x.es.length y.ec, .int .i64 y.x.ack, .int .i64 y.x.grant, .int .i64 y.x.s, .int .i64 y.x.t, .slice y.gA y.x.gs.length y.gc] 27)).alloc (.cells #[.int .i64 z.x.a, .int .i64 z.x.b, .int .i64 z.x.boot, .int .i64 z.x.first, .slice z.oA z.x.os.length z.oc, .int .i64 z.x.pos, .slice z.rA z.x.rs.length z.rc, .int .i64 z.x.start, .slice z.eA z.x.es.length z.ec, .int .i64 z.x.ack, .int .i64 z.x.grant, .int .i64 z.x.s, .int .i64 z.x.t, .slice z.gA z.x.gs.length z.gc] 27)) (w.alloc (.cells #[.int .i64 y.x.a, .int .i64 y.x.b, .int .i64 y.x.boot, .int .i64 y.x.first, .slice y.oA y.x.os.length y.oc, .int .i64 y.x.pos, .slice y.rA y.x.rs.length y.rc, .int .i64 y.x.start, .slice y.eA y.x.es.length y.ec, .int .i64 y.x.ack, .int .i64 y.x.grant, .int .i64 y.x.s, .int .i64 y.x.t, .slice y.gA y.x.gs.length y.gc] 27)).heap.size z := El.In.new (E := frE) (w.alloc (.cells #[.int .i64 y.x.a, .int .i64 y.x.b, .int .i64 y.x.boot, .int .i64 y.x.first, .slice y.oA y.x.os.length y.oc, .int .i64 y.x.pos, .slice y.rA y.x.rs.length y.rc, .int .i64 y.x.start, .slice y.eA y.x.es.length y.ec, .int .i64 y.x.ack, .int .i64 y.x.grant, .int .i64 y.x.s, .int .i64 y.x.t, .slice y.gA y.x.gs.length y.gc] 27)) z _ rfl
  rw [alloc_size] at hQ
  have hB := below_alloc (below_alloc (Below.refl w.heap.size w) (.cells #[.int .i64 y.x.a, .int .i64 y.x.b, .int .i64 y.x.boot, .int .i64 y.x.first, .slice y.oA y.x.os.length y.oc, .int .i64 y.x.pos, .slice y.rA y.x.rs.length y.rc, .int .i64 y.x.start, .slice y.eA y.x.es.length y.ec, .int .i64 y.x.ack, .int .i64 y.x.grant, .int .i64 y.x.s, .int .i64 y.x.t, .slice y.gA y.x.gs.length y.gc] 27)) (.cells #[.int .i64 z.x.a, .int .i64 z.x.b, .int .i64 z.x.boot, .int .i64 z.x.first, .slice z.oA z.x.os.length z.oc, .int .i64 z.x.pos, .slice z.rA z.x.rs.length z.rc, .int .i64 z.x.start, .slice z.eA z.x.es.length z.ec, .int .i64 z.x.ack, .int .i64 z.x.grant, .int .i64 z.x.s, .int .i64 z.x.t, .slice z.gA z.x.gs.length z.gc] 27)
  go_enter Tryd.func20, Tryd.ntmps20
  go_upto_region 1 with fail
  generalize (w.alloc (.cells #[.int .i64 y.x.a, .int .i64 y.x.b, .int .i64 y.x.boot, .int .i64 y.x.first, .slice y.oA y.x.os.length y.oc, .int .i64 y.x.pos, .slice y.rA y.x.rs.length y.rc, .int .i64 y.x.start, .slice y.eA y.x.es.length y.ec, .int .i64 y.x.ack, .int .i64 y.x.grant, .int .i64 y.x.s, .int .i64 y.x.t, .slice y.gA y.x.gs.length y.gc] 27)).alloc (.cells #[.int .i64 z.x.a, .int .i64 z.x.b, .int .i64 z.x.boot, .int .i64 z.x.first, .slice z.oA z.x.os.length z.oc, .int .i64 z.x.pos, .slice z.rA z.x.rs.length z.rc, .int .i64 z.x.start, .slice z.eA z.x.es.length z.ec, .int .i64 z.x.ack, .int .i64 z.x.grant, .int .i64 z.x.s, .int .i64 z.x.t, .slice z.gA z.x.gs.length z.gc] 27) = W at *
  obtain ⟨n2, hn2⟩ : ∃ n, w.heap.size + 1 = n := ⟨_, rfl⟩
  obtain ⟨n1, hn1⟩ : ∃ n, w.heap.size = n := ⟨_, rfl⟩
  rw [hn2] at hQ ⊢
  rw [hn1] at hP ⊢
  clear hn1 hn2
  obtain ⟨p0, p1, p2, p3, p4, p5, p6, p7, p8, p9, p10, p11, p12, p13⟩ := frIn14 hP
  obtain ⟨q0, q1, q2, q3, q4, q5, q6, q7, q8, q9, q10, q11, q12, q13⟩ := frIn14 hQ
  go_wp2_with fail
  have a1 := HA.out
  go_ret
  exact ⟨false, rfl, ⟨fun h => (by cases h), fun h => absurd (by rw [h]) a1⟩, hB⟩
set_option maxRecDepth 100000 in
set_option maxHeartbeats 2000000 in
theorem same15_n6 (y z : Fw) (w : World) (e0 : (y.x.a == z.x.a) = true) (e1 : (y.x.b == z.x.b) = true) (e2 : (y.x.boot == z.x.boot) = true) (e3 : (y.x.first == z.x.first) = true) (e4 : (y.x.pos == z.x.pos) = true) (e5 : (y.x.start == z.x.start) = true) (e6 : (y.x.ack == z.x.ack) = false) (a1 : ¬ y.x.ack = z.x.ack) : Calls Tryd.prog 20 #[.agg #[.int .i64 y.x.a, .int .i64 y.x.b, .int .i64 y.x.boot, .int .i64 y.x.first, .slice y.oA y.x.os.length y.oc, .int .i64 y.x.pos, .slice y.rA y.x.rs.length y.rc, .int .i64 y.x.start, .slice y.eA y.x.es.length y.ec, .int .i64 y.x.ack, .int .i64 y.x.grant, .int .i64 y.x.s, .int .i64 y.x.t, .slice y.gA y.x.gs.length y.gc], .agg #[.int .i64 z.x.a, .int .i64 z.x.b, .int .i64 z.x.boot, .int .i64 z.x.first, .slice z.oA z.x.os.length z.oc, .int .i64 z.x.pos, .slice z.rA z.x.rs.length z.rc, .int .i64 z.x.start, .slice z.eA z.x.es.length z.ec, .int .i64 z.x.ack, .int .i64 z.x.grant, .int .i64 z.x.s, .int .i64 z.x.t, .slice z.gA z.x.gs.length z.gc]] w fun e w' => ∃ b, e = .returned (.bool b) ∧ (b = true ↔ y.x = z.x) ∧ Below w.heap.size w w' := by
  have HA := Lib.hid a1
  clear a1
  have hP : frE.In ((w.alloc (.cells #[.int .i64 y.x.a, .int .i64 y.x.b, .int .i64 y.x.boot, .int .i64 y.x.first, .slice y.oA y.x.os.length y.oc, .int .i64 y.x.pos, .slice y.rA y.x.rs.length y.rc, .int .i64 y.x.start, .slice y.eA y.x.es.length y.ec, .int .i64 y.x.ack, .int .i64 y.x.grant, .int .i64 y.x.s, .int .i64 y.x.t, .slice y.gA y.x.gs.length y.gc] 27)).alloc (.cells #[.int .i64 z.x.a, .int .i64 z.x.b, .int .i64 z.x.boot, .int .i64 z.x.first, .slice z.oA z.x.os.length z.oc, .int .i64 z.x.pos, .slice z.rA z.x.rs.length z.rc, .int .i64 z.x.start, .slice z.eA z.x.es.length z.ec, .int .i64 z.x.ack, .int .i64 z.x.grant, .int .i64 z.x.s, .int .i64 z.x.t, .slice z.gA z.x.gs.length z.gc] 27)) w.heap.size y := (El.In.new (E := frE) w y _ rfl).alloc _
  have hQ : frE.In ((w.alloc (.cells #[.int .i64 y.x.a, .int .i64 y.x.b, .int .i64 y.x.boot, .int .i64 y.x.first, .slice y.oA y.x.os.length y.oc, .int .i64 y.x.pos, .slice y.rA y.x.rs.length y.rc, .int .i64 y.x.start, .slice y.eA y.x.es.length y.ec, .int .i64 y.x.ack, .int .i64 y.x.grant, .int .i64 y.x.s, .int .i64 y.x.t, .slice y.gA y.x.gs.length y.gc] 27)).alloc (.cells #[.int .i64 z.x.a, .int .i64 z.x.b, .int .i64 z.x.boot, .int .i64 z.x.first, .slice z.oA z.x.os.length z.oc, .int .i64 z.x.pos, .slice z.rA z.x.rs.length z.rc, .int .i64 z.x.start, .slice z.eA z.x.es.length z.ec, .int .i64 z.x.ack, .int .i64 z.x.grant, .int .i64 z.x.s, .int .i64 z.x.t, .slice z.gA z.x.gs.length z.gc] 27)) (w.alloc (.cells #[.int .i64 y.x.a, .int .i64 y.x.b, .int .i64 y.x.boot, .int .i64 y.x.first, .slice y.oA y.x.os.length y.oc, .int .i64 y.x.pos, .slice y.rA y.x.rs.length y.rc, .int .i64 y.x.start, .slice y.eA y.x.es.length y.ec, .int .i64 y.x.ack, .int .i64 y.x.grant, .int .i64 y.x.s, .int .i64 y.x.t, .slice y.gA y.x.gs.length y.gc] 27)).heap.size z := El.In.new (E := frE) (w.alloc (.cells #[.int .i64 y.x.a, .int .i64 y.x.b, .int .i64 y.x.boot, .int .i64 y.x.first, .slice y.oA y.x.os.length y.oc, .int .i64 y.x.pos, .slice y.rA y.x.rs.length y.rc, .int .i64 y.x.start, .slice y.eA y.x.es.length y.ec, .int .i64 y.x.ack, .int .i64 y.x.grant, .int .i64 y.x.s, .int .i64 y.x.t, .slice y.gA y.x.gs.length y.gc] 27)) z _ rfl
  rw [alloc_size] at hQ
  have hB := below_alloc (below_alloc (Below.refl w.heap.size w) (.cells #[.int .i64 y.x.a, .int .i64 y.x.b, .int .i64 y.x.boot, .int .i64 y.x.first, .slice y.oA y.x.os.length y.oc, .int .i64 y.x.pos, .slice y.rA y.x.rs.length y.rc, .int .i64 y.x.start, .slice y.eA y.x.es.length y.ec, .int .i64 y.x.ack, .int .i64 y.x.grant, .int .i64 y.x.s, .int .i64 y.x.t, .slice y.gA y.x.gs.length y.gc] 27)) (.cells #[.int .i64 z.x.a, .int .i64 z.x.b, .int .i64 z.x.boot, .int .i64 z.x.first, .slice z.oA z.x.os.length z.oc, .int .i64 z.x.pos, .slice z.rA z.x.rs.length z.rc, .int .i64 z.x.start, .slice z.eA z.x.es.length z.ec, .int .i64 z.x.ack, .int .i64 z.x.grant, .int .i64 z.x.s, .int .i64 z.x.t, .slice z.gA z.x.gs.length z.gc] 27)
  go_enter Tryd.func20, Tryd.ntmps20
  go_upto_region 1 with fail
  generalize (w.alloc (.cells #[.int .i64 y.x.a, .int .i64 y.x.b, .int .i64 y.x.boot, .int .i64 y.x.first, .slice y.oA y.x.os.length y.oc, .int .i64 y.x.pos, .slice y.rA y.x.rs.length y.rc, .int .i64 y.x.start, .slice y.eA y.x.es.length y.ec, .int .i64 y.x.ack, .int .i64 y.x.grant, .int .i64 y.x.s, .int .i64 y.x.t, .slice y.gA y.x.gs.length y.gc] 27)).alloc (.cells #[.int .i64 z.x.a, .int .i64 z.x.b, .int .i64 z.x.boot, .int .i64 z.x.first, .slice z.oA z.x.os.length z.oc, .int .i64 z.x.pos, .slice z.rA z.x.rs.length z.rc, .int .i64 z.x.start, .slice z.eA z.x.es.length z.ec, .int .i64 z.x.ack, .int .i64 z.x.grant, .int .i64 z.x.s, .int .i64 z.x.t, .slice z.gA z.x.gs.length z.gc] 27) = W at *
  obtain ⟨n2, hn2⟩ : ∃ n, w.heap.size + 1 = n := ⟨_, rfl⟩
  obtain ⟨n1, hn1⟩ : ∃ n, w.heap.size = n := ⟨_, rfl⟩
  rw [hn2] at hQ ⊢
  rw [hn1] at hP ⊢
  clear hn1 hn2
  obtain ⟨p0, p1, p2, p3, p4, p5, p6, p7, p8, p9, p10, p11, p12, p13⟩ := frIn14 hP
  obtain ⟨q0, q1, q2, q3, q4, q5, q6, q7, q8, q9, q10, q11, q12, q13⟩ := frIn14 hQ
  go_wp2_with fail
  have a1 := HA.out
  go_ret
  exact ⟨false, rfl, ⟨fun h => (by cases h), fun h => absurd (by rw [h]) a1⟩, hB⟩
set_option maxRecDepth 100000 in
set_option maxHeartbeats 2000000 in
theorem same15_n7 (y z : Fw) (w : World) (e0 : (y.x.a == z.x.a) = true) (e1 : (y.x.b == z.x.b) = true) (e2 : (y.x.boot == z.x.boot) = true) (e3 : (y.x.first == z.x.first) = true) (e4 : (y.x.pos == z.x.pos) = true) (e5 : (y.x.start == z.x.start) = true) (e6 : (y.x.ack == z.x.ack) = true) (e7 : (y.x.grant == z.x.grant) = false) (a1 : ¬ y.x.grant = z.x.grant) : Calls Tryd.prog 20 #[.agg #[.int .i64 y.x.a, .int .i64 y.x.b, .int .i64 y.x.boot, .int .i64 y.x.first, .slice y.oA y.x.os.length y.oc, .int .i64 y.x.pos, .slice y.rA y.x.rs.length y.rc, .int .i64 y.x.start, .slice y.eA y.x.es.length y.ec, .int .i64 y.x.ack, .int .i64 y.x.grant, .int .i64 y.x.s, .int .i64 y.x.t, .slice y.gA y.x.gs.length y.gc], .agg #[.int .i64 z.x.a, .int .i64 z.x.b, .int .i64 z.x.boot, .int .i64 z.x.first, .slice z.oA z.x.os.length z.oc, .int .i64 z.x.pos, .slice z.rA z.x.rs.length z.rc, .int .i64 z.x.start, .slice z.eA z.x.es.length z.ec, .int .i64 z.x.ack, .int .i64 z.x.grant, .int .i64 z.x.s, .int .i64 z.x.t, .slice z.gA z.x.gs.length z.gc]] w fun e w' => ∃ b, e = .returned (.bool b) ∧ (b = true ↔ y.x = z.x) ∧ Below w.heap.size w w' := by
  have HA := Lib.hid a1
  clear a1
  have hP : frE.In ((w.alloc (.cells #[.int .i64 y.x.a, .int .i64 y.x.b, .int .i64 y.x.boot, .int .i64 y.x.first, .slice y.oA y.x.os.length y.oc, .int .i64 y.x.pos, .slice y.rA y.x.rs.length y.rc, .int .i64 y.x.start, .slice y.eA y.x.es.length y.ec, .int .i64 y.x.ack, .int .i64 y.x.grant, .int .i64 y.x.s, .int .i64 y.x.t, .slice y.gA y.x.gs.length y.gc] 27)).alloc (.cells #[.int .i64 z.x.a, .int .i64 z.x.b, .int .i64 z.x.boot, .int .i64 z.x.first, .slice z.oA z.x.os.length z.oc, .int .i64 z.x.pos, .slice z.rA z.x.rs.length z.rc, .int .i64 z.x.start, .slice z.eA z.x.es.length z.ec, .int .i64 z.x.ack, .int .i64 z.x.grant, .int .i64 z.x.s, .int .i64 z.x.t, .slice z.gA z.x.gs.length z.gc] 27)) w.heap.size y := (El.In.new (E := frE) w y _ rfl).alloc _
  have hQ : frE.In ((w.alloc (.cells #[.int .i64 y.x.a, .int .i64 y.x.b, .int .i64 y.x.boot, .int .i64 y.x.first, .slice y.oA y.x.os.length y.oc, .int .i64 y.x.pos, .slice y.rA y.x.rs.length y.rc, .int .i64 y.x.start, .slice y.eA y.x.es.length y.ec, .int .i64 y.x.ack, .int .i64 y.x.grant, .int .i64 y.x.s, .int .i64 y.x.t, .slice y.gA y.x.gs.length y.gc] 27)).alloc (.cells #[.int .i64 z.x.a, .int .i64 z.x.b, .int .i64 z.x.boot, .int .i64 z.x.first, .slice z.oA z.x.os.length z.oc, .int .i64 z.x.pos, .slice z.rA z.x.rs.length z.rc, .int .i64 z.x.start, .slice z.eA z.x.es.length z.ec, .int .i64 z.x.ack, .int .i64 z.x.grant, .int .i64 z.x.s, .int .i64 z.x.t, .slice z.gA z.x.gs.length z.gc] 27)) (w.alloc (.cells #[.int .i64 y.x.a, .int .i64 y.x.b, .int .i64 y.x.boot, .int .i64 y.x.first, .slice y.oA y.x.os.length y.oc, .int .i64 y.x.pos, .slice y.rA y.x.rs.length y.rc, .int .i64 y.x.start, .slice y.eA y.x.es.length y.ec, .int .i64 y.x.ack, .int .i64 y.x.grant, .int .i64 y.x.s, .int .i64 y.x.t, .slice y.gA y.x.gs.length y.gc] 27)).heap.size z := El.In.new (E := frE) (w.alloc (.cells #[.int .i64 y.x.a, .int .i64 y.x.b, .int .i64 y.x.boot, .int .i64 y.x.first, .slice y.oA y.x.os.length y.oc, .int .i64 y.x.pos, .slice y.rA y.x.rs.length y.rc, .int .i64 y.x.start, .slice y.eA y.x.es.length y.ec, .int .i64 y.x.ack, .int .i64 y.x.grant, .int .i64 y.x.s, .int .i64 y.x.t, .slice y.gA y.x.gs.length y.gc] 27)) z _ rfl
  rw [alloc_size] at hQ
  have hB := below_alloc (below_alloc (Below.refl w.heap.size w) (.cells #[.int .i64 y.x.a, .int .i64 y.x.b, .int .i64 y.x.boot, .int .i64 y.x.first, .slice y.oA y.x.os.length y.oc, .int .i64 y.x.pos, .slice y.rA y.x.rs.length y.rc, .int .i64 y.x.start, .slice y.eA y.x.es.length y.ec, .int .i64 y.x.ack, .int .i64 y.x.grant, .int .i64 y.x.s, .int .i64 y.x.t, .slice y.gA y.x.gs.length y.gc] 27)) (.cells #[.int .i64 z.x.a, .int .i64 z.x.b, .int .i64 z.x.boot, .int .i64 z.x.first, .slice z.oA z.x.os.length z.oc, .int .i64 z.x.pos, .slice z.rA z.x.rs.length z.rc, .int .i64 z.x.start, .slice z.eA z.x.es.length z.ec, .int .i64 z.x.ack, .int .i64 z.x.grant, .int .i64 z.x.s, .int .i64 z.x.t, .slice z.gA z.x.gs.length z.gc] 27)
  go_enter Tryd.func20, Tryd.ntmps20
  go_upto_region 1 with fail
  generalize (w.alloc (.cells #[.int .i64 y.x.a, .int .i64 y.x.b, .int .i64 y.x.boot, .int .i64 y.x.first, .slice y.oA y.x.os.length y.oc, .int .i64 y.x.pos, .slice y.rA y.x.rs.length y.rc, .int .i64 y.x.start, .slice y.eA y.x.es.length y.ec, .int .i64 y.x.ack, .int .i64 y.x.grant, .int .i64 y.x.s, .int .i64 y.x.t, .slice y.gA y.x.gs.length y.gc] 27)).alloc (.cells #[.int .i64 z.x.a, .int .i64 z.x.b, .int .i64 z.x.boot, .int .i64 z.x.first, .slice z.oA z.x.os.length z.oc, .int .i64 z.x.pos, .slice z.rA z.x.rs.length z.rc, .int .i64 z.x.start, .slice z.eA z.x.es.length z.ec, .int .i64 z.x.ack, .int .i64 z.x.grant, .int .i64 z.x.s, .int .i64 z.x.t, .slice z.gA z.x.gs.length z.gc] 27) = W at *
  obtain ⟨n2, hn2⟩ : ∃ n, w.heap.size + 1 = n := ⟨_, rfl⟩
  obtain ⟨n1, hn1⟩ : ∃ n, w.heap.size = n := ⟨_, rfl⟩
  rw [hn2] at hQ ⊢
  rw [hn1] at hP ⊢
  clear hn1 hn2
  obtain ⟨p0, p1, p2, p3, p4, p5, p6, p7, p8, p9, p10, p11, p12, p13⟩ := frIn14 hP
  obtain ⟨q0, q1, q2, q3, q4, q5, q6, q7, q8, q9, q10, q11, q12, q13⟩ := frIn14 hQ
  go_wp2_with fail
  have a1 := HA.out
  go_ret
  exact ⟨false, rfl, ⟨fun h => (by cases h), fun h => absurd (by rw [h]) a1⟩, hB⟩
set_option maxRecDepth 100000 in
set_option maxHeartbeats 2000000 in
theorem same15_n8 (y z : Fw) (w : World) (e0 : (y.x.a == z.x.a) = true) (e1 : (y.x.b == z.x.b) = true) (e2 : (y.x.boot == z.x.boot) = true) (e3 : (y.x.first == z.x.first) = true) (e4 : (y.x.pos == z.x.pos) = true) (e5 : (y.x.start == z.x.start) = true) (e6 : (y.x.ack == z.x.ack) = true) (e7 : (y.x.grant == z.x.grant) = true) (e8 : (y.x.s == z.x.s) = false) (a1 : ¬ y.x.s = z.x.s) : Calls Tryd.prog 20 #[.agg #[.int .i64 y.x.a, .int .i64 y.x.b, .int .i64 y.x.boot, .int .i64 y.x.first, .slice y.oA y.x.os.length y.oc, .int .i64 y.x.pos, .slice y.rA y.x.rs.length y.rc, .int .i64 y.x.start, .slice y.eA y.x.es.length y.ec, .int .i64 y.x.ack, .int .i64 y.x.grant, .int .i64 y.x.s, .int .i64 y.x.t, .slice y.gA y.x.gs.length y.gc], .agg #[.int .i64 z.x.a, .int .i64 z.x.b, .int .i64 z.x.boot, .int .i64 z.x.first, .slice z.oA z.x.os.length z.oc, .int .i64 z.x.pos, .slice z.rA z.x.rs.length z.rc, .int .i64 z.x.start, .slice z.eA z.x.es.length z.ec, .int .i64 z.x.ack, .int .i64 z.x.grant, .int .i64 z.x.s, .int .i64 z.x.t, .slice z.gA z.x.gs.length z.gc]] w fun e w' => ∃ b, e = .returned (.bool b) ∧ (b = true ↔ y.x = z.x) ∧ Below w.heap.size w w' := by
  have HA := Lib.hid a1
  clear a1
  have hP : frE.In ((w.alloc (.cells #[.int .i64 y.x.a, .int .i64 y.x.b, .int .i64 y.x.boot, .int .i64 y.x.first, .slice y.oA y.x.os.length y.oc, .int .i64 y.x.pos, .slice y.rA y.x.rs.length y.rc, .int .i64 y.x.start, .slice y.eA y.x.es.length y.ec, .int .i64 y.x.ack, .int .i64 y.x.grant, .int .i64 y.x.s, .int .i64 y.x.t, .slice y.gA y.x.gs.length y.gc] 27)).alloc (.cells #[.int .i64 z.x.a, .int .i64 z.x.b, .int .i64 z.x.boot, .int .i64 z.x.first, .slice z.oA z.x.os.length z.oc, .int .i64 z.x.pos, .slice z.rA z.x.rs.length z.rc, .int .i64 z.x.start, .slice z.eA z.x.es.length z.ec, .int .i64 z.x.ack, .int .i64 z.x.grant, .int .i64 z.x.s, .int .i64 z.x.t, .slice z.gA z.x.gs.length z.gc] 27)) w.heap.size y := (El.In.new (E := frE) w y _ rfl).alloc _
  have hQ : frE.In ((w.alloc (.cells #[.int .i64 y.x.a, .int .i64 y.x.b, .int .i64 y.x.boot, .int .i64 y.x.first, .slice y.oA y.x.os.length y.oc, .int .i64 y.x.pos, .slice y.rA y.x.rs.length y.rc, .int .i64 y.x.start, .slice y.eA y.x.es.length y.ec, .int .i64 y.x.ack, .int .i64 y.x.grant, .int .i64 y.x.s, .int .i64 y.x.t, .slice y.gA y.x.gs.length y.gc] 27)).alloc (.cells #[.int .i64 z.x.a, .int .i64 z.x.b, .int .i64 z.x.boot, .int .i64 z.x.first, .slice z.oA z.x.os.length z.oc, .int .i64 z.x.pos, .slice z.rA z.x.rs.length z.rc, .int .i64 z.x.start, .slice z.eA z.x.es.length z.ec, .int .i64 z.x.ack, .int .i64 z.x.grant, .int .i64 z.x.s, .int .i64 z.x.t, .slice z.gA z.x.gs.length z.gc] 27)) (w.alloc (.cells #[.int .i64 y.x.a, .int .i64 y.x.b, .int .i64 y.x.boot, .int .i64 y.x.first, .slice y.oA y.x.os.length y.oc, .int .i64 y.x.pos, .slice y.rA y.x.rs.length y.rc, .int .i64 y.x.start, .slice y.eA y.x.es.length y.ec, .int .i64 y.x.ack, .int .i64 y.x.grant, .int .i64 y.x.s, .int .i64 y.x.t, .slice y.gA y.x.gs.length y.gc] 27)).heap.size z := El.In.new (E := frE) (w.alloc (.cells #[.int .i64 y.x.a, .int .i64 y.x.b, .int .i64 y.x.boot, .int .i64 y.x.first, .slice y.oA y.x.os.length y.oc, .int .i64 y.x.pos, .slice y.rA y.x.rs.length y.rc, .int .i64 y.x.start, .slice y.eA y.x.es.length y.ec, .int .i64 y.x.ack, .int .i64 y.x.grant, .int .i64 y.x.s, .int .i64 y.x.t, .slice y.gA y.x.gs.length y.gc] 27)) z _ rfl
  rw [alloc_size] at hQ
  have hB := below_alloc (below_alloc (Below.refl w.heap.size w) (.cells #[.int .i64 y.x.a, .int .i64 y.x.b, .int .i64 y.x.boot, .int .i64 y.x.first, .slice y.oA y.x.os.length y.oc, .int .i64 y.x.pos, .slice y.rA y.x.rs.length y.rc, .int .i64 y.x.start, .slice y.eA y.x.es.length y.ec, .int .i64 y.x.ack, .int .i64 y.x.grant, .int .i64 y.x.s, .int .i64 y.x.t, .slice y.gA y.x.gs.length y.gc] 27)) (.cells #[.int .i64 z.x.a, .int .i64 z.x.b, .int .i64 z.x.boot, .int .i64 z.x.first, .slice z.oA z.x.os.length z.oc, .int .i64 z.x.pos, .slice z.rA z.x.rs.length z.rc, .int .i64 z.x.start, .slice z.eA z.x.es.length z.ec, .int .i64 z.x.ack, .int .i64 z.x.grant, .int .i64 z.x.s, .int .i64 z.x.t, .slice z.gA z.x.gs.length z.gc] 27)
  go_enter Tryd.func20, Tryd.ntmps20
  go_upto_region 1 with fail
  generalize (w.alloc (.cells #[.int .i64 y.x.a, .int .i64 y.x.b, .int .i64 y.x.boot, .int .i64 y.x.first, .slice y.oA y.x.os.length y.oc, .int .i64 y.x.pos, .slice y.rA y.x.rs.length y.rc, .int .i64 y.x.start, .slice y.eA y.x.es.length y.ec, .int .i64 y.x.ack, .int .i64 y.x.grant, .int .i64 y.x.s, .int .i64 y.x.t, .slice y.gA y.x.gs.length y.gc] 27)).alloc (.cells #[.int .i64 z.x.a, .int .i64 z.x.b, .int .i64 z.x.boot, .int .i64 z.x.first, .slice z.oA z.x.os.length z.oc, .int .i64 z.x.pos, .slice z.rA z.x.rs.length z.rc, .int .i64 z.x.start, .slice z.eA z.x.es.length z.ec, .int .i64 z.x.ack, .int .i64 z.x.grant, .int .i64 z.x.s, .int .i64 z.x.t, .slice z.gA z.x.gs.length z.gc] 27) = W at *
  obtain ⟨n2, hn2⟩ : ∃ n, w.heap.size + 1 = n := ⟨_, rfl⟩
  obtain ⟨n1, hn1⟩ : ∃ n, w.heap.size = n := ⟨_, rfl⟩
  rw [hn2] at hQ ⊢
  rw [hn1] at hP ⊢
  clear hn1 hn2
  obtain ⟨p0, p1, p2, p3, p4, p5, p6, p7, p8, p9, p10, p11, p12, p13⟩ := frIn14 hP
  obtain ⟨q0, q1, q2, q3, q4, q5, q6, q7, q8, q9, q10, q11, q12, q13⟩ := frIn14 hQ
  go_wp2_with fail
  have a1 := HA.out
  go_ret
  exact ⟨false, rfl, ⟨fun h => (by cases h), fun h => absurd (by rw [h]) a1⟩, hB⟩
set_option maxRecDepth 100000 in
set_option maxHeartbeats 2000000 in
theorem same15_n9 (y z : Fw) (w : World) (e0 : (y.x.a == z.x.a) = true) (e1 : (y.x.b == z.x.b) = true) (e2 : (y.x.boot == z.x.boot) = true) (e3 : (y.x.first == z.x.first) = true) (e4 : (y.x.pos == z.x.pos) = true) (e5 : (y.x.start == z.x.start) = true) (e6 : (y.x.ack == z.x.ack) = true) (e7 : (y.x.grant == z.x.grant) = true) (e8 : (y.x.s == z.x.s) = true) (e9 : (y.x.t == z.x.t) = false) (a1 : ¬ y.x.t = z.x.t) : Calls Tryd.prog 20 #[.agg #[.int .i64 y.x.a, .int .i64 y.x.b, .int .i64 y.x.boot, .int .i64 y.x.first, .slice y.oA y.x.os.length y.oc, .int .i64 y.x.pos, .slice y.rA y.x.rs.length y.rc, .int .i64 y.x.start, .slice y.eA y.x.es.length y.ec, .int .i64 y.x.ack, .int .i64 y.x.grant, .int .i64 y.x.s, .int .i64 y.x.t, .slice y.gA y.x.gs.length y.gc], .agg #[.int .i64 z.x.a, .int .i64 z.x.b, .int .i64 z.x.boot, .int .i64 z.x.first, .slice z.oA z.x.os.length z.oc, .int .i64 z.x.pos, .slice z.rA z.x.rs.length z.rc, .int .i64 z.x.start, .slice z.eA z.x.es.length z.ec, .int .i64 z.x.ack, .int .i64 z.x.grant, .int .i64 z.x.s, .int .i64 z.x.t, .slice z.gA z.x.gs.length z.gc]] w fun e w' => ∃ b, e = .returned (.bool b) ∧ (b = true ↔ y.x = z.x) ∧ Below w.heap.size w w' := by
  have HA := Lib.hid a1
  clear a1
  have hP : frE.In ((w.alloc (.cells #[.int .i64 y.x.a, .int .i64 y.x.b, .int .i64 y.x.boot, .int .i64 y.x.first, .slice y.oA y.x.os.length y.oc, .int .i64 y.x.pos, .slice y.rA y.x.rs.length y.rc, .int .i64 y.x.start, .slice y.eA y.x.es.length y.ec, .int .i64 y.x.ack, .int .i64 y.x.grant, .int .i64 y.x.s, .int .i64 y.x.t, .slice y.gA y.x.gs.length y.gc] 27)).alloc (.cells #[.int .i64 z.x.a, .int .i64 z.x.b, .int .i64 z.x.boot, .int .i64 z.x.first, .slice z.oA z.x.os.length z.oc, .int .i64 z.x.pos, .slice z.rA z.x.rs.length z.rc, .int .i64 z.x.start, .slice z.eA z.x.es.length z.ec, .int .i64 z.x.ack, .int .i64 z.x.grant, .int .i64 z.x.s, .int .i64 z.x.t, .slice z.gA z.x.gs.length z.gc] 27)) w.heap.size y := (El.In.new (E := frE) w y _ rfl).alloc _
  have hQ : frE.In ((w.alloc (.cells #[.int .i64 y.x.a, .int .i64 y.x.b, .int .i64 y.x.boot, .int .i64 y.x.first, .slice y.oA y.x.os.length y.oc, .int .i64 y.x.pos, .slice y.rA y.x.rs.length y.rc, .int .i64 y.x.start, .slice y.eA y.x.es.length y.ec, .int .i64 y.x.ack, .int .i64 y.x.grant, .int .i64 y.x.s, .int .i64 y.x.t, .slice y.gA y.x.gs.length y.gc] 27)).alloc (.cells #[.int .i64 z.x.a, .int .i64 z.x.b, .int .i64 z.x.boot, .int .i64 z.x.first, .slice z.oA z.x.os.length z.oc, .int .i64 z.x.pos, .slice z.rA z.x.rs.length z.rc, .int .i64 z.x.start, .slice z.eA z.x.es.length z.ec, .int .i64 z.x.ack, .int .i64 z.x.grant, .int .i64 z.x.s, .int .i64 z.x.t, .slice z.gA z.x.gs.length z.gc] 27)) (w.alloc (.cells #[.int .i64 y.x.a, .int .i64 y.x.b, .int .i64 y.x.boot, .int .i64 y.x.first, .slice y.oA y.x.os.length y.oc, .int .i64 y.x.pos, .slice y.rA y.x.rs.length y.rc, .int .i64 y.x.start, .slice y.eA y.x.es.length y.ec, .int .i64 y.x.ack, .int .i64 y.x.grant, .int .i64 y.x.s, .int .i64 y.x.t, .slice y.gA y.x.gs.length y.gc] 27)).heap.size z := El.In.new (E := frE) (w.alloc (.cells #[.int .i64 y.x.a, .int .i64 y.x.b, .int .i64 y.x.boot, .int .i64 y.x.first, .slice y.oA y.x.os.length y.oc, .int .i64 y.x.pos, .slice y.rA y.x.rs.length y.rc, .int .i64 y.x.start, .slice y.eA y.x.es.length y.ec, .int .i64 y.x.ack, .int .i64 y.x.grant, .int .i64 y.x.s, .int .i64 y.x.t, .slice y.gA y.x.gs.length y.gc] 27)) z _ rfl
  rw [alloc_size] at hQ
  have hB := below_alloc (below_alloc (Below.refl w.heap.size w) (.cells #[.int .i64 y.x.a, .int .i64 y.x.b, .int .i64 y.x.boot, .int .i64 y.x.first, .slice y.oA y.x.os.length y.oc, .int .i64 y.x.pos, .slice y.rA y.x.rs.length y.rc, .int .i64 y.x.start, .slice y.eA y.x.es.length y.ec, .int .i64 y.x.ack, .int .i64 y.x.grant, .int .i64 y.x.s, .int .i64 y.x.t, .slice y.gA y.x.gs.length y.gc] 27)) (.cells #[.int .i64 z.x.a, .int .i64 z.x.b, .int .i64 z.x.boot, .int .i64 z.x.first, .slice z.oA z.x.os.length z.oc, .int .i64 z.x.pos, .slice z.rA z.x.rs.length z.rc, .int .i64 z.x.start, .slice z.eA z.x.es.length z.ec, .int .i64 z.x.ack, .int .i64 z.x.grant, .int .i64 z.x.s, .int .i64 z.x.t, .slice z.gA z.x.gs.length z.gc] 27)
  go_enter Tryd.func20, Tryd.ntmps20
  go_upto_region 1 with fail
  generalize (w.alloc (.cells #[.int .i64 y.x.a, .int .i64 y.x.b, .int .i64 y.x.boot, .int .i64 y.x.first, .slice y.oA y.x.os.length y.oc, .int .i64 y.x.pos, .slice y.rA y.x.rs.length y.rc, .int .i64 y.x.start, .slice y.eA y.x.es.length y.ec, .int .i64 y.x.ack, .int .i64 y.x.grant, .int .i64 y.x.s, .int .i64 y.x.t, .slice y.gA y.x.gs.length y.gc] 27)).alloc (.cells #[.int .i64 z.x.a, .int .i64 z.x.b, .int .i64 z.x.boot, .int .i64 z.x.first, .slice z.oA z.x.os.length z.oc, .int .i64 z.x.pos, .slice z.rA z.x.rs.length z.rc, .int .i64 z.x.start, .slice z.eA z.x.es.length z.ec, .int .i64 z.x.ack, .int .i64 z.x.grant, .int .i64 z.x.s, .int .i64 z.x.t, .slice z.gA z.x.gs.length z.gc] 27) = W at *
  obtain ⟨n2, hn2⟩ : ∃ n, w.heap.size + 1 = n := ⟨_, rfl⟩
  obtain ⟨n1, hn1⟩ : ∃ n, w.heap.size = n := ⟨_, rfl⟩
  rw [hn2] at hQ ⊢
  rw [hn1] at hP ⊢
  clear hn1 hn2
  obtain ⟨p0, p1, p2, p3, p4, p5, p6, p7, p8, p9, p10, p11, p12, p13⟩ := frIn14 hP
  obtain ⟨q0, q1, q2, q3, q4, q5, q6, q7, q8, q9, q10, q11, q12, q13⟩ := frIn14 hQ
  go_wp2_with fail
  have a1 := HA.out
  go_ret
  exact ⟨false, rfl, ⟨fun h => (by cases h), fun h => absurd (by rw [h]) a1⟩, hB⟩
set_option maxRecDepth 100000 in
set_option maxHeartbeats 4000000 in
theorem same15_lists (y z : Fw) (w : World) (e0 : (y.x.a == z.x.a) = true) (e1 : (y.x.b == z.x.b) = true) (e2 : (y.x.boot == z.x.boot) = true) (e3 : (y.x.first == z.x.first) = true) (e4 : (y.x.pos == z.x.pos) = true) (e5 : (y.x.start == z.x.start) = true) (e6 : (y.x.ack == z.x.ack) = true) (e7 : (y.x.grant == z.x.grant) = true) (e8 : (y.x.s == z.x.s) = true) (e9 : (y.x.t == z.x.t) = true) (HEQ : Hid (y.x.a = z.x.a ∧ y.x.b = z.x.b ∧ y.x.boot = z.x.boot ∧ y.x.first = z.x.first ∧ y.x.pos = z.x.pos ∧ y.x.start = z.x.start ∧ y.x.ack = z.x.ack ∧ y.x.grant = z.x.grant ∧ y.x.s = z.x.s ∧ y.x.t = z.x.t)) (hy : y.ok w) (hz : z.ok w) (ly : y.x.os.length ≤ 50000 ∧ y.x.rs.length ≤ 50000 ∧ y.x.es.length ≤ 50000 ∧ y.x.gs.length ≤ 50000) (lz : z.x.os.length ≤ 50000 ∧ z.x.rs.length ≤ 50000 ∧ z.x.es.length ≤ 50000 ∧ z.x.gs.length ≤ 50000) : Calls Tryd.prog 20 #[.agg #[.int .i64 y.x.a, .int .i64 y.x.b, .int .i64 y.x.boot, .int .i64 y.x.first, .slice y.oA y.x.os.length y.oc, .int .i64 y.x.pos, .slice y.rA y.x.rs.length y.rc, .int .i64 y.x.start, .slice y.eA y.x.es.length y.ec, .int .i64 y.x.ack, .int .i64 y.x.grant, .int .i64 y.x.s, .int .i64 y.x.t, .slice y.gA y.x.gs.length y.gc], .agg #[.int .i64 z.x.a, .int .i64 z.x.b, .int .i64 z.x.boot, .int .i64 z.x.first, .slice z.oA z.x.os.length z.oc, .int .i64 z.x.pos, .slice z.rA z.x.rs.length z.rc, .int .i64 z.x.start, .slice z.eA z.x.es.length z.ec, .int .i64 z.x.ack, .int .i64 z.x.grant, .int .i64 z.x.s, .int .i64 z.x.t, .slice z.gA z.x.gs.length z.gc]] w fun e w' => ∃ b, e = .returned (.bool b) ∧ (b = true ↔ y.x = z.x) ∧ Below w.heap.size w w' := by
  obtain ⟨bo, ho⟩ : ∃ b : Bool, (b = true ↔ y.x.os = z.x.os) := by
    by_cases c : y.x.os = z.x.os
    · exact ⟨true, by simp [c]⟩
    · exact ⟨false, by simp [c]⟩
  have CO := Lib.hid (fun (wx : World) (hb : Below w.heap.size w wx) => (sameOp_any y.oA z.oA y.oc z.oc y.x.os z.x.os wx ly.1 lz.1 (hy.o.1.below hb) (hz.o.1.below hb)).mono (by
    rintro e w' ⟨bv, rfl, hbv, hb2⟩
    have e : bv = bo := by rw [Bool.eq_iff_iff, hbv, ho]
    rw [e]
    exact ⟨rfl, hb2⟩ : ∀ (e : Ending) (w' : World), _ → (e = .returned (.bool bo) ∧ Below wx.heap.size wx w')))
  have HO := Lib.hid ho
  clear ho
  obtain ⟨br, hr⟩ : ∃ b : Bool, (b = true ↔ y.x.rs = z.x.rs) := by
    by_cases c : y.x.rs = z.x.rs
    · exact ⟨true, by simp [c]⟩
    · exact ⟨false, by simp [c]⟩
  have CR := Lib.hid (fun (wx : World) (hb : Below w.heap.size w wx) => (sameRp_iff y.rA z.rA y.rc z.rc y.x.rs z.x.rs wx ly.2.1 lz.2.1 (hy.r.1.below hb) (hz.r.1.below hb)).mono (by
    rintro e w' ⟨bv, rfl, hbv, hb2⟩
    have e : bv = br := by rw [Bool.eq_iff_iff, hbv, hr]
    rw [e]
    exact ⟨rfl, hb2⟩ : ∀ (e : Ending) (w' : World), _ → (e = .returned (.bool br) ∧ Below wx.heap.size wx w')))
  have HR := Lib.hid hr
  clear hr
  obtain ⟨be, he⟩ : ∃ b : Bool, (b = true ↔ y.x.es = z.x.es) := by
    by_cases c : y.x.es = z.x.es
    · exact ⟨true, by simp [c]⟩
    · exact ⟨false, by simp [c]⟩
  have CE := Lib.hid (fun (wx : World) (hb : Below w.heap.size w wx) => (sameEn_iff y.eA z.eA y.ec z.ec y.x.es z.x.es wx ly.2.2.1 lz.2.2.1 (hy.e.1.below hb) (hz.e.1.below hb)).mono (by
    rintro e w' ⟨bv, rfl, hbv, hb2⟩
    have e : bv = be := by rw [Bool.eq_iff_iff, hbv, he]
    rw [e]
    exact ⟨rfl, hb2⟩ : ∀ (e : Ending) (w' : World), _ → (e = .returned (.bool be) ∧ Below wx.heap.size wx w')))
  have HE := Lib.hid he
  clear he
  obtain ⟨bg, hg⟩ : ∃ b : Bool, (b = true ↔ y.x.gs = z.x.gs) := by
    by_cases c : y.x.gs = z.x.gs
    · exact ⟨true, by simp [c]⟩
    · exact ⟨false, by simp [c]⟩
  have CG := Lib.hid (fun (wx : World) (hb : Below w.heap.size w wx) => (sameGf_iff y.gA z.gA y.gc z.gc y.x.gs z.x.gs wx ly.2.2.2 lz.2.2.2 (hy.g.1.below hb) (hz.g.1.below hb)).mono (by
    rintro e w' ⟨bv, rfl, hbv, hb2⟩
    have e : bv = bg := by rw [Bool.eq_iff_iff, hbv, hg]
    rw [e]
    exact ⟨rfl, hb2⟩ : ∀ (e : Ending) (w' : World), _ → (e = .returned (.bool bg) ∧ Below wx.heap.size wx w')))
  have HG := Lib.hid hg
  clear hg
  clear hy hz ly lz
  cases bo with
  | false =>
    have hP : frE.In ((w.alloc (.cells #[.int .i64 y.x.a, .int .i64 y.x.b, .int .i64 y.x.boot, .int .i64 y.x.first, .slice y.oA y.x.os.length y.oc, .int .i64 y.x.pos, .slice y.rA y.x.rs.length y.rc, .int .i64 y.x.start, .slice y.eA y.x.es.length y.ec, .int .i64 y.x.ack, .int .i64 y.x.grant, .int .i64 y.x.s, .int .i64 y.x.t, .slice y.gA y.x.gs.length y.gc] 27)).alloc (.cells #[.int .i64 z.x.a, .int .i64 z.x.b, .int .i64 z.x.boot, .int .i64 z.x.first, .slice z.oA z.x.os.length z.oc, .int .i64 z.x.pos, .slice z.rA z.x.rs.length z.rc, .int .i64 z.x.start, .slice z.eA z.x.es.length z.ec, .int .i64 z.x.ack, .int .i64 z.x.grant, .int .i64 z.x.s, .int .i64 z.x.t, .slice z.gA z.x.gs.length z.gc] 27)) w.heap.size y := (El.In.new (E := frE) w y _ rfl).alloc _
    have hQ : frE.In ((w.alloc (.cells #[.int .i64 y.x.a, .int .i64 y.x.b, .int .i64 y.x.boot, .int .i64 y.x.first, .slice y.oA y.x.os.length y.oc, .int .i64 y.x.pos, .slice y.rA y.x.rs.length y.rc, .int .i64 y.x.start, .slice y.eA y.x.es.length y.ec, .int .i64 y.x.ack, .int .i64 y.x.grant, .int .i64 y.x.s, .int .i64 y.x.t, .slice y.gA y.x.gs.length y.gc] 27)).alloc (.cells #[.int .i64 z.x.a, .int .i64 z.x.b, .int .i64 z.x.boot, .int .i64 z.x.first, .slice z.oA z.x.os.length z.oc, .int .i64 z.x.pos, .slice z.rA z.x.rs.length z.rc, .int .i64 z.x.start, .slice z.eA z.x.es.length z.ec, .int .i64 z.x.ack, .int .i64 z.x.grant, .int .i64 z.x.s, .int .i64 z.x.t, .slice z.gA z.x.gs.length z.gc] 27)) (w.alloc (.cells #[.int .i64 y.x.a, .int .i64 y.x.b, .int .i64 y.x.boot, .int .i64 y.x.first, .slice y.oA y.x.os.length y.oc, .int .i64 y.x.pos, .slice y.rA y.x.rs.length y.rc, .int .i64 y.x.start, .slice y.eA y.x.es.length y.ec, .int .i64 y.x.ack, .int .i64 y.x.grant, .int .i64 y.x.s, .int .i64 y.x.t, .slice y.gA y.x.gs.length y.gc] 27)).heap.size z := El.In.new (E := frE) (w.alloc (.cells #[.int .i64 y.x.a, .int .i64 y.x.b, .int .i64 y.x.boot, .int .i64 y.x.first, .slice y.oA y.x.os.length y.oc, .int .i64 y.x.pos, .slice y.rA y.x.rs.length y.rc, .int .i64 y.x.start, .slice y.eA y.x.es.length y.ec, .int .i64 y.x.ack, .int .i64 y.x.grant, .int .i64 y.x.s, .int .i64 y.x.t, .slice y.gA y.x.gs.length y.gc] 27)) z _ rfl
    rw [alloc_size] at hQ
    have hB := below_alloc (below_alloc (Below.refl w.heap.size w) (.cells #[.int .i64 y.x.a, .int .i64 y.x.b, .int .i64 y.x.boot, .int .i64 y.x.first, .slice y.oA y.x.os.length y.oc, .int .i64 y.x.pos, .slice y.rA y.x.rs.length y.rc, .int .i64 y.x.start, .slice y.eA y.x.es.length y.ec, .int .i64 y.x.ack, .int .i64 y.x.grant, .int .i64 y.x.s, .int .i64 y.x.t, .slice y.gA y.x.gs.length y.gc] 27)) (.cells #[.int .i64 z.x.a, .int .i64 z.x.b, .int .i64 z.x.boot, .int .i64 z.x.first, .slice z.oA z.x.os.length z.oc, .int .i64 z.x.pos, .slice z.rA z.x.rs.length z.rc, .int .i64 z.x.start, .slice z.eA z.x.es.length z.ec, .int .i64 z.x.ack, .int .i64 z.x.grant, .int .i64 z.x.s, .int .i64 z.x.t, .slice z.gA z.x.gs.length z.gc] 27)
    go_enter Tryd.func20, Tryd.ntmps20
    go_upto_region 1 with fail
    generalize (w.alloc (.cells #[.int .i64 y.x.a, .int .i64 y.x.b, .int .i64 y.x.boot, .int .i64 y.x.first, .slice y.oA y.x.os.length y.oc, .int .i64 y.x.pos, .slice y.rA y.x.rs.length y.rc, .int .i64 y.x.start, .slice y.eA y.x.es.length y.ec, .int .i64 y.x.ack, .int .i64 y.x.grant, .int .i64 y.x.s, .int .i64 y.x.t, .slice y.gA y.x.gs.length y.gc] 27)).alloc (.cells #[.int .i64 z.x.a, .int .i64 z.x.b, .int .i64 z.x.boot, .int .i64 z.x.first, .slice z.oA z.x.os.length z.oc, .int .i64 z.x.pos, .slice z.rA z.x.rs.length z.rc, .int .i64 z.x.start, .slice z.eA z.x.es.length z.ec, .int .i64 z.x.ack, .int .i64 z.x.grant, .int .i64 z.x.s, .int .i64 z.x.t, .slice z.gA z.x.gs.length z.gc] 27) = W at *
    obtain ⟨n2, hn2⟩ : ∃ n, w.heap.size + 1 = n := ⟨_, rfl⟩
    obtain ⟨n1, hn1⟩ : ∃ n, w.heap.size = n := ⟨_, rfl⟩
    rw [hn2] at hQ ⊢
    rw [hn1] at hP ⊢
    clear hn1 hn2
    obtain ⟨p0, p1, p2, p3, p4, p5, p6, p7, p8, p9, p10, p11, p12, p13⟩ := frIn14 hP
    obtain ⟨q0, q1, q2, q3, q4, q5, q6, q7, q8, q9, q10, q11, q12, q13⟩ := frIn14 hQ
    go_wp2_with fail
    refine (CO.out _ hB).mono ?_
    rintro e v ⟨rfl, hb⟩
    replace hP := hP.below hb
    replace hQ := hQ.below hb
    replace hB := hB.trans (hb.mono hB.size)
    clear hb
    clear p0 p1 p2 p3 p4 p5 p6 p7 p8 p9 p10 p11 p12 p13 q0 q1 q2 q3 q4 q5 q6 q7 q8 q9 q10 q11 q12 q13
    obtain ⟨p0, p1, p2, p3, p4, p5, p6, p7, p8, p9, p10, p11, p12, p13⟩ := frIn14 hP
    obtain ⟨q0, q1, q2, q3, q4, q5, q6, q7, q8, q9, q10, q11, q12, q13⟩ := frIn14 hQ
    go_wp2_with fail
    have a1 := mt HO.out.2 (by decide)
    go_ret
    exact ⟨false, rfl, ⟨fun h => (by cases h), fun h => absurd (by rw [h]) a1⟩, hB⟩
  | true =>
    cases br with
    | false =>
      have hP : frE.In ((w.alloc (.cells #[.int .i64 y.x.a, .int .i64 y.x.b, .int .i64 y.x.boot, .int .i64 y.x.first, .slice y.oA y.x.os.length y.oc, .int .i64 y.x.pos, .slice y.rA y.x.rs.length y.rc, .int .i64 y.x.start, .slice y.eA y.x.es.length y.ec, .int .i64 y.x.ack, .int .i64 y.x.grant, .int .i64 y.x.s, .int .i64 y.x.t, .slice y.gA y.x.gs.length y.gc] 27)).alloc (.cells #[.int .i64 z.x.a, .int .i64 z.x.b, .int .i64 z.x.boot, .int .i64 z.x.first, .slice z.oA z.x.os.length z.oc, .int .i64 z.x.pos, .slice z.rA z.x.rs.length z.rc, .int .i64 z.x.start, .slice z.eA z.x.es.length z.ec, .int .i64 z.x.ack, .int .i64 z.x.grant, .int .i64 z.x.s, .int .i64 z.x.t, .slice z.gA z.x.gs.length z.gc] 27)) w.heap.size y := (El.In.new (E := frE) w y _ rfl).alloc _
      have hQ : frE.In ((w.alloc (.cells #[.int .i64 y.x.a, .int .i64 y.x.b, .int .i64 y.x.boot, .int .i64 y.x.first, .slice y.oA y.x.os.length y.oc, .int .i64 y.x.pos, .slice y.rA y.x.rs.length y.rc, .int .i64 y.x.start, .slice y.eA y.x.es.length y.ec, .int .i64 y.x.ack, .int .i64 y.x.grant, .int .i64 y.x.s, .int .i64 y.x.t, .slice y.gA y.x.gs.length y.gc] 27)).alloc (.cells #[.int .i64 z.x.a, .int .i64 z.x.b, .int .i64 z.x.boot, .int .i64 z.x.first, .slice z.oA z.x.os.length z.oc, .int .i64 z.x.pos, .slice z.rA z.x.rs.length z.rc, .int .i64 z.x.start, .slice z.eA z.x.es.length z.ec, .int .i64 z.x.ack, .int .i64 z.x.grant, .int .i64 z.x.s, .int .i64 z.x.t, .slice z.gA z.x.gs.length z.gc] 27)) (w.alloc (.cells #[.int .i64 y.x.a, .int .i64 y.x.b, .int .i64 y.x.boot, .int .i64 y.x.first, .slice y.oA y.x.os.length y.oc, .int .i64 y.x.pos, .slice y.rA y.x.rs.length y.rc, .int .i64 y.x.start, .slice y.eA y.x.es.length y.ec, .int .i64 y.x.ack, .int .i64 y.x.grant, .int .i64 y.x.s, .int .i64 y.x.t, .slice y.gA y.x.gs.length y.gc] 27)).heap.size z := El.In.new (E := frE) (w.alloc (.cells #[.int .i64 y.x.a, .int .i64 y.x.b, .int .i64 y.x.boot, .int .i64 y.x.first, .slice y.oA y.x.os.length y.oc, .int .i64 y.x.pos, .slice y.rA y.x.rs.length y.rc, .int .i64 y.x.start, .slice y.eA y.x.es.length y.ec, .int .i64 y.x.ack, .int .i64 y.x.grant, .int .i64 y.x.s, .int .i64 y.x.t, .slice y.gA y.x.gs.length y.gc] 27)) z _ rfl
      rw [alloc_size] at hQ
      have hB := below_alloc (below_alloc (Below.refl w.heap.size w) (.cells #[.int .i64 y.x.a, .int .i64 y.x.b, .int .i64 y.x.boot, .int .i64 y.x.first, .slice y.oA y.x.os.length y.oc, .int .i64 y.x.pos, .slice y.rA y.x.rs.length y.rc, .int .i64 y.x.start, .slice y.eA y.x.es.length y.ec, .int .i64 y.x.ack, .int .i64 y.x.grant, .int .i64 y.x.s, .int .i64 y.x.t, .slice y.gA y.x.gs.length y.gc] 27)) (.cells #[.int .i64 z.x.a, .int .i64 z.x.b, .int .i64 z.x.boot, .int .i64 z.x.first, .slice z.oA z.x.os.length z.oc, .int .i64 z.x.pos, .slice z.rA z.x.rs.length z.rc, .int .i64 z.x.start, .slice z.eA z.x.es.length z.ec, .int .i64 z.x.ack, .int .i64 z.x.grant, .int .i64 z.x.s, .int .i64 z.x.t, .slice z.gA z.x.gs.length z.gc] 27)
      go_enter Tryd.func20, Tryd.ntmps20
      go_upto_region 1 with fail
      generalize (w.alloc (.cells #[.int .i64 y.x.a, .int .i64 y.x.b, .int .i64 y.x.boot, .int .i64 y.x.first, .slice y.oA y.x.os.length y.oc, .int .i64 y.x.pos, .slice y.rA y.x.rs.length y.rc, .int .i64 y.x.start, .slice y.eA y.x.es.length y.ec, .int .i64 y.x.ack, .int .i64 y.x.grant, .int .i64 y.x.s, .int .i64 y.x.t, .slice y.gA y.x.gs.length y.gc] 27)).alloc (.cells #[.int .i64 z.x.a, .int .i64 z.x.b, .int .i64 z.x.boot, .int .i64 z.x.first, .slice z.oA z.x.os.length z.oc, .int .i64 z.x.pos, .slice z.rA z.x.rs.length z.rc, .int .i64 z.x.start, .slice z.eA z.x.es.length z.ec, .int .i64 z.x.ack, .int .i64 z.x.grant, .int .i64 z.x.s, .int .i64 z.x.t, .slice z.gA z.x.gs.length z.gc] 27) = W at *
      obtain ⟨n2, hn2⟩ : ∃ n, w.heap.size + 1 = n := ⟨_, rfl⟩
      obtain ⟨n1, hn1⟩ : ∃ n, w.heap.size = n := ⟨_, rfl⟩
      rw [hn2] at hQ ⊢
      rw [hn1] at hP ⊢
      clear hn1 hn2
      obtain ⟨p0, p1, p2, p3, p4, p5, p6, p7, p8, p9, p10, p11, p12, p13⟩ := frIn14 hP
      obtain ⟨q0, q1, q2, q3, q4, q5, q6, q7, q8, q9, q10, q11, q12, q13⟩ := frIn14 hQ
      go_wp2_with fail
      refine (CO.out _ hB).mono ?_
      rintro e v ⟨rfl, hb⟩
      replace hP := hP.below hb
      replace hQ := hQ.below hb
      replace hB := hB.trans (hb.mono hB.size)
      clear hb
      clear p0 p1 p2 p3 p4 p5 p6 p7 p8 p9 p10 p11 p12 p13 q0 q1 q2 q3 q4 q5 q6 q7 q8 q9 q10 q11 q12 q13
      obtain ⟨p0, p1, p2, p3, p4, p5, p6, p7, p8, p9, p10, p11, p12, p13⟩ := frIn14 hP
      obtain ⟨q0, q1, q2, q3, q4, q5, q6, q7, q8, q9, q10, q11, q12, q13⟩ := frIn14 hQ
      go_wp2_with fail
      refine (CR.out _ hB).mono ?_
      rintro e v ⟨rfl, hb⟩
      replace hP := hP.below hb
      replace hQ := hQ.below hb
      replace hB := hB.trans (hb.mono hB.size)
      clear hb
      clear p0 p1 p2 p3 p4 p5 p6 p7 p8 p9 p10 p11 p12 p13 q0 q1 q2 q3 q4 q5 q6 q7 q8 q9 q10 q11 q12 q13
      obtain ⟨p0, p1, p2, p3, p4, p5, p6, p7, p8, p9, p10, p11, p12, p13⟩ := frIn14 hP
      obtain ⟨q0, q1, q2, q3, q4, q5, q6, q7, q8, q9, q10, q11, q12, q13⟩ := frIn14 hQ
      go_wp2_with fail
      have a1 := mt HR.out.2 (by decide)
      go_ret
      exact ⟨false, rfl, ⟨fun h => (by cases h), fun h => absurd (by rw [h]) a1⟩, hB⟩
    | true =>
      cases be with
      | false =>
        have hP : frE.In ((w.alloc (.cells #[.int .i64 y.x.a, .int .i64 y.x.b, .int .i64 y.x.boot, .int .i64 y.x.first, .slice y.oA y.x.os.length y.oc, .int .i64 y.x.pos, .slice y.rA y.x.rs.length y.rc, .int .i64 y.x.start, .slice y.eA y.x.es.length y.ec, .int .i64 y.x.ack, .int .i64 y.x.grant, .int .i64 y.x.s, .int .i64 y.x.t, .slice y.gA y.x.gs.length y.gc] 27)).alloc (.cells #[.int .i64 z.x.a, .int .i64 z.x.b, .int .i64 z.x.boot, .int .i64 z.x.first, .slice z.oA z.x.os.length z.oc, .int .i64 z.x.pos, .slice z.rA z.x.rs.length z.rc, .int .i64 z.x.start, .slice z.eA z.x.es.length z.ec, .int .i64 z.x.ack, .int .i64 z.x.grant, .int .i64 z.x.s, .int .i64 z.x.t, .slice z.gA z.x.gs.length z.gc] 27)) w.heap.size y := (El.In.new (E := frE) w y _ rfl).alloc _
        have hQ : frE.In ((w.alloc (.cells #[.int .i64 y.x.a, .int .i64 y.x.b, .int .i64 y.x.boot, .int .i64 y.x.first, .slice y.oA y.x.os.length y.oc, .int .i64 y.x.pos, .slice y.rA y.x.rs.length y.rc, .int .i64 y.x.start, .slice y.eA y.x.es.length y.ec, .int .i64 y.x.ack, .int .i64 y.x.grant, .int .i64 y.x.s, .int .i64 y.x.t, .slice y.gA y.x.gs.length y.gc] 27)).alloc (.cells #[.int .i64 z.x.a, .int .i64 z.x.b, .int .i64 z.x.boot, .int .i64 z.x.first, .slice z.oA z.x.os.length z.oc, .int .i64 z.x.pos, .slice z.rA z.x.rs.length z.rc, .int .i64 z.x.start, .slice z.eA z.x.es.length z.ec, .int .i64 z.x.ack, .int .i64 z.x.grant, .int .i64 z.x.s, .int .i64 z.x.t, .slice z.gA z.x.gs.length z.gc] 27)) (w.alloc (.cells #[.int .i64 y.x.a, .int .i64 y.x.b, .int .i64 y.x.boot, .int .i64 y.x.first, .slice y.oA y.x.os.length y.oc, .int .i64 y.x.pos, .slice y.rA y.x.rs.length y.rc, .int .i64 y.x.start, .slice y.eA y.x.es.length y.ec, .int .i64 y.x.ack, .int .i64 y.x.grant, .int .i64 y.x.s, .int .i64 y.x.t, .slice y.gA y.x.gs.length y.gc] 27)).heap.size z := El.In.new (E := frE) (w.alloc (.cells #[.int .i64 y.x.a, .int .i64 y.x.b, .int .i64 y.x.boot, .int .i64 y.x.first, .slice y.oA y.x.os.length y.oc, .int .i64 y.x.pos, .slice y.rA y.x.rs.length y.rc, .int .i64 y.x.start, .slice y.eA y.x.es.length y.ec, .int .i64 y.x.ack, .int .i64 y.x.grant, .int .i64 y.x.s, .int .i64 y.x.t, .slice y.gA y.x.gs.length y.gc] 27)) z _ rfl
        rw [alloc_size] at hQ
        have hB := below_alloc (below_alloc (Below.refl w.heap.size w) (.cells #[.int .i64 y.x.a, .int .i64 y.x.b, .int .i64 y.x.boot, .int .i64 y.x.first, .slice y.oA y.x.os.length y.oc, .int .i64 y.x.pos, .slice y.rA y.x.rs.length y.rc, .int .i64 y.x.start, .slice y.eA y.x.es.length y.ec, .int .i64 y.x.ack, .int .i64 y.x.grant, .int .i64 y.x.s, .int .i64 y.x.t, .slice y.gA y.x.gs.length y.gc] 27)) (.cells #[.int .i64 z.x.a, .int .i64 z.x.b, .int .i64 z.x.boot, .int .i64 z.x.first, .slice z.oA z.x.os.length z.oc, .int .i64 z.x.pos, .slice z.rA z.x.rs.length z.rc, .int .i64 z.x.start, .slice z.eA z.x.es.length z.ec, .int .i64 z.x.ack, .int .i64 z.x.grant, .int .i64 z.x.s, .int .i64 z.x.t, .slice z.gA z.x.gs.length z.gc] 27)
        go_enter Tryd.func20, Tryd.ntmps20
        go_upto_region 1 with fail
        generalize (w.alloc (.cells #[.int .i64 y.x.a, .int .i64 y.x.b, .int .i64 y.x.boot, .int .i64 y.x.first, .slice y.oA y.x.os.length y.oc, .int .i64 y.x.pos, .slice y.rA y.x.rs.length y.rc, .int .i64 y.x.start, .slice y.eA y.x.es.length y.ec, .int .i64 y.x.ack, .int .i64 y.x.grant, .int .i64 y.x.s, .int .i64 y.x.t, .slice y.gA y.x.gs.length y.gc] 27)).alloc (.cells #[.int .i64 z.x.a, .int .i64 z.x.b, .int .i64 z.x.boot, .int .i64 z.x.first, .slice z.oA z.x.os.length z.oc, .int .i64 z.x.pos, .slice z.rA z.x.rs.length z.rc, .int .i64 z.x.start, .slice z.eA z.x.es.length z.ec, .int .i64 z.x.ack, .int .i64 z.x.grant, .int .i64 z.x.s, .int .i64 z.x.t, .slice z.gA z.x.gs.length z.gc] 27) = W at *
        obtain ⟨n2, hn2⟩ : ∃ n, w.heap.size + 1 = n := ⟨_, rfl⟩
        obtain ⟨n1, hn1⟩ : ∃ n, w.heap.size = n := ⟨_, rfl⟩
        rw [hn2] at hQ ⊢
        rw [hn1] at hP ⊢
        clear hn1 hn2
        obtain ⟨p0, p1, p2, p3, p4, p5, p6, p7, p8, p9, p10, p11, p12, p13⟩ := frIn14 hP
        obtain ⟨q0, q1, q2, q3, q4, q5, q6, q7, q8, q9, q10, q11, q12, q13⟩ := frIn14 hQ
        go_wp2_with fail
        refine (CO.out _ hB).mono ?_
        rintro e v ⟨rfl, hb⟩
        replace hP := hP.below hb
        replace hQ := hQ.below hb
        replace hB := hB.trans (hb.mono hB.size)
        clear hb
        clear p0 p1 p2 p3 p4 p5 p6 p7 p8 p9 p10 p11 p12 p13 q0 q1 q2 q3 q4 q5 q6 q7 q8 q9 q10 q11 q12 q13
        obtain ⟨p0, p1, p2, p3, p4, p5, p6, p7, p8, p9, p10, p11, p12, p13⟩ := frIn14 hP
        obtain ⟨q0, q1, q2, q3, q4, q5, q6, q7, q8, q9, q10, q11, q12, q13⟩ := frIn14 hQ
        go_wp2_with fail
        refine (CR.out _ hB).mono ?_
        rintro e v ⟨rfl, hb⟩
        replace hP := hP.below hb
        replace hQ := hQ.below hb
        replace hB := hB.trans (hb.mono hB.size)
        clear hb
        clear p0 p1 p2 p3 p4 p5 p6 p7 p8 p9 p10 p11 p12 p13 q0 q1 q2 q3 q4 q5 q6 q7 q8 q9 q10 q11 q12 q13
        obtain ⟨p0, p1, p2, p3, p4, p5, p6, p7, p8, p9, p10, p11, p12, p13⟩ := frIn14 hP
        obtain ⟨q0, q1, q2, q3, q4, q5, q6, q7, q8, q9, q10, q11, q12, q13⟩ := frIn14 hQ
        go_wp2_with fail
        refine (CE.out _ hB).mono ?_
        rintro e v ⟨rfl, hb⟩
        replace hP := hP.below hb
        replace hQ := hQ.below hb
        replace hB := hB.trans (hb.mono hB.size)
        clear hb
        clear p0 p1 p2 p3 p4 p5 p6 p7 p8 p9 p10 p11 p12 p13 q0 q1 q2 q3 q4 q5 q6 q7 q8 q9 q10 q11 q12 q13
        obtain ⟨p0, p1, p2, p3, p4, p5, p6, p7, p8, p9, p10, p11, p12, p13⟩ := frIn14 hP
        obtain ⟨q0, q1, q2, q3, q4, q5, q6, q7, q8, q9, q10, q11, q12, q13⟩ := frIn14 hQ
        go_wp2_with fail
        have a1 := mt HE.out.2 (by decide)
        go_ret
        exact ⟨false, rfl, ⟨fun h => (by cases h), fun h => absurd (by rw [h]) a1⟩, hB⟩
      | true =>
        cases bg with
        | false =>
          have hP : frE.In ((w.alloc (.cells #[.int .i64 y.x.a, .int .i64 y.x.b, .int .i64 y.x.boot, .int .i64 y.x.first, .slice y.oA y.x.os.length y.oc, .int .i64 y.x.pos, .slice y.rA y.x.rs.length y.rc, .int .i64 y.x.start, .slice y.eA y.x.es.length y.ec, .int .i64 y.x.ack, .int .i64 y.x.grant, .int .i64 y.x.s, .int .i64 y.x.t, .slice y.gA y.x.gs.length y.gc] 27)).alloc (.cells #[.int .i64 z.x.a, .int .i64 z.x.b, .int .i64 z.x.boot, .int .i64 z.x.first, .slice z.oA z.x.os.length z.oc, .int .i64 z.x.pos, .slice z.rA z.x.rs.length z.rc, .int .i64 z.x.start, .slice z.eA z.x.es.length z.ec, .int .i64 z.x.ack, .int .i64 z.x.grant, .int .i64 z.x.s, .int .i64 z.x.t, .slice z.gA z.x.gs.length z.gc] 27)) w.heap.size y := (El.In.new (E := frE) w y _ rfl).alloc _
          have hQ : frE.In ((w.alloc (.cells #[.int .i64 y.x.a, .int .i64 y.x.b, .int .i64 y.x.boot, .int .i64 y.x.first, .slice y.oA y.x.os.length y.oc, .int .i64 y.x.pos, .slice y.rA y.x.rs.length y.rc, .int .i64 y.x.start, .slice y.eA y.x.es.length y.ec, .int .i64 y.x.ack, .int .i64 y.x.grant, .int .i64 y.x.s, .int .i64 y.x.t, .slice y.gA y.x.gs.length y.gc] 27)).alloc (.cells #[.int .i64 z.x.a, .int .i64 z.x.b, .int .i64 z.x.boot, .int .i64 z.x.first, .slice z.oA z.x.os.length z.oc, .int .i64 z.x.pos, .slice z.rA z.x.rs.length z.rc, .int .i64 z.x.start, .slice z.eA z.x.es.length z.ec, .int .i64 z.x.ack, .int .i64 z.x.grant, .int .i64 z.x.s, .int .i64 z.x.t, .slice z.gA z.x.gs.length z.gc] 27)) (w.alloc (.cells #[.int .i64 y.x.a, .int .i64 y.x.b, .int .i64 y.x.boot, .int .i64 y.x.first, .slice y.oA y.x.os.length y.oc, .int .i64 y.x.pos, .slice y.rA y.x.rs.length y.rc, .int .i64 y.x.start, .slice y.eA y.x.es.length y.ec, .int .i64 y.x.ack, .int .i64 y.x.grant, .int .i64 y.x.s, .int .i64 y.x.t, .slice y.gA y.x.gs.length y.gc] 27)).heap.size z := El.In.new (E := frE) (w.alloc (.cells #[.int .i64 y.x.a, .int .i64 y.x.b, .int .i64 y.x.boot, .int .i64 y.x.first, .slice y.oA y.x.os.length y.oc, .int .i64 y.x.pos, .slice y.rA y.x.rs.length y.rc, .int .i64 y.x.start, .slice y.eA y.x.es.length y.ec, .int .i64 y.x.ack, .int .i64 y.x.grant, .int .i64 y.x.s, .int .i64 y.x.t, .slice y.gA y.x.gs.length y.gc] 27)) z _ rfl
          rw [alloc_size] at hQ
          have hB := below_alloc (below_alloc (Below.refl w.heap.size w) (.cells #[.int .i64 y.x.a, .int .i64 y.x.b, .int .i64 y.x.boot, .int .i64 y.x.first, .slice y.oA y.x.os.length y.oc, .int .i64 y.x.pos, .slice y.rA y.x.rs.length y.rc, .int .i64 y.x.start, .slice y.eA y.x.es.length y.ec, .int .i64 y.x.ack, .int .i64 y.x.grant, .int .i64 y.x.s, .int .i64 y.x.t, .slice y.gA y.x.gs.length y.gc] 27)) (.cells #[.int .i64 z.x.a, .int .i64 z.x.b, .int .i64 z.x.boot, .int .i64 z.x.first, .slice z.oA z.x.os.length z.oc, .int .i64 z.x.pos, .slice z.rA z.x.rs.length z.rc, .int .i64 z.x.start, .slice z.eA z.x.es.length z.ec, .int .i64 z.x.ack, .int .i64 z.x.grant, .int .i64 z.x.s, .int .i64 z.x.t, .slice z.gA z.x.gs.length z.gc] 27)
          go_enter Tryd.func20, Tryd.ntmps20
          go_upto_region 1 with fail
          generalize (w.alloc (.cells #[.int .i64 y.x.a, .int .i64 y.x.b, .int .i64 y.x.boot, .int .i64 y.x.first, .slice y.oA y.x.os.length y.oc, .int .i64 y.x.pos, .slice y.rA y.x.rs.length y.rc, .int .i64 y.x.start, .slice y.eA y.x.es.length y.ec, .int .i64 y.x.ack, .int .i64 y.x.grant, .int .i64 y.x.s, .int .i64 y.x.t, .slice y.gA y.x.gs.length y.gc] 27)).alloc (.cells #[.int .i64 z.x.a, .int .i64 z.x.b, .int .i64 z.x.boot, .int .i64 z.x.first, .slice z.oA z.x.os.length z.oc, .int .i64 z.x.pos, .slice z.rA z.x.rs.length z.rc, .int .i64 z.x.start, .slice z.eA z.x.es.length z.ec, .int .i64 z.x.ack, .int .i64 z.x.grant, .int .i64 z.x.s, .int .i64 z.x.t, .slice z.gA z.x.gs.length z.gc] 27) = W at *
          obtain ⟨n2, hn2⟩ : ∃ n, w.heap.size + 1 = n := ⟨_, rfl⟩
          obtain ⟨n1, hn1⟩ : ∃ n, w.heap.size = n := ⟨_, rfl⟩
          rw [hn2] at hQ ⊢
          rw [hn1] at hP ⊢
          clear hn1 hn2
          obtain ⟨p0, p1, p2, p3, p4, p5, p6, p7, p8, p9, p10, p11, p12, p13⟩ := frIn14 hP
          obtain ⟨q0, q1, q2, q3, q4, q5, q6, q7, q8, q9, q10, q11, q12, q13⟩ := frIn14 hQ
          go_wp2_with fail
          refine (CO.out _ hB).mono ?_
          rintro e v ⟨rfl, hb⟩
          replace hP := hP.below hb
          replace hQ := hQ.below hb
          replace hB := hB.trans (hb.mono hB.size)
          clear hb
          clear p0 p1 p2 p3 p4 p5 p6 p7 p8 p9 p10 p11 p12 p13 q0 q1 q2 q3 q4 q5 q6 q7 q8 q9 q10 q11 q12 q13
          obtain ⟨p0, p1, p2, p3, p4, p5, p6, p7, p8, p9, p10, p11, p12, p13⟩ := frIn14 hP
          obtain ⟨q0, q1, q2, q3, q4, q5, q6, q7, q8, q9, q10, q11, q12, q13⟩ := frIn14 hQ
          go_wp2_with fail
          refine (CR.out _ hB).mono ?_
          rintro e v ⟨rfl, hb⟩
          replace hP := hP.below hb
          replace hQ := hQ.below hb
          replace hB := hB.trans (hb.mono hB.size)
          clear hb
          clear p0 p1 p2 p3 p4 p5 p6 p7 p8 p9 p10 p11 p12 p13 q0 q1 q2 q3 q4 q5 q6 q7 q8 q9 q10 q11 q12 q13
          obtain ⟨p0, p1, p2, p3, p4, p5, p6, p7, p8, p9, p10, p11, p12, p13⟩ := frIn14 hP
          obtain ⟨q0, q1, q2, q3, q4, q5, q6, q7, q8, q9, q10, q11, q12, q13⟩ := frIn14 hQ
          go_wp2_with fail
          refine (CE.out _ hB).mono ?_
          rintro e v ⟨rfl, hb⟩
          replace hP := hP.below hb
          replace hQ := hQ.below hb
          replace hB := hB.trans (hb.mono hB.size)
          clear hb
          clear p0 p1 p2 p3 p4 p5 p6 p7 p8 p9 p10 p11 p12 p13 q0 q1 q2 q3 q4 q5 q6 q7 q8 q9 q10 q11 q12 q13
          obtain ⟨p0, p1, p2, p3, p4, p5, p6, p7, p8, p9, p10, p11, p12, p13⟩ := frIn14 hP
          obtain ⟨q0, q1, q2, q3, q4, q5, q6, q7, q8, q9, q10, q11, q12, q13⟩ := frIn14 hQ
          go_wp2_with fail
          refine (CG.out _ hB).mono ?_
          rintro e v ⟨rfl, hb⟩
          replace hP := hP.below hb
          replace hQ := hQ.below hb
          replace hB := hB.trans (hb.mono hB.size)
          clear hb
          clear p0 p1 p2 p3 p4 p5 p6 p7 p8 p9 p10 p11 p12 p13 q0 q1 q2 q3 q4 q5 q6 q7 q8 q9 q10 q11 q12 q13
          obtain ⟨p0, p1, p2, p3, p4, p5, p6, p7, p8, p9, p10, p11, p12, p13⟩ := frIn14 hP
          obtain ⟨q0, q1, q2, q3, q4, q5, q6, q7, q8, q9, q10, q11, q12, q13⟩ := frIn14 hQ
          go_wp2_with fail
          have a1 := mt HG.out.2 (by decide)
          go_ret
          exact ⟨false, rfl, ⟨fun h => (by cases h), fun h => absurd (by rw [h]) a1⟩, hB⟩
        | true =>
          have hP : frE.In ((w.alloc (.cells #[.int .i64 y.x.a, .int .i64 y.x.b, .int .i64 y.x.boot, .int .i64 y.x.first, .slice y.oA y.x.os.length y.oc, .int .i64 y.x.pos, .slice y.rA y.x.rs.length y.rc, .int .i64 y.x.start, .slice y.eA y.x.es.length y.ec, .int .i64 y.x.ack, .int .i64 y.x.grant, .int .i64 y.x.s, .int .i64 y.x.t, .slice y.gA y.x.gs.length y.gc] 27)).alloc (.cells #[.int .i64 z.x.a, .int .i64 z.x.b, .int .i64 z.x.boot, .int .i64 z.x.first, .slice z.oA z.x.os.length z.oc, .int .i64 z.x.pos, .slice z.rA z.x.rs.length z.rc, .int .i64 z.x.start, .slice z.eA z.x.es.length z.ec, .int .i64 z.x.ack, .int .i64 z.x.grant, .int .i64 z.x.s, .int .i64 z.x.t, .slice z.gA z.x.gs.length z.gc] 27)) w.heap.size y := (El.In.new (E := frE) w y _ rfl).alloc _
          have hQ : frE.In ((w.alloc (.cells #[.int .i64 y.x.a, .int .i64 y.x.b, .int .i64 y.x.boot, .int .i64 y.x.first, .slice y.oA y.x.os.length y.oc, .int .i64 y.x.pos, .slice y.rA y.x.rs.length y.rc, .int .i64 y.x.start, .slice y.eA y.x.es.length y.ec, .int .i64 y.x.ack, .int .i64 y.x.grant, .int .i64 y.x.s, .int .i64 y.x.t, .slice y.gA y.x.gs.length y.gc] 27)).alloc (.cells #[.int .i64 z.x.a, .int .i64 z.x.b, .int .i64 z.x.boot, .int .i64 z.x.first, .slice z.oA z.x.os.length z.oc, .int .i64 z.x.pos, .slice z.rA z.x.rs.length z.rc, .int .i64 z.x.start, .slice z.eA z.x.es.length z.ec, .int .i64 z.x.ack, .int .i64 z.x.grant, .int .i64 z.x.s, .int .i64 z.x.t, .slice z.gA z.x.gs.length z.gc] 27)) (w.alloc (.cells #[.int .i64 y.x.a, .int .i64 y.x.b, .int .i64 y.x.boot, .int .i64 y.x.first, .slice y.oA y.x.os.length y.oc, .int .i64 y.x.pos, .slice y.rA y.x.rs.length y.rc, .int .i64 y.x.start, .slice y.eA y.x.es.length y.ec, .int .i64 y.x.ack, .int .i64 y.x.grant, .int .i64 y.x.s, .int .i64 y.x.t, .slice y.gA y.x.gs.length y.gc] 27)).heap.size z := El.In.new (E := frE) (w.alloc (.cells #[.int .i64 y.x.a, .int .i64 y.x.b, .int .i64 y.x.boot, .int .i64 y.x.first, .slice y.oA y.x.os.length y.oc, .int .i64 y.x.pos, .slice y.rA y.x.rs.length y.rc, .int .i64 y.x.start, .slice y.eA y.x.es.length y.ec, .int .i64 y.x.ack, .int .i64 y.x.grant, .int .i64 y.x.s, .int .i64 y.x.t, .slice y.gA y.x.gs.length y.gc] 27)) z _ rfl
          rw [alloc_size] at hQ
          have hB := below_alloc (below_alloc (Below.refl w.heap.size w) (.cells #[.int .i64 y.x.a, .int .i64 y.x.b, .int .i64 y.x.boot, .int .i64 y.x.first, .slice y.oA y.x.os.length y.oc, .int .i64 y.x.pos, .slice y.rA y.x.rs.length y.rc, .int .i64 y.x.start, .slice y.eA y.x.es.length y.ec, .int .i64 y.x.ack, .int .i64 y.x.grant, .int .i64 y.x.s, .int .i64 y.x.t, .slice y.gA y.x.gs.length y.gc] 27)) (.cells #[.int .i64 z.x.a, .int .i64 z.x.b, .int .i64 z.x.boot, .int .i64 z.x.first, .slice z.oA z.x.os.length z.oc, .int .i64 z.x.pos, .slice z.rA z.x.rs.length z.rc, .int .i64 z.x.start, .slice z.eA z.x.es.length z.ec, .int .i64 z.x.ack, .int .i64 z.x.grant, .int .i64 z.x.s, .int .i64 z.x.t, .slice z.gA z.x.gs.length z.gc] 27)
          go_enter Tryd.func20, Tryd.ntmps20
          go_upto_region 1 with fail
          generalize (w.alloc (.cells #[.int .i64 y.x.a, .int .i64 y.x.b, .int .i64 y.x.boot, .int .i64 y.x.first, .slice y.oA y.x.os.length y.oc, .int .i64 y.x.pos, .slice y.rA y.x.rs.length y.rc, .int .i64 y.x.start, .slice y.eA y.x.es.length y.ec, .int .i64 y.x.ack, .int .i64 y.x.grant, .int .i64 y.x.s, .int .i64 y.x.t, .slice y.gA y.x.gs.length y.gc] 27)).alloc (.cells #[.int .i64 z.x.a, .int .i64 z.x.b, .int .i64 z.x.boot, .int .i64 z.x.first, .slice z.oA z.x.os.length z.oc, .int .i64 z.x.pos, .slice z.rA z.x.rs.length z.rc, .int .i64 z.x.start, .slice z.eA z.x.es.length z.ec, .int .i64 z.x.ack, .int .i64 z.x.grant, .int .i64 z.x.s, .int .i64 z.x.t, .slice z.gA z.x.gs.length z.gc] 27) = W at *
          obtain ⟨n2, hn2⟩ : ∃ n, w.heap.size + 1 = n := ⟨_, rfl⟩
          obtain ⟨n1, hn1⟩ : ∃ n, w.heap.size = n := ⟨_, rfl⟩
          rw [hn2] at hQ ⊢
          rw [hn1] at hP ⊢
          clear hn1 hn2
          obtain ⟨p0, p1, p2, p3, p4, p5, p6, p7, p8, p9, p10, p11, p12, p13⟩ := frIn14 hP
          obtain ⟨q0, q1, q2, q3, q4, q5, q6, q7, q8, q9, q10, q11, q12, q13⟩ := frIn14 hQ
          go_wp2_with fail
          refine (CO.out _ hB).mono ?_
          rintro e v ⟨rfl, hb⟩
          replace hP := hP.below hb
          replace hQ := hQ.below hb
          replace hB := hB.trans (hb.mono hB.size)
          clear hb
          clear p0 p1 p2 p3 p4 p5 p6 p7 p8 p9 p10 p11 p12 p13 q0 q1 q2 q3 q4 q5 q6 q7 q8 q9 q10 q11 q12 q13
          obtain ⟨p0, p1, p2, p3, p4, p5, p6, p7, p8, p9, p10, p11, p12, p13⟩ := frIn14 hP
          obtain ⟨q0, q1, q2, q3, q4, q5, q6, q7, q8, q9, q10, q11, q12, q13⟩ := frIn14 hQ
          go_wp2_with fail
          refine (CR.out _ hB).mono ?_
          rintro e v ⟨rfl, hb⟩
          replace hP := hP.below hb
          replace hQ := hQ.below hb
          replace hB := hB.trans (hb.mono hB.size)
          clear hb
          clear p0 p1 p2 p3 p4 p5 p6 p7 p8 p9 p10 p11 p12 p13 q0 q1 q2 q3 q4 q5 q6 q7 q8 q9 q10 q11 q12 q13
          obtain ⟨p0, p1, p2, p3, p4, p5, p6, p7, p8, p9, p10, p11, p12, p13⟩ := frIn14 hP
          obtain ⟨q0, q1, q2, q3, q4, q5, q6, q7, q8, q9, q10, q11, q12, q13⟩ := frIn14 hQ
          go_wp2_with fail
          refine (CE.out _ hB).mono ?_
          rintro e v ⟨rfl, hb⟩
          replace hP := hP.below hb
          replace hQ := hQ.below hb
          replace hB := hB.trans (hb.mono hB.size)
          clear hb
          clear p0 p1 p2 p3 p4 p5 p6 p7 p8 p9 p10 p11 p12 p13 q0 q1 q2 q3 q4 q5 q6 q7 q8 q9 q10 q11 q12 q13
          obtain ⟨p0, p1, p2, p3, p4, p5, p6, p7, p8, p9, p10, p11, p12, p13⟩ := frIn14 hP
          obtain ⟨q0, q1, q2, q3, q4, q5, q6, q7, q8, q9, q10, q11, q12, q13⟩ := frIn14 hQ
          go_wp2_with fail
          refine (CG.out _ hB).mono ?_
          rintro e v ⟨rfl, hb⟩
          replace hP := hP.below hb
          replace hQ := hQ.below hb
          replace hB := hB.trans (hb.mono hB.size)
          clear hb
          clear p0 p1 p2 p3 p4 p5 p6 p7 p8 p9 p10 p11 p12 p13 q0 q1 q2 q3 q4 q5 q6 q7 q8 q9 q10 q11 q12 q13
          obtain ⟨p0, p1, p2, p3, p4, p5, p6, p7, p8, p9, p10, p11, p12, p13⟩ := frIn14 hP
          obtain ⟨q0, q1, q2, q3, q4, q5, q6, q7, q8, q9, q10, q11, q12, q13⟩ := frIn14 hQ
          go_wp2_with fail
          go_ret
          exact ⟨true, rfl, ⟨fun _ => frEq_of ⟨HEQ.out.1, HEQ.out.2.1, HEQ.out.2.2.1, HEQ.out.2.2.2.1, HEQ.out.2.2.2.2.1, HEQ.out.2.2.2.2.2.1, HEQ.out.2.2.2.2.2.2.1, HEQ.out.2.2.2.2.2.2.2.1, HEQ.out.2.2.2.2.2.2.2.2.1, HEQ.out.2.2.2.2.2.2.2.2.2, HO.out.1 (by trivial), HR.out.1 (by trivial), HE.out.1 (by trivial), HG.out.1 (by trivial)⟩, fun _ => rfl⟩, hB⟩
theorem refSameFr_any (y z : Fw) (w : World) (hy : y.ok w) (hz : z.ok w) (ly : y.x.os.length ≤ 50000 ∧ y.x.rs.length ≤ 50000 ∧ y.x.es.length ≤ 50000 ∧ y.x.gs.length ≤ 50000) (lz : z.x.os.length ≤ 50000 ∧ z.x.rs.length ≤ 50000 ∧ z.x.es.length ≤ 50000 ∧ z.x.gs.length ≤ 50000) : Calls Tryd.prog 20 #[.agg #[.int .i64 y.x.a, .int .i64 y.x.b, .int .i64 y.x.boot, .int .i64 y.x.first, .slice y.oA y.x.os.length y.oc, .int .i64 y.x.pos, .slice y.rA y.x.rs.length y.rc, .int .i64 y.x.start, .slice y.eA y.x.es.length y.ec, .int .i64 y.x.ack, .int .i64 y.x.grant, .int .i64 y.x.s, .int .i64 y.x.t, .slice y.gA y.x.gs.length y.gc], .agg #[.int .i64 z.x.a, .int .i64 z.x.b, .int .i64 z.x.boot, .int .i64 z.x.first, .slice z.oA z.x.os.length z.oc, .int .i64 z.x.pos, .slice z.rA z.x.rs.length z.rc, .int .i64 z.x.start, .slice z.eA z.x.es.length z.ec, .int .i64 z.x.ack, .int .i64 z.x.grant, .int .i64 z.x.s, .int .i64 z.x.t, .slice z.gA z.x.gs.length z.gc]] w fun e w' => ∃ b, e = .returned (.bool b) ∧ (b = true ↔ y.x = z.x) ∧ Below w.heap.size w w' := by
  by_cases a0 : y.x.a = z.x.a
  · have e0 : (y.x.a == z.x.a) = true := beq_iff_eq.2 a0
    by_cases a1 : y.x.b = z.x.b
    · have e1 : (y.x.b == z.x.b) = true := beq_iff_eq.2 a1
      by_cases a2 : y.x.boot = z.x.boot
      · have e2 : (y.x.boot == z.x.boot) = true := beq_iff_eq.2 a2
        by_cases a3 : y.x.first = z.x.first
        · have e3 : (y.x.first == z.x.first) = true := beq_iff_eq.2 a3
          by_cases a4 : y.x.pos = z.x.pos
          · have e4 : (y.x.pos == z.x.pos) = true := beq_iff_eq.2 a4
            by_cases a5 : y.x.start = z.x.start
            · have e5 : (y.x.start == z.x.start) = true := beq_iff_eq.2 a5
              by_cases a6 : y.x.ack = z.x.ack
              · have e6 : (y.x.ack == z.x.ack) = true := beq_iff_eq.2 a6
                by_cases a7 : y.x.grant = z.x.grant
                · have e7 : (y.x.grant == z.x.grant) = true := beq_iff_eq.2 a7
                  by_cases a8 : y.x.s = z.x.s
                  · have e8 : (y.x.s == z.x.s) = true := beq_iff_eq.2 a8
                    by_cases a9 : y.x.t = z.x.t
                    · have e9 : (y.x.t == z.x.t) = true := beq_iff_eq.2 a9
                      exact same15_lists y z w e0 e1 e2 e3 e4 e5 e6 e7 e8 e9 (Lib.hid ⟨a0, a1, a2, a3, a4, a5, a6, a7, a8, a9⟩) hy hz ly lz
                    · exact same15_n9 y z w e0 e1 e2 e3 e4 e5 e6 e7 e8 (beq_eq_false_iff_ne.2 a9) a9
                  · exact same15_n8 y z w e0 e1 e2 e3 e4 e5 e6 e7 (beq_eq_false_iff_ne.2 a8) a8
                · exact same15_n7 y z w e0 e1 e2 e3 e4 e5 e6 (beq_eq_false_iff_ne.2 a7) a7
              · exact same15_n6 y z w e0 e1 e2 e3 e4 e5 (beq_eq_false_iff_ne.2 a6) a6
            · exact same15_n5 y z w e0 e1 e2 e3 e4 (beq_eq_false_iff_ne.2 a5) a5
          · exact same15_n4 y z w e0 e1 e2 e3 (beq_eq_false_iff_ne.2 a4) a4
        · exact same15_n3 y z w e0 e1 e2 (beq_eq_false_iff_ne.2 a3) a3
      · exact same15_n2 y z w e0 e1 (beq_eq_false_iff_ne.2 a2) a2
    · exact same15_n1 y z w e0 (beq_eq_false_iff_ne.2 a1) a1
  · exact same15_n0 y z w (beq_eq_false_iff_ne.2 a0) a0
end Go.Proofs.YtndahomgglpdhaaDoor

namespace Go.Proofs.YtndahomgglpdhaaDoor
open Go.ChangeShapes Go.WideShapes Go.ChangeAt Go.RowKit Go.Deep Nam Cod

set_option maxRecDepth 100000 in
set_option maxHeartbeats 8000000 in
theorem order15_walk (H : FrameCalls) (y z : Fw) (w : World) (hL : Crk.Laid w) (hy : y.ok w) (hz : z.ok w) (ny : FrN y.x) (nz : FrN z.x) (ly : FrLen y.x) (lz : FrLen z.x) :
    Calls Tryd.prog 7 #[.agg #[.int .i64 y.x.a, .int .i64 y.x.b, .int .i64 y.x.boot, .int .i64 y.x.first, .slice y.oA y.x.os.length y.oc, .int .i64 y.x.pos, .slice y.rA y.x.rs.length y.rc, .int .i64 y.x.start, .slice y.eA y.x.es.length y.ec, .int .i64 y.x.ack, .int .i64 y.x.grant, .int .i64 y.x.s, .int .i64 y.x.t, .slice y.gA y.x.gs.length y.gc], .agg #[.int .i64 z.x.a, .int .i64 z.x.b, .int .i64 z.x.boot, .int .i64 z.x.first, .slice z.oA z.x.os.length z.oc, .int .i64 z.x.pos, .slice z.rA z.x.rs.length z.rc, .int .i64 z.x.start, .slice z.eA z.x.es.length z.ec, .int .i64 z.x.ack, .int .i64 z.x.grant, .int .i64 z.x.s, .int .i64 z.x.t, .slice z.gA z.x.gs.length z.gc]] w fun e w' => e = .returned (.bool true) ∧ Below w.heap.size w w' := by
  have HAW := Lib.hid (fun (wx : World) (hb : Below w.heap.size w wx) => awake15_any H wx (laid_belowK hL hb))
  have HGY := Lib.hid (fun (wx : World) (g : y.ok wx) => great15_any y wx g ny ly)
  have HGZ := Lib.hid (fun (wx : World) (g : z.ok wx) => great15_any z wx g nz lz)
  have HWY := Lib.hid (fun (h : greatN y.x ≤ 200) => ny.small h)
  have HWZ := Lib.hid (fun (h : greatN z.x ≤ 200) => nz.small h)
  have HLH := Lib.hid (fun (wx : World) (hb : Below w.heap.size w wx) => laid_belowK hL hb)
  have HH := Lib.hid H
  have hP : frE.In ((w.alloc (.cells #[.int .i64 y.x.a, .int .i64 y.x.b, .int .i64 y.x.boot, .int .i64 y.x.first, .slice y.oA y.x.os.length y.oc, .int .i64 y.x.pos, .slice y.rA y.x.rs.length y.rc, .int .i64 y.x.start, .slice y.eA y.x.es.length y.ec, .int .i64 y.x.ack, .int .i64 y.x.grant, .int .i64 y.x.s, .int .i64 y.x.t, .slice y.gA y.x.gs.length y.gc] 27)).alloc (.cells #[.int .i64 z.x.a, .int .i64 z.x.b, .int .i64 z.x.boot, .int .i64 z.x.first, .slice z.oA z.x.os.length z.oc, .int .i64 z.x.pos, .slice z.rA z.x.rs.length z.rc, .int .i64 z.x.start, .slice z.eA z.x.es.length z.ec, .int .i64 z.x.ack, .int .i64 z.x.grant, .int .i64 z.x.s, .int .i64 z.x.t, .slice z.gA z.x.gs.length z.gc] 27)) w.heap.size y := (El.In.new (E := frE) w y _ rfl).alloc _
  have hQ : frE.In ((w.alloc (.cells #[.int .i64 y.x.a, .int .i64 y.x.b, .int .i64 y.x.boot, .int .i64 y.x.first, .slice y.oA y.x.os.length y.oc, .int .i64 y.x.pos, .slice y.rA y.x.rs.length y.rc, .int .i64 y.x.start, .slice y.eA y.x.es.length y.ec, .int .i64 y.x.ack, .int .i64 y.x.grant, .int .i64 y.x.s, .int .i64 y.x.t, .slice y.gA y.x.gs.length y.gc] 27)).alloc (.cells #[.int .i64 z.x.a, .int .i64 z.x.b, .int .i64 z.x.boot, .int .i64 z.x.first, .slice z.oA z.x.os.length z.oc, .int .i64 z.x.pos, .slice z.rA z.x.rs.length z.rc, .int .i64 z.x.start, .slice z.eA z.x.es.length z.ec, .int .i64 z.x.ack, .int .i64 z.x.grant, .int .i64 z.x.s, .int .i64 z.x.t, .slice z.gA z.x.gs.length z.gc] 27)) (w.alloc (.cells #[.int .i64 y.x.a, .int .i64 y.x.b, .int .i64 y.x.boot, .int .i64 y.x.first, .slice y.oA y.x.os.length y.oc, .int .i64 y.x.pos, .slice y.rA y.x.rs.length y.rc, .int .i64 y.x.start, .slice y.eA y.x.es.length y.ec, .int .i64 y.x.ack, .int .i64 y.x.grant, .int .i64 y.x.s, .int .i64 y.x.t, .slice y.gA y.x.gs.length y.gc] 27)).heap.size z := El.In.new (E := frE) (w.alloc (.cells #[.int .i64 y.x.a, .int .i64 y.x.b, .int .i64 y.x.boot, .int .i64 y.x.first, .slice y.oA y.x.os.length y.oc, .int .i64 y.x.pos, .slice y.rA y.x.rs.length y.rc, .int .i64 y.x.start, .slice y.eA y.x.es.length y.ec, .int .i64 y.x.ack, .int .i64 y.x.grant, .int .i64 y.x.s, .int .i64 y.x.t, .slice y.gA y.x.gs.length y.gc] 27)) z _ rfl
  rw [alloc_size] at hQ
  have hB := below_alloc (below_alloc (Below.refl w.heap.size w) (.cells #[.int .i64 y.x.a, .int .i64 y.x.b, .int .i64 y.x.boot, .int .i64 y.x.first, .slice y.oA y.x.os.length y.oc, .int .i64 y.x.pos, .slice y.rA y.x.rs.length y.rc, .int .i64 y.x.start, .slice y.eA y.x.es.length y.ec, .int .i64 y.x.ack, .int .i64 y.x.grant, .int .i64 y.x.s, .int .i64 y.x.t, .slice y.gA y.x.gs.length y.gc] 27)) (.cells #[.int .i64 z.x.a, .int .i64 z.x.b, .int .i64 z.x.boot, .int .i64 z.x.first, .slice z.oA z.x.os.length z.oc, .int .i64 z.x.pos, .slice z.rA z.x.rs.length z.rc, .int .i64 z.x.start, .slice z.eA z.x.es.length z.ec, .int .i64 z.x.ack, .int .i64 z.x.grant, .int .i64 z.x.s, .int .i64 z.x.t, .slice z.gA z.x.gs.length z.gc] 27)
  replace hy := hy.below hB
  replace hz := hz.below hB
  clear H hL ny nz ly lz
  go_enter Tryd.func7, Tryd.ntmps7
  go_upto_region 1 with fail
  generalize (w.alloc (.cells #[.int .i64 y.x.a, .int .i64 y.x.b, .int .i64 y.x.boot, .int .i64 y.x.first, .slice y.oA y.x.os.length y.oc, .int .i64 y.x.pos, .slice y.rA y.x.rs.length y.rc, .int .i64 y.x.start, .slice y.eA y.x.es.length y.ec, .int .i64 y.x.ack, .int .i64 y.x.grant, .int .i64 y.x.s, .int .i64 y.x.t, .slice y.gA y.x.gs.length y.gc] 27)).alloc (.cells #[.int .i64 z.x.a, .int .i64 z.x.b, .int .i64 z.x.boot, .int .i64 z.x.first, .slice z.oA z.x.os.length z.oc, .int .i64 z.x.pos, .slice z.rA z.x.rs.length z.rc, .int .i64 z.x.start, .slice z.eA z.x.es.length z.ec, .int .i64 z.x.ack, .int .i64 z.x.grant, .int .i64 z.x.s, .int .i64 z.x.t, .slice z.gA z.x.gs.length z.gc] 27) = W at *
  obtain ⟨n2, hn2⟩ : ∃ n, w.heap.size + 1 = n := ⟨_, rfl⟩
  obtain ⟨n1, hn1⟩ : ∃ n, w.heap.size = n := ⟨_, rfl⟩
  rw [hn2] at hQ ⊢
  rw [hn1] at hP ⊢
  clear hn1 hn2
  go_wp2_with (first | (refine El.load frRow rfl _ rfl n1 0 rfl y hP.at #[.int .i64 y.x.a, .int .i64 y.x.b, .int .i64 y.x.boot, .int .i64 y.x.first, .slice y.oA y.x.os.length y.oc, .int .i64 y.x.pos, .slice y.rA y.x.rs.length y.rc, .int .i64 y.x.start, .slice y.eA y.x.es.length y.ec, .int .i64 y.x.ack, .int .i64 y.x.grant, .int .i64 y.x.s, .int .i64 y.x.t, .slice y.gA y.x.gs.length y.gc] rfl ?_) | fail)
  refine (HGY.out _ hy).mono ?_
  rintro e w1 ⟨b1, rfl, hg1, hb1⟩
  replace hP := hP.below hb1
  replace hQ := hQ.below hb1
  replace hy := hy.below hb1
  replace hz := hz.below hb1
  replace hB := hB.trans (hb1.mono hB.size)
  clear hb1 HGY
  cases b1 with
  | true =>
    go_wp2_with fail
    refine (HAW.out _ hB).mono ?_
    rintro e w9 ⟨rfl, hb9⟩
    go_wp2_with fail
    go_ret
    exact ⟨rfl, hB.trans (hb9.mono hB.size)⟩
  | false =>
    have WY := HWY.out (hg1 rfl)
    clear HWY hg1
    obtain ⟨p0, p1, p2, p3, p4, p5, p6, p7, p8, p9, p10, p11, p12, p13⟩ := frIn14 hP
    obtain ⟨q0, q1, q2, q3, q4, q5, q6, q7, q8, q9, q10, q11, q12, q13⟩ := frIn14 hQ
    go_wp2_with fail
    refine (HGZ.out _ hz).mono ?_
    rintro e w2 ⟨b2, rfl, hg2, hb2⟩
    replace hP := hP.below hb2
    replace hQ := hQ.below hb2
    replace hy := hy.below hb2
    replace hz := hz.below hb2
    replace hB := hB.trans (hb2.mono hB.size)
    clear hb2 HGZ
    clear p0 p1 p2 p3 p4 p5 p6 p7 p8 p9 p10 p11 p12 p13 q0 q1 q2 q3 q4 q5 q6 q7 q8 q9 q10 q11 q12 q13
    cases b2 with
    | true =>
      go_wp2_with fail
      refine (HAW.out _ hB).mono ?_
      rintro e w9 ⟨rfl, hb9⟩
      go_wp2_with fail
      go_ret
      exact ⟨rfl, hB.trans (hb9.mono hB.size)⟩
    | false =>
      have WZ := HWZ.out (hg2 rfl)
      clear HWZ hg2
      obtain ⟨p0, p1, p2, p3, p4, p5, p6, p7, p8, p9, p10, p11, p12, p13⟩ := frIn14 hP
      obtain ⟨q0, q1, q2, q3, q4, q5, q6, q7, q8, q9, q10, q11, q12, q13⟩ := frIn14 hQ
      go_wp2_with fail
      cases hby : frB y.x with
      | false =>
        have CR := HH.out.right y _ WY hy
        rw [hby] at CR
        refine CR.mono ?_
        rintro e w3 ⟨rfl, hb3⟩
        replace hP := hP.below hb3
        replace hQ := hQ.below hb3
        replace hy := hy.below hb3
        replace hz := hz.below hb3
        replace hB := hB.trans (hb3.mono hB.size)
        clear hb3 CR
        clear p0 p1 p2 p3 p4 p5 p6 p7 p8 p9 p10 p11 p12 p13 q0 q1 q2 q3 q4 q5 q6 q7 q8 q9 q10 q11 q12 q13
        go_wp2_with fail
        refine (HAW.out _ hB).mono ?_
        rintro e w9 ⟨rfl, hb9⟩
        go_wp2_with fail
        go_ret
        exact ⟨rfl, hB.trans (hb9.mono hB.size)⟩
      | true =>
        have CR := HH.out.right y _ WY hy
        rw [hby] at CR
        refine CR.mono ?_
        rintro e w3 ⟨rfl, hb3⟩
        replace hP := hP.below hb3
        replace hQ := hQ.below hb3
        replace hy := hy.below hb3
        replace hz := hz.below hb3
        replace hB := hB.trans (hb3.mono hB.size)
        clear hb3 CR
        clear p0 p1 p2 p3 p4 p5 p6 p7 p8 p9 p10 p11 p12 p13 q0 q1 q2 q3 q4 q5 q6 q7 q8 q9 q10 q11 q12 q13
        obtain ⟨p0, p1, p2, p3, p4, p5, p6, p7, p8, p9, p10, p11, p12, p13⟩ := frIn14 hP
        obtain ⟨q0, q1, q2, q3, q4, q5, q6, q7, q8, q9, q10, q11, q12, q13⟩ := frIn14 hQ
        go_wp2_with fail
        cases hbz : frB z.x with
        | false =>
          have CR := HH.out.right z _ WZ hz
          rw [hbz] at CR
          refine CR.mono ?_
          rintro e w4 ⟨rfl, hb4⟩
          replace hP := hP.below hb4
          replace hQ := hQ.below hb4
          replace hy := hy.below hb4
          replace hz := hz.below hb4
          replace hB := hB.trans (hb4.mono hB.size)
          clear hb4 CR
          clear p0 p1 p2 p3 p4 p5 p6 p7 p8 p9 p10 p11 p12 p13 q0 q1 q2 q3 q4 q5 q6 q7 q8 q9 q10 q11 q12 q13
          go_wp2_with fail
          refine (HAW.out _ hB).mono ?_
          rintro e w9 ⟨rfl, hb9⟩
          go_wp2_with fail
          go_ret
          exact ⟨rfl, hB.trans (hb9.mono hB.size)⟩
        | true =>
          have CR := HH.out.right z _ WZ hz
          rw [hbz] at CR
          refine CR.mono ?_
          rintro e w4 ⟨rfl, hb4⟩
          replace hP := hP.below hb4
          replace hQ := hQ.below hb4
          replace hy := hy.below hb4
          replace hz := hz.below hb4
          replace hB := hB.trans (hb4.mono hB.size)
          clear hb4 CR
          clear p0 p1 p2 p3 p4 p5 p6 p7 p8 p9 p10 p11 p12 p13 q0 q1 q2 q3 q4 q5 q6 q7 q8 q9 q10 q11 q12 q13
          go_wp2_with fail
          have RY := frB_iff.1 hby
          have RZ := frB_iff.1 hbz
          have leY : y.x.os.length ≤ 50000 ∧ y.x.rs.length ≤ 50000 ∧ y.x.es.length ≤ 50000 ∧ y.x.gs.length ≤ 50000 := by have := RY.e; omega
          have leZ : z.x.os.length ≤ 50000 ∧ z.x.rs.length ≤ 50000 ∧ z.x.es.length ≤ 50000 ∧ z.x.gs.length ≤ 50000 := by have := RZ.e; omega
          obtain ⟨eb, heb⟩ : ∃ eb : Bool, (eb = true ↔ y.x = z.x) := by
            by_cases c : y.x = z.x
            · exact ⟨true, by simp [c]⟩
            · exact ⟨false, by simp [c]⟩
          have CSM := Lib.hid (fun (wx : World) (g1 : y.ok wx) (g2 : z.ok wx) => (refSameFr_any y z wx g1 g2 leY leZ).mono (by
            rintro e w' ⟨bv, rfl, hbv, hb2⟩
            have e : bv = eb := by rw [Bool.eq_iff_iff, hbv, heb]
            rw [e]
            exact ⟨rfl, hb2⟩ : ∀ (e : Ending) (w' : World), _ → (e = .returned (.bool eb) ∧ Below wx.heap.size wx w')))
          have CPY := Lib.hid (fun (wx : World) (hb : Below w.heap.size w wx) (g : y.ok wx) => HH.out.print y wx (HLH.out wx hb) WY g)
          have CPZ := Lib.hid (fun (wx : World) (hb : Below w.heap.size w wx) (g : z.ok wx) => HH.out.print z wx (HLH.out wx hb) WZ g)
          have hSS : (frBytes y.x).toList = (frBytes z.x).toList ↔ eb = true := by
            rw [toList_iff, heb]
            exact ⟨fprint_inj RY RZ, fun h => by rw [h]⟩
          clear heb hby hbz RY RZ leY leZ WY WZ HLH HH
          generalize frBytes y.x = S1 at *
          generalize frBytes z.x = S2 at *
          obtain ⟨sb, hsb⟩ : ∃ sb, (S1.toList == S2.toList) = sb := ⟨_, rfl⟩
          have hse : sb = eb := by
            rw [← hsb, Bool.eq_iff_iff, beq_iff_eq]
            exact hSS
          subst hse
          clear hSS
          replace hP : frE.In w4.drew n1 y := hP
          replace hQ : frE.In w4.drew n2 z := hQ
          replace hy : y.ok w4.drew := ⟨hy.o, hy.r, hy.e, hy.g⟩
          replace hz : z.ok w4.drew := ⟨hz.o, hz.r, hz.e, hz.g⟩
          replace hB := hB.drew
          go_region_held3 (fun w' => (w'.cell? ⟨n1, 0, none⟩ = some (.int .i64 y.x.a) ∧ w'.cell? ⟨n1, 1, none⟩ = some (.int .i64 y.x.b) ∧ w'.cell? ⟨n1, 2, none⟩ = some (.int .i64 y.x.boot) ∧ w'.cell? ⟨n1, 3, none⟩ = some (.int .i64 y.x.first) ∧ w'.cell? ⟨n1, 4, none⟩ = some (.slice y.oA y.x.os.length y.oc) ∧ w'.cell? ⟨n1, 5, none⟩ = some (.int .i64 y.x.pos) ∧ w'.cell? ⟨n1, 6, none⟩ = some (.slice y.rA y.x.rs.length y.rc) ∧ w'.cell? ⟨n1, 7, none⟩ = some (.int .i64 y.x.start) ∧ w'.cell? ⟨n1, 8, none⟩ = some (.slice y.eA y.x.es.length y.ec) ∧ w'.cell? ⟨n1, 9, none⟩ = some (.int .i64 y.x.ack) ∧ w'.cell? ⟨n1, 10, none⟩ = some (.int .i64 y.x.grant) ∧ w'.cell? ⟨n1, 11, none⟩ = some (.int .i64 y.x.s) ∧ w'.cell? ⟨n1, 12, none⟩ = some (.int .i64 y.x.t) ∧ w'.cell? ⟨n1, 13, none⟩ = some (.slice y.gA y.x.gs.length y.gc)) ∧ (w'.cell? ⟨n2, 0, none⟩ = some (.int .i64 z.x.a) ∧ w'.cell? ⟨n2, 1, none⟩ = some (.int .i64 z.x.b) ∧ w'.cell? ⟨n2, 2, none⟩ = some (.int .i64 z.x.boot) ∧ w'.cell? ⟨n2, 3, none⟩ = some (.int .i64 z.x.first) ∧ w'.cell? ⟨n2, 4, none⟩ = some (.slice z.oA z.x.os.length z.oc) ∧ w'.cell? ⟨n2, 5, none⟩ = some (.int .i64 z.x.pos) ∧ w'.cell? ⟨n2, 6, none⟩ = some (.slice z.rA z.x.rs.length z.rc) ∧ w'.cell? ⟨n2, 7, none⟩ = some (.int .i64 z.x.start) ∧ w'.cell? ⟨n2, 8, none⟩ = some (.slice z.eA z.x.es.length z.ec) ∧ w'.cell? ⟨n2, 9, none⟩ = some (.int .i64 z.x.ack) ∧ w'.cell? ⟨n2, 10, none⟩ = some (.int .i64 z.x.grant) ∧ w'.cell? ⟨n2, 11, none⟩ = some (.int .i64 z.x.s) ∧ w'.cell? ⟨n2, 12, none⟩ = some (.int .i64 z.x.t) ∧ w'.cell? ⟨n2, 13, none⟩ = some (.slice z.gA z.x.gs.length z.gc))) (with_reducible exact ⟨frIn14 hP, frIn14 hQ⟩) (first | (go_at_call 9; (with_reducible refine (HAW.out _ hB).mono ?_); rintro r w5 ⟨rfl, hb5⟩; have hP := hP.below hb5; have hQ := hQ.below hb5; have hy := hy.below hb5; have hz := hz.below hb5; have hB := hB.trans (hb5.mono hB.size)) | (go_at_call 16; (with_reducible first | refine (CPY.out _ hB hy).mono ?_ | refine (CPZ.out _ hB hz).mono ?_); rintro r w5 ⟨rfl, hb5⟩; have hP := hP.below hb5; have hQ := hQ.below hb5; have hy := hy.below hb5; have hz := hz.below hb5; have hB := hB.trans (hb5.mono hB.size)) | (go_at_call 20; (with_reducible refine (CSM.out _ hy hz).mono ?_); rintro r w5 ⟨rfl, hb5⟩; have hP := hP.below hb5; have hQ := hQ.below hb5; have hy := hy.below hb5; have hz := hz.below hb5; have hB := hB.trans (hb5.mono hB.size)))
          all_goals
            go_wp2_with fail
            go_ret
            exact ⟨rfl, hB⟩
set_option maxRecDepth 100000 in
theorem order15_lifted (H0 : FrameCalls) (os : Os) (started : os.Started) (H : Type) (enc : TypeId × Value → H) :
    ReturnsInHanded {} Tryd.checked os 7 .any (fun w args => (Rows.frameOrderSpec.pre enc Tryd.prog Tryd.f7 [] false w args ∧ laidMetH Tryd.prog laid1 w) ∧ sizedMet enc Tryd.prog Tryd.f7 (OpenSpec.ofChange Rows.frameOrderSpec) false w args) (Rows.frameOrderSpec.post enc Tryd.prog Tryd.f7 false true false false) := by
  refine returnsInHanded_of_change_and (C := Tryd.checked) (X := fun w _ => laidMetH Tryd.prog laid1 w) (fun _ _ _ hh h => h.of_heap hh) own started (by kernel_rfl) Tryd.func7
    (ChangeSpec.witness_shaped (enc := enc) (C := Tryd.checked) (os := os) (X := fun w _ => laidMetH Tryd.prog laid1 w) false (World.doorLaid Tryd.prog 14 os) #[.agg #[.int .i64 0, .int .i64 0, .int .i64 0, .int .i64 0, .slice none 0 0, .int .i64 0, .slice none 0 0, .int .i64 0, .slice none 0 0, .int .i64 0, .int .i64 0, .int .i64 0, .int .i64 0, .slice none 0 0], .agg #[.int .i64 0, .int .i64 0, .int .i64 0, .int .i64 0, .slice none 0 0, .int .i64 0, .slice none 0 0, .int .i64 0, .slice none 0 0, .int .i64 0, .int .i64 0, .int .i64 0, .int .i64 0, .slice none 0 0]] 8 rfl (World.shaped_of_RefB (by kernel_rfl) (by kernel_rfl)) (by kernel_rfl) (by kernel_rfl) (by kernel_rfl) (door_met os _)) ?_
  intro W base args ds gs before hval0 hW _ hL0 hL _
  have hval : ∀ (j : Nat) t v, Tryd.f7.params[j]? = some t → args[j]? = some v → Value.okWide Tryd.prog W .any base t v := hval0
  have hW' := hW
  obtain ⟨p, q, hA0, hV, rfl, _, _⟩ := hW
  have hA : DataW.TrodAll enc Tryd.prog W 0 (fun _ => true) true Tryd.f7.params.toList args.toList ds p := hA0
  rw [Tryd.params7] at hA hval
  have hsz := hL0
  obtain ⟨v0, v1, d0, d1, p0, p1, rfl, rfl, rfl, h0, h1⟩ := trodAll_two hA
  simp only [Tryd.params7, List.cons_append, List.nil_append, DataW.weightsEach, List.all_append, Bool.and_eq_true] at hsz
  obtain ⟨y, rfl, hy, ny, ly⟩ := open_fr (hval 0 27 v0 rfl rfl) h0 hsz.1
  obtain ⟨z, rfl, hz, nz, lz⟩ := open_fr (hval 1 27 v1 rfl rfl) h1 hsz.2.1
  have hl := of_laid hL
  have hc : Calls Tryd.prog 7 #[.agg #[.int .i64 y.x.a, .int .i64 y.x.b, .int .i64 y.x.boot, .int .i64 y.x.first, .slice y.oA y.x.os.length y.oc, .int .i64 y.x.pos, .slice y.rA y.x.rs.length y.rc, .int .i64 y.x.start, .slice y.eA y.x.es.length y.ec, .int .i64 y.x.ack, .int .i64 y.x.grant, .int .i64 y.x.s, .int .i64 y.x.t, .slice y.gA y.x.gs.length y.gc], .agg #[.int .i64 z.x.a, .int .i64 z.x.b, .int .i64 z.x.boot, .int .i64 z.x.first, .slice z.oA z.x.os.length z.oc, .int .i64 z.x.pos, .slice z.rA z.x.rs.length z.rc, .int .i64 z.x.start, .slice z.eA z.x.es.length z.ec, .int .i64 z.x.ack, .int .i64 z.x.grant, .int .i64 z.x.s, .int .i64 z.x.t, .slice z.gA z.x.gs.length z.gc]] W fun e w' => e = .returned (.bool true) ∧ Below W.heap.size W w' := by
    exact order15_walk H0 y z W hl hy hz ny nz ly lz
  refine hc.mono fun e W' ⟨he, hb⟩ => ?_
  subst he
  exact ⟨_, rfl, Frm.law_post (by kernel_rfl) (by kernel_rfl) (by kernel_rfl) Tryd.underlying4 rfl rfl hW' hb⟩

theorem order15_said (H0 : FrameCalls) : Rows.FrameOrderSaid :=
  OpenClaim.holds_of_wide 7 Tryd.f7 rfl rfl rfl rfl rfl rfl rfl ⟨rfl, rfl, rfl, rfl, rfl⟩ rfl rfl rfl rfl rfl (by kernel_rfl) Tryd.func7 (by kernel_rfl)
    (of_decide_eq_true (by kernel_rfl)) (by unfold Func.isWrapper; first | (rw [if_pos (by decide +kernel)]; kernel_rfl) | (rw [if_neg (by decide +kernel)]; exact ⟨rfl, rfl⟩))
    (fun os started H enc _ => order15_lifted H0 os started H enc)

theorem order15_holds (H0 : FrameCalls) : Rows.FrameOrderCardSaid :=
  Claim7.holds_tied_plain_at .later [] [.data] true (true, "592bd563c67d30f64e5f2d516a984832c0f7d2e182453aec19ea26cfb8f3d092") false
    (order15_said H0) (fun _ h => by cases h) (by kernel_rfl) (fun _ h => by cases h) frameOrder_row_tie rfl ⟨rfl, rfl⟩ (by kernel_rfl) rfl
    (fun f fn hf hfn => by
      obtain rfl : f = 7 := Option.some.inj ((show Tryd.prog.funcNamed "bargeman/bargemanlaw15.FrameOrder" = some 7 by kernel_rfl).symm.trans hf) |>.symm
      obtain rfl : fn = Tryd.f7 := (Option.some.inj (Tryd.func7.symm.trans hfn)).symm
      exact ⟨by kernel_rfl, fun j t ht => by
        rw [Tryd.params7] at ht
        have hm : t ∈ [27, 27] := by simpa using Array.mem_of_getElem? ht
        have hall : ([27, 27].all fun u => !Tryd.prog.wantsStandIn u) = true := by kernel_rfl
        exact (show Tryd.prog.wantsStandIn t = false by simpa using List.all_eq_true.1 hall t hm)⟩)
    (by kernel_rfl)
end Go.Proofs.YtndahomgglpdhaaDoor

namespace Go.Proofs.YtndahomgglpdhaaDoor
theorem frameOrder_all : Rows.FrameOrderCardSaid := order15_holds frameCalls
end Go.Proofs.YtndahomgglpdhaaDoor
