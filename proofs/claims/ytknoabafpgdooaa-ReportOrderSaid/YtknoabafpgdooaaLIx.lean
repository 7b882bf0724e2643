/- ReportOrder: of two reports at most one is the newer; newer than one that is newer than a third is newer than that. No condition. -/
import Derived.Test.YtknoabafpgdooaaB05
import Derived.Test.YtknoabafpgdooaaRows
namespace Go.Proofs.Ytknoabafpgdooaa
open Go.ChangeShapes Go.WideShapes Go.ChangeAt Go.RowKit Go.Deep Cod

/-- Where two reports' ticks are unlike, or that they are alike. -/
def unlikeR (a b : Rp) (sm : Bool) : Prop := ((a.i == b.i) = false ∧ sm = false) ∨ ((a.i == b.i) = true ∧ (a.b == b.b) = false ∧ sm = false) ∨ ((a.i == b.i) = true ∧ (a.b == b.b) = true ∧ (a.t == b.t) = false ∧ sm = false) ∨ ((a.i == b.i) = true ∧ (a.b == b.b) = true ∧ (a.t == b.t) = true ∧ sm = true)
theorem unlikeR_of (a b : Rp) : ∃ sm, unlikeR a b sm ∧ (sm = true ↔ newB a b = false ∧ newB b a = false) := by
  have h2 : (newB a b = false ∧ newB b a = false) ↔ a.i = b.i ∧ a.b = b.b ∧ a.t = b.t := by
    constructor
    · rintro ⟨h, k⟩; exact newB_not h k
    · rintro ⟨h1, h2, h3⟩
      constructor <;> rw [Bool.eq_false_iff] <;> intro h <;> rw [newB_iff] at h <;> omega
  rw [h2]
  unfold unlikeR
  by_cases c1 : a.i = b.i
  · by_cases c2 : a.b = b.b
    · by_cases c3 : a.t = b.t
      · exact ⟨true, Or.inr (Or.inr (Or.inr ⟨beq_iff_eq.2 c1, beq_iff_eq.2 c2, beq_iff_eq.2 c3, rfl⟩)), by simp [c1, c2, c3]⟩
      · exact ⟨false, Or.inr (Or.inr (Or.inl ⟨beq_iff_eq.2 c1, beq_iff_eq.2 c2, beq_eq_false_iff_ne.2 c3, rfl⟩)), by simp [c3]⟩
    · exact ⟨false, Or.inr (Or.inl ⟨beq_iff_eq.2 c1, beq_eq_false_iff_ne.2 c2, rfl⟩), by simp [c2]⟩
  · exact ⟨false, Or.inl ⟨beq_eq_false_iff_ne.2 c1, rfl⟩, by simp [c1]⟩
set_option maxRecDepth 100000 in
set_option maxHeartbeats 2000000 in
theorem order14_first (H : ReportCalls) (a b c : Rp) (w : World) (hx : newB a b = true) (hy : newB b a = false) (hz : newB b c = false) (e : Hid (unlikeR a b false)) : Calls Try.prog 7 #[.agg #[.int .i64 a.d, .int .i64 a.i, .int .i64 a.b, .int .i64 a.t, .int .i64 a.m, .int .i64 a.p, .int .i64 a.c, .int .i64 a.s, .int .i64 a.k], .agg #[.int .i64 b.d, .int .i64 b.i, .int .i64 b.b, .int .i64 b.t, .int .i64 b.m, .int .i64 b.p, .int .i64 b.c, .int .i64 b.s, .int .i64 b.k], .agg #[.int .i64 c.d, .int .i64 c.i, .int .i64 c.b, .int .i64 c.t, .int .i64 c.m, .int .i64 c.p, .int .i64 c.c, .int .i64 c.s, .int .i64 c.k]] w fun r w' => r = .returned (.bool true) ∧ Below w.heap.size w w' := by
  have hP : rpE.In (((w.alloc (.cells #[.int .i64 a.d, .int .i64 a.i, .int .i64 a.b, .int .i64 a.t, .int .i64 a.m, .int .i64 a.p, .int .i64 a.c, .int .i64 a.s, .int .i64 a.k] 23)).alloc (.cells #[.int .i64 b.d, .int .i64 b.i, .int .i64 b.b, .int .i64 b.t, .int .i64 b.m, .int .i64 b.p, .int .i64 b.c, .int .i64 b.s, .int .i64 b.k] 23)).alloc (.cells #[.int .i64 c.d, .int .i64 c.i, .int .i64 c.b, .int .i64 c.t, .int .i64 c.m, .int .i64 c.p, .int .i64 c.c, .int .i64 c.s, .int .i64 c.k] 23)) w.heap.size a := ((El.In.new (E := rpE) w a _ rfl).alloc _).alloc _
  have hQ : rpE.In (((w.alloc (.cells #[.int .i64 a.d, .int .i64 a.i, .int .i64 a.b, .int .i64 a.t, .int .i64 a.m, .int .i64 a.p, .int .i64 a.c, .int .i64 a.s, .int .i64 a.k] 23)).alloc (.cells #[.int .i64 b.d, .int .i64 b.i, .int .i64 b.b, .int .i64 b.t, .int .i64 b.m, .int .i64 b.p, .int .i64 b.c, .int .i64 b.s, .int .i64 b.k] 23)).alloc (.cells #[.int .i64 c.d, .int .i64 c.i, .int .i64 c.b, .int .i64 c.t, .int .i64 c.m, .int .i64 c.p, .int .i64 c.c, .int .i64 c.s, .int .i64 c.k] 23)) (w.alloc (.cells #[.int .i64 a.d, .int .i64 a.i, .int .i64 a.b, .int .i64 a.t, .int .i64 a.m, .int .i64 a.p, .int .i64 a.c, .int .i64 a.s, .int .i64 a.k] 23)).heap.size b := (El.In.new (E := rpE) (w.alloc (.cells #[.int .i64 a.d, .int .i64 a.i, .int .i64 a.b, .int .i64 a.t, .int .i64 a.m, .int .i64 a.p, .int .i64 a.c, .int .i64 a.s, .int .i64 a.k] 23)) b _ rfl).alloc _
  have hR : rpE.In (((w.alloc (.cells #[.int .i64 a.d, .int .i64 a.i, .int .i64 a.b, .int .i64 a.t, .int .i64 a.m, .int .i64 a.p, .int .i64 a.c, .int .i64 a.s, .int .i64 a.k] 23)).alloc (.cells #[.int .i64 b.d, .int .i64 b.i, .int .i64 b.b, .int .i64 b.t, .int .i64 b.m, .int .i64 b.p, .int .i64 b.c, .int .i64 b.s, .int .i64 b.k] 23)).alloc (.cells #[.int .i64 c.d, .int .i64 c.i, .int .i64 c.b, .int .i64 c.t, .int .i64 c.m, .int .i64 c.p, .int .i64 c.c, .int .i64 c.s, .int .i64 c.k] 23)) ((w.alloc (.cells #[.int .i64 a.d, .int .i64 a.i, .int .i64 a.b, .int .i64 a.t, .int .i64 a.m, .int .i64 a.p, .int .i64 a.c, .int .i64 a.s, .int .i64 a.k] 23)).alloc (.cells #[.int .i64 b.d, .int .i64 b.i, .int .i64 b.b, .int .i64 b.t, .int .i64 b.m, .int .i64 b.p, .int .i64 b.c, .int .i64 b.s, .int .i64 b.k] 23)).heap.size c := El.In.new (E := rpE) ((w.alloc (.cells #[.int .i64 a.d, .int .i64 a.i, .int .i64 a.b, .int .i64 a.t, .int .i64 a.m, .int .i64 a.p, .int .i64 a.c, .int .i64 a.s, .int .i64 a.k] 23)).alloc (.cells #[.int .i64 b.d, .int .i64 b.i, .int .i64 b.b, .int .i64 b.t, .int .i64 b.m, .int .i64 b.p, .int .i64 b.c, .int .i64 b.s, .int .i64 b.k] 23)) c _ rfl
  rw [alloc_size] at hQ
  rw [alloc_size, alloc_size] at hR
  have hB := below_alloc (below_alloc (below_alloc (Below.refl w.heap.size w) (.cells #[.int .i64 a.d, .int .i64 a.i, .int .i64 a.b, .int .i64 a.t, .int .i64 a.m, .int .i64 a.p, .int .i64 a.c, .int .i64 a.s, .int .i64 a.k] 23)) (.cells #[.int .i64 b.d, .int .i64 b.i, .int .i64 b.b, .int .i64 b.t, .int .i64 b.m, .int .i64 b.p, .int .i64 b.c, .int .i64 b.s, .int .i64 b.k] 23)) (.cells #[.int .i64 c.d, .int .i64 c.i, .int .i64 c.b, .int .i64 c.t, .int .i64 c.m, .int .i64 c.p, .int .i64 c.c, .int .i64 c.s, .int .i64 c.k] 23)
  have HW := Lib.hid (fun (wx : World) => awake14_any H wx)
  have HXY := Lib.hid (fun (wx : World) => H.newer a b wx)
  have HYX := Lib.hid (fun (wx : World) => H.newer b a wx)
  have HAA := Lib.hid (fun (wx : World) => H.newer a a wx)
  have HBC := Lib.hid (fun (wx : World) => H.newer b c wx)
  have HAC := Lib.hid (fun (wx : World) => H.newer a c wx)
  rw [newB_self] at HAA
  rw [hx] at HXY
  rw [hy] at HYX
  rw [hz] at HBC
  clear hx hy hz HAC
  rcases e.out with ⟨e1, _⟩ | ⟨e1, e2, _⟩ | ⟨e1, e2, e3, _⟩ | ⟨_, _, _, h⟩
  · skip
    obtain ⟨p0, p1, p2, p3, p4, p5, p6, p7, p8⟩ := rpIn9 hP
    obtain ⟨q0, q1, q2, q3, q4, q5, q6, q7, q8⟩ := rpIn9 hQ
    obtain ⟨s0, s1, s2, s3, s4, s5, s6, s7, s8⟩ := rpIn9 hR
    go_enter Try.func7, Try.ntmps7
    go_wp2_with fail
    generalize ((w.alloc (.cells #[.int .i64 a.d, .int .i64 a.i, .int .i64 a.b, .int .i64 a.t, .int .i64 a.m, .int .i64 a.p, .int .i64 a.c, .int .i64 a.s, .int .i64 a.k] 23)).alloc (.cells #[.int .i64 b.d, .int .i64 b.i, .int .i64 b.b, .int .i64 b.t, .int .i64 b.m, .int .i64 b.p, .int .i64 b.c, .int .i64 b.s, .int .i64 b.k] 23)).alloc (.cells #[.int .i64 c.d, .int .i64 c.i, .int .i64 c.b, .int .i64 c.t, .int .i64 c.m, .int .i64 c.p, .int .i64 c.c, .int .i64 c.s, .int .i64 c.k] 23) = W0 at *
    obtain ⟨n3, hn3⟩ : ∃ n, w.heap.size + 1 + 1 = n := ⟨_, rfl⟩
    obtain ⟨n2, hn2⟩ : ∃ n, w.heap.size + 1 = n := ⟨_, rfl⟩
    obtain ⟨n1, hn1⟩ : ∃ n, w.heap.size = n := ⟨_, rfl⟩
    rw [hn3] at hR s0 s1 s2 s3 s4 s5 s6 s7 s8 ⊢
    rw [hn2] at hQ q0 q1 q2 q3 q4 q5 q6 q7 q8 ⊢
    rw [hn1] at hP p0 p1 p2 p3 p4 p5 p6 p7 p8 ⊢
    clear hn1 hn2 hn3
    refine (HXY.out _).mono ?_
    rintro r v ⟨rfl, hb⟩
    replace hP := hP.below hb
    replace hQ := hQ.below hb
    replace hR := hR.below hb
    replace hB := hB.trans (hb.mono hB.size)
    clear hb
    clear p0 p1 p2 p3 p4 p5 p6 p7 p8 q0 q1 q2 q3 q4 q5 q6 q7 q8 s0 s1 s2 s3 s4 s5 s6 s7 s8
    obtain ⟨p0, p1, p2, p3, p4, p5, p6, p7, p8⟩ := rpIn9 hP
    obtain ⟨q0, q1, q2, q3, q4, q5, q6, q7, q8⟩ := rpIn9 hQ
    obtain ⟨s0, s1, s2, s3, s4, s5, s6, s7, s8⟩ := rpIn9 hR
    go_wp2_with fail
    refine (HYX.out _).mono ?_
    rintro r v ⟨rfl, hb⟩
    replace hP := hP.below hb
    replace hQ := hQ.below hb
    replace hR := hR.below hb
    replace hB := hB.trans (hb.mono hB.size)
    clear hb
    clear p0 p1 p2 p3 p4 p5 p6 p7 p8 q0 q1 q2 q3 q4 q5 q6 q7 q8 s0 s1 s2 s3 s4 s5 s6 s7 s8
    obtain ⟨p0, p1, p2, p3, p4, p5, p6, p7, p8⟩ := rpIn9 hP
    obtain ⟨q0, q1, q2, q3, q4, q5, q6, q7, q8⟩ := rpIn9 hQ
    obtain ⟨s0, s1, s2, s3, s4, s5, s6, s7, s8⟩ := rpIn9 hR
    go_wp2_with fail
    refine (HAA.out _).mono ?_
    rintro r v ⟨rfl, hb⟩
    replace hP := hP.below hb
    replace hQ := hQ.below hb
    replace hR := hR.below hb
    replace hB := hB.trans (hb.mono hB.size)
    clear hb
    clear p0 p1 p2 p3 p4 p5 p6 p7 p8 q0 q1 q2 q3 q4 q5 q6 q7 q8 s0 s1 s2 s3 s4 s5 s6 s7 s8
    obtain ⟨p0, p1, p2, p3, p4, p5, p6, p7, p8⟩ := rpIn9 hP
    obtain ⟨q0, q1, q2, q3, q4, q5, q6, q7, q8⟩ := rpIn9 hQ
    obtain ⟨s0, s1, s2, s3, s4, s5, s6, s7, s8⟩ := rpIn9 hR
    go_wp2_with fail
    refine (HW.out _).mono ?_
    rintro r v ⟨rfl, hb⟩
    replace hP := hP.below hb
    replace hQ := hQ.below hb
    replace hR := hR.below hb
    replace hB := hB.trans (hb.mono hB.size)
    clear hb
    clear p0 p1 p2 p3 p4 p5 p6 p7 p8 q0 q1 q2 q3 q4 q5 q6 q7 q8 s0 s1 s2 s3 s4 s5 s6 s7 s8
    obtain ⟨p0, p1, p2, p3, p4, p5, p6, p7, p8⟩ := rpIn9 hP
    obtain ⟨q0, q1, q2, q3, q4, q5, q6, q7, q8⟩ := rpIn9 hQ
    obtain ⟨s0, s1, s2, s3, s4, s5, s6, s7, s8⟩ := rpIn9 hR
    go_wp2_with fail
    refine (HXY.out _).mono ?_
    rintro r v ⟨rfl, hb⟩
    replace hP := hP.below hb
    replace hQ := hQ.below hb
    replace hR := hR.below hb
    replace hB := hB.trans (hb.mono hB.size)
    clear hb
    clear p0 p1 p2 p3 p4 p5 p6 p7 p8 q0 q1 q2 q3 q4 q5 q6 q7 q8 s0 s1 s2 s3 s4 s5 s6 s7 s8
    obtain ⟨p0, p1, p2, p3, p4, p5, p6, p7, p8⟩ := rpIn9 hP
    obtain ⟨q0, q1, q2, q3, q4, q5, q6, q7, q8⟩ := rpIn9 hQ
    obtain ⟨s0, s1, s2, s3, s4, s5, s6, s7, s8⟩ := rpIn9 hR
    go_wp2_with fail
    refine (HXY.out _).mono ?_
    rintro r v ⟨rfl, hb⟩
    replace hP := hP.below hb
    replace hQ := hQ.below hb
    replace hR := hR.below hb
    replace hB := hB.trans (hb.mono hB.size)
    clear hb
    clear p0 p1 p2 p3 p4 p5 p6 p7 p8 q0 q1 q2 q3 q4 q5 q6 q7 q8 s0 s1 s2 s3 s4 s5 s6 s7 s8
    obtain ⟨p0, p1, p2, p3, p4, p5, p6, p7, p8⟩ := rpIn9 hP
    obtain ⟨q0, q1, q2, q3, q4, q5, q6, q7, q8⟩ := rpIn9 hQ
    obtain ⟨s0, s1, s2, s3, s4, s5, s6, s7, s8⟩ := rpIn9 hR
    go_wp2_with fail
    refine (HBC.out _).mono ?_
    rintro r v ⟨rfl, hb⟩
    replace hP := hP.below hb
    replace hQ := hQ.below hb
    replace hR := hR.below hb
    replace hB := hB.trans (hb.mono hB.size)
    clear hb
    clear p0 p1 p2 p3 p4 p5 p6 p7 p8 q0 q1 q2 q3 q4 q5 q6 q7 q8 s0 s1 s2 s3 s4 s5 s6 s7 s8
    obtain ⟨p0, p1, p2, p3, p4, p5, p6, p7, p8⟩ := rpIn9 hP
    obtain ⟨q0, q1, q2, q3, q4, q5, q6, q7, q8⟩ := rpIn9 hQ
    obtain ⟨s0, s1, s2, s3, s4, s5, s6, s7, s8⟩ := rpIn9 hR
    go_wp2_with fail
    go_ret
    exact ⟨rfl, hB⟩
  · skip
    obtain ⟨p0, p1, p2, p3, p4, p5, p6, p7, p8⟩ := rpIn9 hP
    obtain ⟨q0, q1, q2, q3, q4, q5, q6, q7, q8⟩ := rpIn9 hQ
    obtain ⟨s0, s1, s2, s3, s4, s5, s6, s7, s8⟩ := rpIn9 hR
    go_enter Try.func7, Try.ntmps7
    go_wp2_with fail
    generalize ((w.alloc (.cells #[.int .i64 a.d, .int .i64 a.i, .int .i64 a.b, .int .i64 a.t, .int .i64 a.m, .int .i64 a.p, .int .i64 a.c, .int .i64 a.s, .int .i64 a.k] 23)).alloc (.cells #[.int .i64 b.d, .int .i64 b.i, .int .i64 b.b, .int .i64 b.t, .int .i64 b.m, .int .i64 b.p, .int .i64 b.c, .int .i64 b.s, .int .i64 b.k] 23)).alloc (.cells #[.int .i64 c.d, .int .i64 c.i, .int .i64 c.b, .int .i64 c.t, .int .i64 c.m, .int .i64 c.p, .int .i64 c.c, .int .i64 c.s, .int .i64 c.k] 23) = W0 at *
    obtain ⟨n3, hn3⟩ : ∃ n, w.heap.size + 1 + 1 = n := ⟨_, rfl⟩
    obtain ⟨n2, hn2⟩ : ∃ n, w.heap.size + 1 = n := ⟨_, rfl⟩
    obtain ⟨n1, hn1⟩ : ∃ n, w.heap.size = n := ⟨_, rfl⟩
    rw [hn3] at hR s0 s1 s2 s3 s4 s5 s6 s7 s8 ⊢
    rw [hn2] at hQ q0 q1 q2 q3 q4 q5 q6 q7 q8 ⊢
    rw [hn1] at hP p0 p1 p2 p3 p4 p5 p6 p7 p8 ⊢
    clear hn1 hn2 hn3
    refine (HXY.out _).mono ?_
    rintro r v ⟨rfl, hb⟩
    replace hP := hP.below hb
    replace hQ := hQ.below hb
    replace hR := hR.below hb
    replace hB := hB.trans (hb.mono hB.size)
    clear hb
    clear p0 p1 p2 p3 p4 p5 p6 p7 p8 q0 q1 q2 q3 q4 q5 q6 q7 q8 s0 s1 s2 s3 s4 s5 s6 s7 s8
    obtain ⟨p0, p1, p2, p3, p4, p5, p6, p7, p8⟩ := rpIn9 hP
    obtain ⟨q0, q1, q2, q3, q4, q5, q6, q7, q8⟩ := rpIn9 hQ
    obtain ⟨s0, s1, s2, s3, s4, s5, s6, s7, s8⟩ := rpIn9 hR
    go_wp2_with fail
    refine (HYX.out _).mono ?_
    rintro r v ⟨rfl, hb⟩
    replace hP := hP.below hb
    replace hQ := hQ.below hb
    replace hR := hR.below hb
    replace hB := hB.trans (hb.mono hB.size)
    clear hb
    clear p0 p1 p2 p3 p4 p5 p6 p7 p8 q0 q1 q2 q3 q4 q5 q6 q7 q8 s0 s1 s2 s3 s4 s5 s6 s7 s8
    obtain ⟨p0, p1, p2, p3, p4, p5, p6, p7, p8⟩ := rpIn9 hP
    obtain ⟨q0, q1, q2, q3, q4, q5, q6, q7, q8⟩ := rpIn9 hQ
    obtain ⟨s0, s1, s2, s3, s4, s5, s6, s7, s8⟩ := rpIn9 hR
    go_wp2_with fail
    refine (HAA.out _).mono ?_
    rintro r v ⟨rfl, hb⟩
    replace hP := hP.below hb
    replace hQ := hQ.below hb
    replace hR := hR.below hb
    replace hB := hB.trans (hb.mono hB.size)
    clear hb
    clear p0 p1 p2 p3 p4 p5 p6 p7 p8 q0 q1 q2 q3 q4 q5 q6 q7 q8 s0 s1 s2 s3 s4 s5 s6 s7 s8
    obtain ⟨p0, p1, p2, p3, p4, p5, p6, p7, p8⟩ := rpIn9 hP
    obtain ⟨q0, q1, q2, q3, q4, q5, q6, q7, q8⟩ := rpIn9 hQ
    obtain ⟨s0, s1, s2, s3, s4, s5, s6, s7, s8⟩ := rpIn9 hR
    go_wp2_with fail
    refine (HW.out _).mono ?_
    rintro r v ⟨rfl, hb⟩
    replace hP := hP.below hb
    replace hQ := hQ.below hb
    replace hR := hR.below hb
    replace hB := hB.trans (hb.mono hB.size)
    clear hb
    clear p0 p1 p2 p3 p4 p5 p6 p7 p8 q0 q1 q2 q3 q4 q5 q6 q7 q8 s0 s1 s2 s3 s4 s5 s6 s7 s8
    obtain ⟨p0, p1, p2, p3, p4, p5, p6, p7, p8⟩ := rpIn9 hP
    obtain ⟨q0, q1, q2, q3, q4, q5, q6, q7, q8⟩ := rpIn9 hQ
    obtain ⟨s0, s1, s2, s3, s4, s5, s6, s7, s8⟩ := rpIn9 hR
    go_wp2_with fail
    refine (HXY.out _).mono ?_
    rintro r v ⟨rfl, hb⟩
    replace hP := hP.below hb
    replace hQ := hQ.below hb
    replace hR := hR.below hb
    replace hB := hB.trans (hb.mono hB.size)
    clear hb
    clear p0 p1 p2 p3 p4 p5 p6 p7 p8 q0 q1 q2 q3 q4 q5 q6 q7 q8 s0 s1 s2 s3 s4 s5 s6 s7 s8
    obtain ⟨p0, p1, p2, p3, p4, p5, p6, p7, p8⟩ := rpIn9 hP
    obtain ⟨q0, q1, q2, q3, q4, q5, q6, q7, q8⟩ := rpIn9 hQ
    obtain ⟨s0, s1, s2, s3, s4, s5, s6, s7, s8⟩ := rpIn9 hR
    go_wp2_with fail
    refine (HXY.out _).mono ?_
    rintro r v ⟨rfl, hb⟩
    replace hP := hP.below hb
    replace hQ := hQ.below hb
    replace hR := hR.below hb
    replace hB := hB.trans (hb.mono hB.size)
    clear hb
    clear p0 p1 p2 p3 p4 p5 p6 p7 p8 q0 q1 q2 q3 q4 q5 q6 q7 q8 s0 s1 s2 s3 s4 s5 s6 s7 s8
    obtain ⟨p0, p1, p2, p3, p4, p5, p6, p7, p8⟩ := rpIn9 hP
    obtain ⟨q0, q1, q2, q3, q4, q5, q6, q7, q8⟩ := rpIn9 hQ
    obtain ⟨s0, s1, s2, s3, s4, s5, s6, s7, s8⟩ := rpIn9 hR
    go_wp2_with fail
    refine (HBC.out _).mono ?_
    rintro r v ⟨rfl, hb⟩
    replace hP := hP.below hb
    replace hQ := hQ.below hb
    replace hR := hR.below hb
    replace hB := hB.trans (hb.mono hB.size)
    clear hb
    clear p0 p1 p2 p3 p4 p5 p6 p7 p8 q0 q1 q2 q3 q4 q5 q6 q7 q8 s0 s1 s2 s3 s4 s5 s6 s7 s8
    obtain ⟨p0, p1, p2, p3, p4, p5, p6, p7, p8⟩ := rpIn9 hP
    obtain ⟨q0, q1, q2, q3, q4, q5, q6, q7, q8⟩ := rpIn9 hQ
    obtain ⟨s0, s1, s2, s3, s4, s5, s6, s7, s8⟩ := rpIn9 hR
    go_wp2_with fail
    go_ret
    exact ⟨rfl, hB⟩
  · skip
    obtain ⟨p0, p1, p2, p3, p4, p5, p6, p7, p8⟩ := rpIn9 hP
    obtain ⟨q0, q1, q2, q3, q4, q5, q6, q7, q8⟩ := rpIn9 hQ
    obtain ⟨s0, s1, s2, s3, s4, s5, s6, s7, s8⟩ := rpIn9 hR
    go_enter Try.func7, Try.ntmps7
    go_wp2_with fail
    generalize ((w.alloc (.cells #[.int .i64 a.d, .int .i64 a.i, .int .i64 a.b, .int .i64 a.t, .int .i64 a.m, .int .i64 a.p, .int .i64 a.c, .int .i64 a.s, .int .i64 a.k] 23)).alloc (.cells #[.int .i64 b.d, .int .i64 b.i, .int .i64 b.b, .int .i64 b.t, .int .i64 b.m, .int .i64 b.p, .int .i64 b.c, .int .i64 b.s, .int .i64 b.k] 23)).alloc (.cells #[.int .i64 c.d, .int .i64 c.i, .int .i64 c.b, .int .i64 c.t, .int .i64 c.m, .int .i64 c.p, .int .i64 c.c, .int .i64 c.s, .int .i64 c.k] 23) = W0 at *
    obtain ⟨n3, hn3⟩ : ∃ n, w.heap.size + 1 + 1 = n := ⟨_, rfl⟩
    obtain ⟨n2, hn2⟩ : ∃ n, w.heap.size + 1 = n := ⟨_, rfl⟩
    obtain ⟨n1, hn1⟩ : ∃ n, w.heap.size = n := ⟨_, rfl⟩
    rw [hn3] at hR s0 s1 s2 s3 s4 s5 s6 s7 s8 ⊢
    rw [hn2] at hQ q0 q1 q2 q3 q4 q5 q6 q7 q8 ⊢
    rw [hn1] at hP p0 p1 p2 p3 p4 p5 p6 p7 p8 ⊢
    clear hn1 hn2 hn3
    refine (HXY.out _).mono ?_
    rintro r v ⟨rfl, hb⟩
    replace hP := hP.below hb
    replace hQ := hQ.below hb
    replace hR := hR.below hb
    replace hB := hB.trans (hb.mono hB.size)
    clear hb
    clear p0 p1 p2 p3 p4 p5 p6 p7 p8 q0 q1 q2 q3 q4 q5 q6 q7 q8 s0 s1 s2 s3 s4 s5 s6 s7 s8
    obtain ⟨p0, p1, p2, p3, p4, p5, p6, p7, p8⟩ := rpIn9 hP
    obtain ⟨q0, q1, q2, q3, q4, q5, q6, q7, q8⟩ := rpIn9 hQ
    obtain ⟨s0, s1, s2, s3, s4, s5, s6, s7, s8⟩ := rpIn9 hR
    go_wp2_with fail
    refine (HYX.out _).mono ?_
    rintro r v ⟨rfl, hb⟩
    replace hP := hP.below hb
    replace hQ := hQ.below hb
    replace hR := hR.below hb
    replace hB := hB.trans (hb.mono hB.size)
    clear hb
    clear p0 p1 p2 p3 p4 p5 p6 p7 p8 q0 q1 q2 q3 q4 q5 q6 q7 q8 s0 s1 s2 s3 s4 s5 s6 s7 s8
    obtain ⟨p0, p1, p2, p3, p4, p5, p6, p7, p8⟩ := rpIn9 hP
    obtain ⟨q0, q1, q2, q3, q4, q5, q6, q7, q8⟩ := rpIn9 hQ
    obtain ⟨s0, s1, s2, s3, s4, s5, s6, s7, s8⟩ := rpIn9 hR
    go_wp2_with fail
    refine (HAA.out _).mono ?_
    rintro r v ⟨rfl, hb⟩
    replace hP := hP.below hb
    replace hQ := hQ.below hb
    replace hR := hR.below hb
    replace hB := hB.trans (hb.mono hB.size)
    clear hb
    clear p0 p1 p2 p3 p4 p5 p6 p7 p8 q0 q1 q2 q3 q4 q5 q6 q7 q8 s0 s1 s2 s3 s4 s5 s6 s7 s8
    obtain ⟨p0, p1, p2, p3, p4, p5, p6, p7, p8⟩ := rpIn9 hP
    obtain ⟨q0, q1, q2, q3, q4, q5, q6, q7, q8⟩ := rpIn9 hQ
    obtain ⟨s0, s1, s2, s3, s4, s5, s6, s7, s8⟩ := rpIn9 hR
    go_wp2_with fail
    refine (HW.out _).mono ?_
    rintro r v ⟨rfl, hb⟩
    replace hP := hP.below hb
    replace hQ := hQ.below hb
    replace hR := hR.below hb
    replace hB := hB.trans (hb.mono hB.size)
    clear hb
    clear p0 p1 p2 p3 p4 p5 p6 p7 p8 q0 q1 q2 q3 q4 q5 q6 q7 q8 s0 s1 s2 s3 s4 s5 s6 s7 s8
    obtain ⟨p0, p1, p2, p3, p4, p5, p6, p7, p8⟩ := rpIn9 hP
    obtain ⟨q0, q1, q2, q3, q4, q5, q6, q7, q8⟩ := rpIn9 hQ
    obtain ⟨s0, s1, s2, s3, s4, s5, s6, s7, s8⟩ := rpIn9 hR
    go_wp2_with fail
    refine (HXY.out _).mono ?_
    rintro r v ⟨rfl, hb⟩
    replace hP := hP.below hb
    replace hQ := hQ.below hb
    replace hR := hR.below hb
    replace hB := hB.trans (hb.mono hB.size)
    clear hb
    clear p0 p1 p2 p3 p4 p5 p6 p7 p8 q0 q1 q2 q3 q4 q5 q6 q7 q8 s0 s1 s2 s3 s4 s5 s6 s7 s8
    obtain ⟨p0, p1, p2, p3, p4, p5, p6, p7, p8⟩ := rpIn9 hP
    obtain ⟨q0, q1, q2, q3, q4, q5, q6, q7, q8⟩ := rpIn9 hQ
    obtain ⟨s0, s1, s2, s3, s4, s5, s6, s7, s8⟩ := rpIn9 hR
    go_wp2_with fail
    refine (HXY.out _).mono ?_
    rintro r v ⟨rfl, hb⟩
    replace hP := hP.below hb
    replace hQ := hQ.below hb
    replace hR := hR.below hb
    replace hB := hB.trans (hb.mono hB.size)
    clear hb
    clear p0 p1 p2 p3 p4 p5 p6 p7 p8 q0 q1 q2 q3 q4 q5 q6 q7 q8 s0 s1 s2 s3 s4 s5 s6 s7 s8
    obtain ⟨p0, p1, p2, p3, p4, p5, p6, p7, p8⟩ := rpIn9 hP
    obtain ⟨q0, q1, q2, q3, q4, q5, q6, q7, q8⟩ := rpIn9 hQ
    obtain ⟨s0, s1, s2, s3, s4, s5, s6, s7, s8⟩ := rpIn9 hR
    go_wp2_with fail
    refine (HBC.out _).mono ?_
    rintro r v ⟨rfl, hb⟩
    replace hP := hP.below hb
    replace hQ := hQ.below hb
    replace hR := hR.below hb
    replace hB := hB.trans (hb.mono hB.size)
    clear hb
    clear p0 p1 p2 p3 p4 p5 p6 p7 p8 q0 q1 q2 q3 q4 q5 q6 q7 q8 s0 s1 s2 s3 s4 s5 s6 s7 s8
    obtain ⟨p0, p1, p2, p3, p4, p5, p6, p7, p8⟩ := rpIn9 hP
    obtain ⟨q0, q1, q2, q3, q4, q5, q6, q7, q8⟩ := rpIn9 hQ
    obtain ⟨s0, s1, s2, s3, s4, s5, s6, s7, s8⟩ := rpIn9 hR
    go_wp2_with fail
    go_ret
    exact ⟨rfl, hB⟩
  · cases h
set_option maxRecDepth 100000 in
set_option maxHeartbeats 2000000 in
theorem order14_chain (H : ReportCalls) (a b c : Rp) (w : World) (hx : newB a b = true) (hy : newB b a = false) (hz : newB b c = true) (hu : newB a c = true) (e : Hid (unlikeR a b false)) : Calls Try.prog 7 #[.agg #[.int .i64 a.d, .int .i64 a.i, .int .i64 a.b, .int .i64 a.t, .int .i64 a.m, .int .i64 a.p, .int .i64 a.c, .int .i64 a.s, .int .i64 a.k], .agg #[.int .i64 b.d, .int .i64 b.i, .int .i64 b.b, .int .i64 b.t, .int .i64 b.m, .int .i64 b.p, .int .i64 b.c, .int .i64 b.s, .int .i64 b.k], .agg #[.int .i64 c.d, .int .i64 c.i, .int .i64 c.b, .int .i64 c.t, .int .i64 c.m, .int .i64 c.p, .int .i64 c.c, .int .i64 c.s, .int .i64 c.k]] w fun r w' => r = .returned (.bool true) ∧ Below w.heap.size w w' := by
  have hP : rpE.In (((w.alloc (.cells #[.int .i64 a.d, .int .i64 a.i, .int .i64 a.b, .int .i64 a.t, .int .i64 a.m, .int .i64 a.p, .int .i64 a.c, .int .i64 a.s, .int .i64 a.k] 23)).alloc (.cells #[.int .i64 b.d, .int .i64 b.i, .int .i64 b.b, .int .i64 b.t, .int .i64 b.m, .int .i64 b.p, .int .i64 b.c, .int .i64 b.s, .int .i64 b.k] 23)).alloc (.cells #[.int .i64 c.d, .int .i64 c.i, .int .i64 c.b, .int .i64 c.t, .int .i64 c.m, .int .i64 c.p, .int .i64 c.c, .int .i64 c.s, .int .i64 c.k] 23)) w.heap.size a := ((El.In.new (E := rpE) w a _ rfl).alloc _).alloc _
  have hQ : rpE.In (((w.alloc (.cells #[.int .i64 a.d, .int .i64 a.i, .int .i64 a.b, .int .i64 a.t, .int .i64 a.m, .int .i64 a.p, .int .i64 a.c, .int .i64 a.s, .int .i64 a.k] 23)).alloc (.cells #[.int .i64 b.d, .int .i64 b.i, .int .i64 b.b, .int .i64 b.t, .int .i64 b.m, .int .i64 b.p, .int .i64 b.c, .int .i64 b.s, .int .i64 b.k] 23)).alloc (.cells #[.int .i64 c.d, .int .i64 c.i, .int .i64 c.b, .int .i64 c.t, .int .i64 c.m, .int .i64 c.p, .int .i64 c.c, .int .i64 c.s, .int .i64 c.k] 23)) (w.alloc (.cells #[.int .i64 a.d, .int .i64 a.i, .int .i64 a.b, .int .i64 a.t, .int .i64 a.m, .int .i64 a.p, .int .i64 a.c, .int .i64 a.s, .int .i64 a.k] 23)).heap.size b := (El.In.new (E := rpE) (w.alloc (.cells #[.int .i64 a.d, .int .i64 a.i, .int .i64 a.b, .int .i64 a.t, .int .i64 a.m, .int .i64 a.p, .int .i64 a.c, .int .i64 a.s, .int .i64 a.k] 23)) b _ rfl).alloc _
  have hR : rpE.In (((w.alloc (.cells #[.int .i64 a.d, .int .i64 a.i, .int .i64 a.b, .int .i64 a.t, .int .i64 a.m, .int .i64 a.p, .int .i64 a.c, .int .i64 a.s, .int .i64 a.k] 23)).alloc (.cells #[.int .i64 b.d, .int .i64 b.i, .int .i64 b.b, .int .i64 b.t, .int .i64 b.m, .int .i64 b.p, .int .i64 b.c, .int .i64 b.s, .int .i64 b.k] 23)).alloc (.cells #[.int .i64 c.d, .int .i64 c.i, .int .i64 c.b, .int .i64 c.t, .int .i64 c.m, .int .i64 c.p, .int .i64 c.c, .int .i64 c.s, .int .i64 c.k] 23)) ((w.alloc (.cells #[.int .i64 a.d, .int .i64 a.i, .int .i64 a.b, .int .i64 a.t, .int .i64 a.m, .int .i64 a.p, .int .i64 a.c, .int .i64 a.s, .int .i64 a.k] 23)).alloc (.cells #[.int .i64 b.d, .int .i64 b.i, .int .i64 b.b, .int .i64 b.t, .int .i64 b.m, .int .i64 b.p, .int .i64 b.c, .int .i64 b.s, .int .i64 b.k] 23)).heap.size c := El.In.new (E := rpE) ((w.alloc (.cells #[.int .i64 a.d, .int .i64 a.i, .int .i64 a.b, .int .i64 a.t, .int .i64 a.m, .int .i64 a.p, .int .i64 a.c, .int .i64 a.s, .int .i64 a.k] 23)).alloc (.cells #[.int .i64 b.d, .int .i64 b.i, .int .i64 b.b, .int .i64 b.t, .int .i64 b.m, .int .i64 b.p, .int .i64 b.c, .int .i64 b.s, .int .i64 b.k] 23)) c _ rfl
  rw [alloc_size] at hQ
  rw [alloc_size, alloc_size] at hR
  have hB := below_alloc (below_alloc (below_alloc (Below.refl w.heap.size w) (.cells #[.int .i64 a.d, .int .i64 a.i, .int .i64 a.b, .int .i64 a.t, .int .i64 a.m, .int .i64 a.p, .int .i64 a.c, .int .i64 a.s, .int .i64 a.k] 23)) (.cells #[.int .i64 b.d, .int .i64 b.i, .int .i64 b.b, .int .i64 b.t, .int .i64 b.m, .int .i64 b.p, .int .i64 b.c, .int .i64 b.s, .int .i64 b.k] 23)) (.cells #[.int .i64 c.d, .int .i64 c.i, .int .i64 c.b, .int .i64 c.t, .int .i64 c.m, .int .i64 c.p, .int .i64 c.c, .int .i64 c.s, .int .i64 c.k] 23)
  have HW := Lib.hid (fun (wx : World) => awake14_any H wx)
  have HXY := Lib.hid (fun (wx : World) => H.newer a b wx)
  have HYX := Lib.hid (fun (wx : World) => H.newer b a wx)
  have HAA := Lib.hid (fun (wx : World) => H.newer a a wx)
  have HBC := Lib.hid (fun (wx : World) => H.newer b c wx)
  have HAC := Lib.hid (fun (wx : World) => H.newer a c wx)
  rw [newB_self] at HAA
  rw [hx] at HXY
  rw [hy] at HYX
  rw [hz] at HBC
  rw [hu] at HAC
  clear hx hy hz hu
  rcases e.out with ⟨e1, _⟩ | ⟨e1, e2, _⟩ | ⟨e1, e2, e3, _⟩ | ⟨_, _, _, h⟩
  · skip
    obtain ⟨p0, p1, p2, p3, p4, p5, p6, p7, p8⟩ := rpIn9 hP
    obtain ⟨q0, q1, q2, q3, q4, q5, q6, q7, q8⟩ := rpIn9 hQ
    obtain ⟨s0, s1, s2, s3, s4, s5, s6, s7, s8⟩ := rpIn9 hR
    go_enter Try.func7, Try.ntmps7
    go_wp2_with fail
    generalize ((w.alloc (.cells #[.int .i64 a.d, .int .i64 a.i, .int .i64 a.b, .int .i64 a.t, .int .i64 a.m, .int .i64 a.p, .int .i64 a.c, .int .i64 a.s, .int .i64 a.k] 23)).alloc (.cells #[.int .i64 b.d, .int .i64 b.i, .int .i64 b.b, .int .i64 b.t, .int .i64 b.m, .int .i64 b.p, .int .i64 b.c, .int .i64 b.s, .int .i64 b.k] 23)).alloc (.cells #[.int .i64 c.d, .int .i64 c.i, .int .i64 c.b, .int .i64 c.t, .int .i64 c.m, .int .i64 c.p, .int .i64 c.c, .int .i64 c.s, .int .i64 c.k] 23) = W0 at *
    obtain ⟨n3, hn3⟩ : ∃ n, w.heap.size + 1 + 1 = n := ⟨_, rfl⟩
    obtain ⟨n2, hn2⟩ : ∃ n, w.heap.size + 1 = n := ⟨_, rfl⟩
    obtain ⟨n1, hn1⟩ : ∃ n, w.heap.size = n := ⟨_, rfl⟩
    rw [hn3] at hR s0 s1 s2 s3 s4 s5 s6 s7 s8 ⊢
    rw [hn2] at hQ q0 q1 q2 q3 q4 q5 q6 q7 q8 ⊢
    rw [hn1] at hP p0 p1 p2 p3 p4 p5 p6 p7 p8 ⊢
    clear hn1 hn2 hn3
    refine (HXY.out _).mono ?_
    rintro r v ⟨rfl, hb⟩
    replace hP := hP.below hb
    replace hQ := hQ.below hb
    replace hR := hR.below hb
    replace hB := hB.trans (hb.mono hB.size)
    clear hb
    clear p0 p1 p2 p3 p4 p5 p6 p7 p8 q0 q1 q2 q3 q4 q5 q6 q7 q8 s0 s1 s2 s3 s4 s5 s6 s7 s8
    obtain ⟨p0, p1, p2, p3, p4, p5, p6, p7, p8⟩ := rpIn9 hP
    obtain ⟨q0, q1, q2, q3, q4, q5, q6, q7, q8⟩ := rpIn9 hQ
    obtain ⟨s0, s1, s2, s3, s4, s5, s6, s7, s8⟩ := rpIn9 hR
    go_wp2_with fail
    refine (HYX.out _).mono ?_
    rintro r v ⟨rfl, hb⟩
    replace hP := hP.below hb
    replace hQ := hQ.below hb
    replace hR := hR.below hb
    replace hB := hB.trans (hb.mono hB.size)
    clear hb
    clear p0 p1 p2 p3 p4 p5 p6 p7 p8 q0 q1 q2 q3 q4 q5 q6 q7 q8 s0 s1 s2 s3 s4 s5 s6 s7 s8
    obtain ⟨p0, p1, p2, p3, p4, p5, p6, p7, p8⟩ := rpIn9 hP
    obtain ⟨q0, q1, q2, q3, q4, q5, q6, q7, q8⟩ := rpIn9 hQ
    obtain ⟨s0, s1, s2, s3, s4, s5, s6, s7, s8⟩ := rpIn9 hR
    go_wp2_with fail
    refine (HAA.out _).mono ?_
    rintro r v ⟨rfl, hb⟩
    replace hP := hP.below hb
    replace hQ := hQ.below hb
    replace hR := hR.below hb
    replace hB := hB.trans (hb.mono hB.size)
    clear hb
    clear p0 p1 p2 p3 p4 p5 p6 p7 p8 q0 q1 q2 q3 q4 q5 q6 q7 q8 s0 s1 s2 s3 s4 s5 s6 s7 s8
    obtain ⟨p0, p1, p2, p3, p4, p5, p6, p7, p8⟩ := rpIn9 hP
    obtain ⟨q0, q1, q2, q3, q4, q5, q6, q7, q8⟩ := rpIn9 hQ
    obtain ⟨s0, s1, s2, s3, s4, s5, s6, s7, s8⟩ := rpIn9 hR
    go_wp2_with fail
    refine (HW.out _).mono ?_
    rintro r v ⟨rfl, hb⟩
    replace hP := hP.below hb
    replace hQ := hQ.below hb
    replace hR := hR.below hb
    replace hB := hB.trans (hb.mono hB.size)
    clear hb
    clear p0 p1 p2 p3 p4 p5 p6 p7 p8 q0 q1 q2 q3 q4 q5 q6 q7 q8 s0 s1 s2 s3 s4 s5 s6 s7 s8
    obtain ⟨p0, p1, p2, p3, p4, p5, p6, p7, p8⟩ := rpIn9 hP
    obtain ⟨q0, q1, q2, q3, q4, q5, q6, q7, q8⟩ := rpIn9 hQ
    obtain ⟨s0, s1, s2, s3, s4, s5, s6, s7, s8⟩ := rpIn9 hR
    go_wp2_with fail
    refine (HXY.out _).mono ?_
    rintro r v ⟨rfl, hb⟩
    replace hP := hP.below hb
    replace hQ := hQ.below hb
    replace hR := hR.below hb
    replace hB := hB.trans (hb.mono hB.size)
    clear hb
    clear p0 p1 p2 p3 p4 p5 p6 p7 p8 q0 q1 q2 q3 q4 q5 q6 q7 q8 s0 s1 s2 s3 s4 s5 s6 s7 s8
    obtain ⟨p0, p1, p2, p3, p4, p5, p6, p7, p8⟩ := rpIn9 hP
    obtain ⟨q0, q1, q2, q3, q4, q5, q6, q7, q8⟩ := rpIn9 hQ
    obtain ⟨s0, s1, s2, s3, s4, s5, s6, s7, s8⟩ := rpIn9 hR
    go_wp2_with fail
    refine (HXY.out _).mono ?_
    rintro r v ⟨rfl, hb⟩
    replace hP := hP.below hb
    replace hQ := hQ.below hb
    replace hR := hR.below hb
    replace hB := hB.trans (hb.mono hB.size)
    clear hb
    clear p0 p1 p2 p3 p4 p5 p6 p7 p8 q0 q1 q2 q3 q4 q5 q6 q7 q8 s0 s1 s2 s3 s4 s5 s6 s7 s8
    obtain ⟨p0, p1, p2, p3, p4, p5, p6, p7, p8⟩ := rpIn9 hP
    obtain ⟨q0, q1, q2, q3, q4, q5, q6, q7, q8⟩ := rpIn9 hQ
    obtain ⟨s0, s1, s2, s3, s4, s5, s6, s7, s8⟩ := rpIn9 hR
    go_wp2_with fail
    refine (HBC.out _).mono ?_
    rintro r v ⟨rfl, hb⟩
    replace hP := hP.below hb
    replace hQ := hQ.below hb
    replace hR := hR.below hb
    replace hB := hB.trans (hb.mono hB.size)
    clear hb
    clear p0 p1 p2 p3 p4 p5 p6 p7 p8 q0 q1 q2 q3 q4 q5 q6 q7 q8 s0 s1 s2 s3 s4 s5 s6 s7 s8
    obtain ⟨p0, p1, p2, p3, p4, p5, p6, p7, p8⟩ := rpIn9 hP
    obtain ⟨q0, q1, q2, q3, q4, q5, q6, q7, q8⟩ := rpIn9 hQ
    obtain ⟨s0, s1, s2, s3, s4, s5, s6, s7, s8⟩ := rpIn9 hR
    go_wp2_with fail
    refine (HAC.out _).mono ?_
    rintro r v ⟨rfl, hb⟩
    replace hP := hP.below hb
    replace hQ := hQ.below hb
    replace hR := hR.below hb
    replace hB := hB.trans (hb.mono hB.size)
    clear hb
    clear p0 p1 p2 p3 p4 p5 p6 p7 p8 q0 q1 q2 q3 q4 q5 q6 q7 q8 s0 s1 s2 s3 s4 s5 s6 s7 s8
    obtain ⟨p0, p1, p2, p3, p4, p5, p6, p7, p8⟩ := rpIn9 hP
    obtain ⟨q0, q1, q2, q3, q4, q5, q6, q7, q8⟩ := rpIn9 hQ
    obtain ⟨s0, s1, s2, s3, s4, s5, s6, s7, s8⟩ := rpIn9 hR
    go_wp2_with fail
    go_ret
    exact ⟨rfl, hB⟩
  · skip
    obtain ⟨p0, p1, p2, p3, p4, p5, p6, p7, p8⟩ := rpIn9 hP
    obtain ⟨q0, q1, q2, q3, q4, q5, q6, q7, q8⟩ := rpIn9 hQ
    obtain ⟨s0, s1, s2, s3, s4, s5, s6, s7, s8⟩ := rpIn9 hR
    go_enter Try.func7, Try.ntmps7
    go_wp2_with fail
    generalize ((w.alloc (.cells #[.int .i64 a.d, .int .i64 a.i, .int .i64 a.b, .int .i64 a.t, .int .i64 a.m, .int .i64 a.p, .int .i64 a.c, .int .i64 a.s, .int .i64 a.k] 23)).alloc (.cells #[.int .i64 b.d, .int .i64 b.i, .int .i64 b.b, .int .i64 b.t, .int .i64 b.m, .int .i64 b.p, .int .i64 b.c, .int .i64 b.s, .int .i64 b.k] 23)).alloc (.cells #[.int .i64 c.d, .int .i64 c.i, .int .i64 c.b, .int .i64 c.t, .int .i64 c.m, .int .i64 c.p, .int .i64 c.c, .int .i64 c.s, .int .i64 c.k] 23) = W0 at *
    obtain ⟨n3, hn3⟩ : ∃ n, w.heap.size + 1 + 1 = n := ⟨_, rfl⟩
    obtain ⟨n2, hn2⟩ : ∃ n, w.heap.size + 1 = n := ⟨_, rfl⟩
    obtain ⟨n1, hn1⟩ : ∃ n, w.heap.size = n := ⟨_, rfl⟩
    rw [hn3] at hR s0 s1 s2 s3 s4 s5 s6 s7 s8 ⊢
    rw [hn2] at hQ q0 q1 q2 q3 q4 q5 q6 q7 q8 ⊢
    rw [hn1] at hP p0 p1 p2 p3 p4 p5 p6 p7 p8 ⊢
    clear hn1 hn2 hn3
    refine (HXY.out _).mono ?_
    rintro r v ⟨rfl, hb⟩
    replace hP := hP.below hb
    replace hQ := hQ.below hb
    replace hR := hR.below hb
    replace hB := hB.trans (hb.mono hB.size)
    clear hb
    clear p0 p1 p2 p3 p4 p5 p6 p7 p8 q0 q1 q2 q3 q4 q5 q6 q7 q8 s0 s1 s2 s3 s4 s5 s6 s7 s8
    obtain ⟨p0, p1, p2, p3, p4, p5, p6, p7, p8⟩ := rpIn9 hP
    obtain ⟨q0, q1, q2, q3, q4, q5, q6, q7, q8⟩ := rpIn9 hQ
    obtain ⟨s0, s1, s2, s3, s4, s5, s6, s7, s8⟩ := rpIn9 hR
    go_wp2_with fail
    refine (HYX.out _).mono ?_
    rintro r v ⟨rfl, hb⟩
    replace hP := hP.below hb
    replace hQ := hQ.below hb
    replace hR := hR.below hb
    replace hB := hB.trans (hb.mono hB.size)
    clear hb
    clear p0 p1 p2 p3 p4 p5 p6 p7 p8 q0 q1 q2 q3 q4 q5 q6 q7 q8 s0 s1 s2 s3 s4 s5 s6 s7 s8
    obtain ⟨p0, p1, p2, p3, p4, p5, p6, p7, p8⟩ := rpIn9 hP
    obtain ⟨q0, q1, q2, q3, q4, q5, q6, q7, q8⟩ := rpIn9 hQ
    obtain ⟨s0, s1, s2, s3, s4, s5, s6, s7, s8⟩ := rpIn9 hR
    go_wp2_with fail
    refine (HAA.out _).mono ?_
    rintro r v ⟨rfl, hb⟩
    replace hP := hP.below hb
    replace hQ := hQ.below hb
    replace hR := hR.below hb
    replace hB := hB.trans (hb.mono hB.size)
    clear hb
    clear p0 p1 p2 p3 p4 p5 p6 p7 p8 q0 q1 q2 q3 q4 q5 q6 q7 q8 s0 s1 s2 s3 s4 s5 s6 s7 s8
    obtain ⟨p0, p1, p2, p3, p4, p5, p6, p7, p8⟩ := rpIn9 hP
    obtain ⟨q0, q1, q2, q3, q4, q5, q6, q7, q8⟩ := rpIn9 hQ
    obtain ⟨s0, s1, s2, s3, s4, s5, s6, s7, s8⟩ := rpIn9 hR
    go_wp2_with fail
    refine (HW.out _).mono ?_
    rintro r v ⟨rfl, hb⟩
    replace hP := hP.below hb
    replace hQ := hQ.below hb
    replace hR := hR.below hb
    replace hB := hB.trans (hb.mono hB.size)
    clear hb
    clear p0 p1 p2 p3 p4 p5 p6 p7 p8 q0 q1 q2 q3 q4 q5 q6 q7 q8 s0 s1 s2 s3 s4 s5 s6 s7 s8
    obtain ⟨p0, p1, p2, p3, p4, p5, p6, p7, p8⟩ := rpIn9 hP
    obtain ⟨q0, q1, q2, q3, q4, q5, q6, q7, q8⟩ := rpIn9 hQ
    obtain ⟨s0, s1, s2, s3, s4, s5, s6, s7, s8⟩ := rpIn9 hR
    go_wp2_with fail
    refine (HXY.out _).mono ?_
    rintro r v ⟨rfl, hb⟩
    replace hP := hP.below hb
    replace hQ := hQ.below hb
    replace hR := hR.below hb
    replace hB := hB.trans (hb.mono hB.size)
    clear hb
    clear p0 p1 p2 p3 p4 p5 p6 p7 p8 q0 q1 q2 q3 q4 q5 q6 q7 q8 s0 s1 s2 s3 s4 s5 s6 s7 s8
    obtain ⟨p0, p1, p2, p3, p4, p5, p6, p7, p8⟩ := rpIn9 hP
    obtain ⟨q0, q1, q2, q3, q4, q5, q6, q7, q8⟩ := rpIn9 hQ
    obtain ⟨s0, s1, s2, s3, s4, s5, s6, s7, s8⟩ := rpIn9 hR
    go_wp2_with fail
    refine (HXY.out _).mono ?_
    rintro r v ⟨rfl, hb⟩
    replace hP := hP.below hb
    replace hQ := hQ.below hb
    replace hR := hR.below hb
    replace hB := hB.trans (hb.mono hB.size)
    clear hb
    clear p0 p1 p2 p3 p4 p5 p6 p7 p8 q0 q1 q2 q3 q4 q5 q6 q7 q8 s0 s1 s2 s3 s4 s5 s6 s7 s8
    obtain ⟨p0, p1, p2, p3, p4, p5, p6, p7, p8⟩ := rpIn9 hP
    obtain ⟨q0, q1, q2, q3, q4, q5, q6, q7, q8⟩ := rpIn9 hQ
    obtain ⟨s0, s1, s2, s3, s4, s5, s6, s7, s8⟩ := rpIn9 hR
    go_wp2_with fail
    refine (HBC.out _).mono ?_
    rintro r v ⟨rfl, hb⟩
    replace hP := hP.below hb
    replace hQ := hQ.below hb
    replace hR := hR.below hb
    replace hB := hB.trans (hb.mono hB.size)
    clear hb
    clear p0 p1 p2 p3 p4 p5 p6 p7 p8 q0 q1 q2 q3 q4 q5 q6 q7 q8 s0 s1 s2 s3 s4 s5 s6 s7 s8
    obtain ⟨p0, p1, p2, p3, p4, p5, p6, p7, p8⟩ := rpIn9 hP
    obtain ⟨q0, q1, q2, q3, q4, q5, q6, q7, q8⟩ := rpIn9 hQ
    obtain ⟨s0, s1, s2, s3, s4, s5, s6, s7, s8⟩ := rpIn9 hR
    go_wp2_with fail
    refine (HAC.out _).mono ?_
    rintro r v ⟨rfl, hb⟩
    replace hP := hP.below hb
    replace hQ := hQ.below hb
    replace hR := hR.below hb
    replace hB := hB.trans (hb.mono hB.size)
    clear hb
    clear p0 p1 p2 p3 p4 p5 p6 p7 p8 q0 q1 q2 q3 q4 q5 q6 q7 q8 s0 s1 s2 s3 s4 s5 s6 s7 s8
    obtain ⟨p0, p1, p2, p3, p4, p5, p6, p7, p8⟩ := rpIn9 hP
    obtain ⟨q0, q1, q2, q3, q4, q5, q6, q7, q8⟩ := rpIn9 hQ
    obtain ⟨s0, s1, s2, s3, s4, s5, s6, s7, s8⟩ := rpIn9 hR
    go_wp2_with fail
    go_ret
    exact ⟨rfl, hB⟩
  · skip
    obtain ⟨p0, p1, p2, p3, p4, p5, p6, p7, p8⟩ := rpIn9 hP
    obtain ⟨q0, q1, q2, q3, q4, q5, q6, q7, q8⟩ := rpIn9 hQ
    obtain ⟨s0, s1, s2, s3, s4, s5, s6, s7, s8⟩ := rpIn9 hR
    go_enter Try.func7, Try.ntmps7
    go_wp2_with fail
    generalize ((w.alloc (.cells #[.int .i64 a.d, .int .i64 a.i, .int .i64 a.b, .int .i64 a.t, .int .i64 a.m, .int .i64 a.p, .int .i64 a.c, .int .i64 a.s, .int .i64 a.k] 23)).alloc (.cells #[.int .i64 b.d, .int .i64 b.i, .int .i64 b.b, .int .i64 b.t, .int .i64 b.m, .int .i64 b.p, .int .i64 b.c, .int .i64 b.s, .int .i64 b.k] 23)).alloc (.cells #[.int .i64 c.d, .int .i64 c.i, .int .i64 c.b, .int .i64 c.t, .int .i64 c.m, .int .i64 c.p, .int .i64 c.c, .int .i64 c.s, .int .i64 c.k] 23) = W0 at *
    obtain ⟨n3, hn3⟩ : ∃ n, w.heap.size + 1 + 1 = n := ⟨_, rfl⟩
    obtain ⟨n2, hn2⟩ : ∃ n, w.heap.size + 1 = n := ⟨_, rfl⟩
    obtain ⟨n1, hn1⟩ : ∃ n, w.heap.size = n := ⟨_, rfl⟩
    rw [hn3] at hR s0 s1 s2 s3 s4 s5 s6 s7 s8 ⊢
    rw [hn2] at hQ q0 q1 q2 q3 q4 q5 q6 q7 q8 ⊢
    rw [hn1] at hP p0 p1 p2 p3 p4 p5 p6 p7 p8 ⊢
    clear hn1 hn2 hn3
    refine (HXY.out _).mono ?_
    rintro r v ⟨rfl, hb⟩
    replace hP := hP.below hb
    replace hQ := hQ.below hb
    replace hR := hR.below hb
    replace hB := hB.trans (hb.mono hB.size)
    clear hb
    clear p0 p1 p2 p3 p4 p5 p6 p7 p8 q0 q1 q2 q3 q4 q5 q6 q7 q8 s0 s1 s2 s3 s4 s5 s6 s7 s8
    obtain ⟨p0, p1, p2, p3, p4, p5, p6, p7, p8⟩ := rpIn9 hP
    obtain ⟨q0, q1, q2, q3, q4, q5, q6, q7, q8⟩ := rpIn9 hQ
    obtain ⟨s0, s1, s2, s3, s4, s5, s6, s7, s8⟩ := rpIn9 hR
    go_wp2_with fail
    refine (HYX.out _).mono ?_
    rintro r v ⟨rfl, hb⟩
    replace hP := hP.below hb
    replace hQ := hQ.below hb
    replace hR := hR.below hb
    replace hB := hB.trans (hb.mono hB.size)
    clear hb
    clear p0 p1 p2 p3 p4 p5 p6 p7 p8 q0 q1 q2 q3 q4 q5 q6 q7 q8 s0 s1 s2 s3 s4 s5 s6 s7 s8
    obtain ⟨p0, p1, p2, p3, p4, p5, p6, p7, p8⟩ := rpIn9 hP
    obtain ⟨q0, q1, q2, q3, q4, q5, q6, q7, q8⟩ := rpIn9 hQ
    obtain ⟨s0, s1, s2, s3, s4, s5, s6, s7, s8⟩ := rpIn9 hR
    go_wp2_with fail
    refine (HAA.out _).mono ?_
    rintro r v ⟨rfl, hb⟩
    replace hP := hP.below hb
    replace hQ := hQ.below hb
    replace hR := hR.below hb
    replace hB := hB.trans (hb.mono hB.size)
    clear hb
    clear p0 p1 p2 p3 p4 p5 p6 p7 p8 q0 q1 q2 q3 q4 q5 q6 q7 q8 s0 s1 s2 s3 s4 s5 s6 s7 s8
    obtain ⟨p0, p1, p2, p3, p4, p5, p6, p7, p8⟩ := rpIn9 hP
    obtain ⟨q0, q1, q2, q3, q4, q5, q6, q7, q8⟩ := rpIn9 hQ
    obtain ⟨s0, s1, s2, s3, s4, s5, s6, s7, s8⟩ := rpIn9 hR
    go_wp2_with fail
    refine (HW.out _).mono ?_
    rintro r v ⟨rfl, hb⟩
    replace hP := hP.below hb
    replace hQ := hQ.below hb
    replace hR := hR.below hb
    replace hB := hB.trans (hb.mono hB.size)
    clear hb
    clear p0 p1 p2 p3 p4 p5 p6 p7 p8 q0 q1 q2 q3 q4 q5 q6 q7 q8 s0 s1 s2 s3 s4 s5 s6 s7 s8
    obtain ⟨p0, p1, p2, p3, p4, p5, p6, p7, p8⟩ := rpIn9 hP
    obtain ⟨q0, q1, q2, q3, q4, q5, q6, q7, q8⟩ := rpIn9 hQ
    obtain ⟨s0, s1, s2, s3, s4, s5, s6, s7, s8⟩ := rpIn9 hR
    go_wp2_with fail
    refine (HXY.out _).mono ?_
    rintro r v ⟨rfl, hb⟩
    replace hP := hP.below hb
    replace hQ := hQ.below hb
    replace hR := hR.below hb
    replace hB := hB.trans (hb.mono hB.size)
    clear hb
    clear p0 p1 p2 p3 p4 p5 p6 p7 p8 q0 q1 q2 q3 q4 q5 q6 q7 q8 s0 s1 s2 s3 s4 s5 s6 s7 s8
    obtain ⟨p0, p1, p2, p3, p4, p5, p6, p7, p8⟩ := rpIn9 hP
    obtain ⟨q0, q1, q2, q3, q4, q5, q6, q7, q8⟩ := rpIn9 hQ
    obtain ⟨s0, s1, s2, s3, s4, s5, s6, s7, s8⟩ := rpIn9 hR
    go_wp2_with fail
    refine (HXY.out _).mono ?_
    rintro r v ⟨rfl, hb⟩
    replace hP := hP.below hb
    replace hQ := hQ.below hb
    replace hR := hR.below hb
    replace hB := hB.trans (hb.mono hB.size)
    clear hb
    clear p0 p1 p2 p3 p4 p5 p6 p7 p8 q0 q1 q2 q3 q4 q5 q6 q7 q8 s0 s1 s2 s3 s4 s5 s6 s7 s8
    obtain ⟨p0, p1, p2, p3, p4, p5, p6, p7, p8⟩ := rpIn9 hP
    obtain ⟨q0, q1, q2, q3, q4, q5, q6, q7, q8⟩ := rpIn9 hQ
    obtain ⟨s0, s1, s2, s3, s4, s5, s6, s7, s8⟩ := rpIn9 hR
    go_wp2_with fail
    refine (HBC.out _).mono ?_
    rintro r v ⟨rfl, hb⟩
    replace hP := hP.below hb
    replace hQ := hQ.below hb
    replace hR := hR.below hb
    replace hB := hB.trans (hb.mono hB.size)
    clear hb
    clear p0 p1 p2 p3 p4 p5 p6 p7 p8 q0 q1 q2 q3 q4 q5 q6 q7 q8 s0 s1 s2 s3 s4 s5 s6 s7 s8
    obtain ⟨p0, p1, p2, p3, p4, p5, p6, p7, p8⟩ := rpIn9 hP
    obtain ⟨q0, q1, q2, q3, q4, q5, q6, q7, q8⟩ := rpIn9 hQ
    obtain ⟨s0, s1, s2, s3, s4, s5, s6, s7, s8⟩ := rpIn9 hR
    go_wp2_with fail
    refine (HAC.out _).mono ?_
    rintro r v ⟨rfl, hb⟩
    replace hP := hP.below hb
    replace hQ := hQ.below hb
    replace hR := hR.below hb
    replace hB := hB.trans (hb.mono hB.size)
    clear hb
    clear p0 p1 p2 p3 p4 p5 p6 p7 p8 q0 q1 q2 q3 q4 q5 q6 q7 q8 s0 s1 s2 s3 s4 s5 s6 s7 s8
    obtain ⟨p0, p1, p2, p3, p4, p5, p6, p7, p8⟩ := rpIn9 hP
    obtain ⟨q0, q1, q2, q3, q4, q5, q6, q7, q8⟩ := rpIn9 hQ
    obtain ⟨s0, s1, s2, s3, s4, s5, s6, s7, s8⟩ := rpIn9 hR
    go_wp2_with fail
    go_ret
    exact ⟨rfl, hB⟩
  · cases h
set_option maxRecDepth 100000 in
set_option maxHeartbeats 2000000 in
theorem order14_back (H : ReportCalls) (a b c : Rp) (w : World) (hx : newB a b = false) (hy : newB b a = true) (e : Hid (unlikeR a b false)) : Calls Try.prog 7 #[.agg #[.int .i64 a.d, .int .i64 a.i, .int .i64 a.b, .int .i64 a.t, .int .i64 a.m, .int .i64 a.p, .int .i64 a.c, .int .i64 a.s, .int .i64 a.k], .agg #[.int .i64 b.d, .int .i64 b.i, .int .i64 b.b, .int .i64 b.t, .int .i64 b.m, .int .i64 b.p, .int .i64 b.c, .int .i64 b.s, .int .i64 b.k], .agg #[.int .i64 c.d, .int .i64 c.i, .int .i64 c.b, .int .i64 c.t, .int .i64 c.m, .int .i64 c.p, .int .i64 c.c, .int .i64 c.s, .int .i64 c.k]] w fun r w' => r = .returned (.bool true) ∧ Below w.heap.size w w' := by
  have hP : rpE.In (((w.alloc (.cells #[.int .i64 a.d, .int .i64 a.i, .int .i64 a.b, .int .i64 a.t, .int .i64 a.m, .int .i64 a.p, .int .i64 a.c, .int .i64 a.s, .int .i64 a.k] 23)).alloc (.cells #[.int .i64 b.d, .int .i64 b.i, .int .i64 b.b, .int .i64 b.t, .int .i64 b.m, .int .i64 b.p, .int .i64 b.c, .int .i64 b.s, .int .i64 b.k] 23)).alloc (.cells #[.int .i64 c.d, .int .i64 c.i, .int .i64 c.b, .int .i64 c.t, .int .i64 c.m, .int .i64 c.p, .int .i64 c.c, .int .i64 c.s, .int .i64 c.k] 23)) w.heap.size a := ((El.In.new (E := rpE) w a _ rfl).alloc _).alloc _
  have hQ : rpE.In (((w.alloc (.cells #[.int .i64 a.d, .int .i64 a.i, .int .i64 a.b, .int .i64 a.t, .int .i64 a.m, .int .i64 a.p, .int .i64 a.c, .int .i64 a.s, .int .i64 a.k] 23)).alloc (.cells #[.int .i64 b.d, .int .i64 b.i, .int .i64 b.b, .int .i64 b.t, .int .i64 b.m, .int .i64 b.p, .int .i64 b.c, .int .i64 b.s, .int .i64 b.k] 23)).alloc (.cells #[.int .i64 c.d, .int .i64 c.i, .int .i64 c.b, .int .i64 c.t, .int .i64 c.m, .int .i64 c.p, .int .i64 c.c, .int .i64 c.s, .int .i64 c.k] 23)) (w.alloc (.cells #[.int .i64 a.d, .int .i64 a.i, .int .i64 a.b, .int .i64 a.t, .int .i64 a.m, .int .i64 a.p, .int .i64 a.c, .int .i64 a.s, .int .i64 a.k] 23)).heap.size b := (El.In.new (E := rpE) (w.alloc (.cells #[.int .i64 a.d, .int .i64 a.i, .int .i64 a.b, .int .i64 a.t, .int .i64 a.m, .int .i64 a.p, .int .i64 a.c, .int .i64 a.s, .int .i64 a.k] 23)) b _ rfl).alloc _
  have hR : rpE.In (((w.alloc (.cells #[.int .i64 a.d, .int .i64 a.i, .int .i64 a.b, .int .i64 a.t, .int .i64 a.m, .int .i64 a.p, .int .i64 a.c, .int .i64 a.s, .int .i64 a.k] 23)).alloc (.cells #[.int .i64 b.d, .int .i64 b.i, .int .i64 b.b, .int .i64 b.t, .int .i64 b.m, .int .i64 b.p, .int .i64 b.c, .int .i64 b.s, .int .i64 b.k] 23)).alloc (.cells #[.int .i64 c.d, .int .i64 c.i, .int .i64 c.b, .int .i64 c.t, .int .i64 c.m, .int .i64 c.p, .int .i64 c.c, .int .i64 c.s, .int .i64 c.k] 23)) ((w.alloc (.cells #[.int .i64 a.d, .int .i64 a.i, .int .i64 a.b, .int .i64 a.t, .int .i64 a.m, .int .i64 a.p, .int .i64 a.c, .int .i64 a.s, .int .i64 a.k] 23)).alloc (.cells #[.int .i64 b.d, .int .i64 b.i, .int .i64 b.b, .int .i64 b.t, .int .i64 b.m, .int .i64 b.p, .int .i64 b.c, .int .i64 b.s, .int .i64 b.k] 23)).heap.size c := El.In.new (E := rpE) ((w.alloc (.cells #[.int .i64 a.d, .int .i64 a.i, .int .i64 a.b, .int .i64 a.t, .int .i64 a.m, .int .i64 a.p, .int .i64 a.c, .int .i64 a.s, .int .i64 a.k] 23)).alloc (.cells #[.int .i64 b.d, .int .i64 b.i, .int .i64 b.b, .int .i64 b.t, .int .i64 b.m, .int .i64 b.p, .int .i64 b.c, .int .i64 b.s, .int .i64 b.k] 23)) c _ rfl
  rw [alloc_size] at hQ
  rw [alloc_size, alloc_size] at hR
  have hB := below_alloc (below_alloc (below_alloc (Below.refl w.heap.size w) (.cells #[.int .i64 a.d, .int .i64 a.i, .int .i64 a.b, .int .i64 a.t, .int .i64 a.m, .int .i64 a.p, .int .i64 a.c, .int .i64 a.s, .int .i64 a.k] 23)) (.cells #[.int .i64 b.d, .int .i64 b.i, .int .i64 b.b, .int .i64 b.t, .int .i64 b.m, .int .i64 b.p, .int .i64 b.c, .int .i64 b.s, .int .i64 b.k] 23)) (.cells #[.int .i64 c.d, .int .i64 c.i, .int .i64 c.b, .int .i64 c.t, .int .i64 c.m, .int .i64 c.p, .int .i64 c.c, .int .i64 c.s, .int .i64 c.k] 23)
  have HW := Lib.hid (fun (wx : World) => awake14_any H wx)
  have HXY := Lib.hid (fun (wx : World) => H.newer a b wx)
  have HYX := Lib.hid (fun (wx : World) => H.newer b a wx)
  have HAA := Lib.hid (fun (wx : World) => H.newer a a wx)
  have HBC := Lib.hid (fun (wx : World) => H.newer b c wx)
  have HAC := Lib.hid (fun (wx : World) => H.newer a c wx)
  rw [newB_self] at HAA
  rw [hx] at HXY
  rw [hy] at HYX
  clear hx hy HBC HAC
  rcases e.out with ⟨e1, _⟩ | ⟨e1, e2, _⟩ | ⟨e1, e2, e3, _⟩ | ⟨_, _, _, h⟩
  · skip
    obtain ⟨p0, p1, p2, p3, p4, p5, p6, p7, p8⟩ := rpIn9 hP
    obtain ⟨q0, q1, q2, q3, q4, q5, q6, q7, q8⟩ := rpIn9 hQ
    obtain ⟨s0, s1, s2, s3, s4, s5, s6, s7, s8⟩ := rpIn9 hR
    go_enter Try.func7, Try.ntmps7
    go_wp2_with fail
    generalize ((w.alloc (.cells #[.int .i64 a.d, .int .i64 a.i, .int .i64 a.b, .int .i64 a.t, .int .i64 a.m, .int .i64 a.p, .int .i64 a.c, .int .i64 a.s, .int .i64 a.k] 23)).alloc (.cells #[.int .i64 b.d, .int .i64 b.i, .int .i64 b.b, .int .i64 b.t, .int .i64 b.m, .int .i64 b.p, .int .i64 b.c, .int .i64 b.s, .int .i64 b.k] 23)).alloc (.cells #[.int .i64 c.d, .int .i64 c.i, .int .i64 c.b, .int .i64 c.t, .int .i64 c.m, .int .i64 c.p, .int .i64 c.c, .int .i64 c.s, .int .i64 c.k] 23) = W0 at *
    obtain ⟨n3, hn3⟩ : ∃ n, w.heap.size + 1 + 1 = n := ⟨_, rfl⟩
    obtain ⟨n2, hn2⟩ : ∃ n, w.heap.size + 1 = n := ⟨_, rfl⟩
    obtain ⟨n1, hn1⟩ : ∃ n, w.heap.size = n := ⟨_, rfl⟩
    rw [hn3] at hR s0 s1 s2 s3 s4 s5 s6 s7 s8 ⊢
    rw [hn2] at hQ q0 q1 q2 q3 q4 q5 q6 q7 q8 ⊢
    rw [hn1] at hP p0 p1 p2 p3 p4 p5 p6 p7 p8 ⊢
    clear hn1 hn2 hn3
    refine (HXY.out _).mono ?_
    rintro r v ⟨rfl, hb⟩
    replace hP := hP.below hb
    replace hQ := hQ.below hb
    replace hR := hR.below hb
    replace hB := hB.trans (hb.mono hB.size)
    clear hb
    clear p0 p1 p2 p3 p4 p5 p6 p7 p8 q0 q1 q2 q3 q4 q5 q6 q7 q8 s0 s1 s2 s3 s4 s5 s6 s7 s8
    obtain ⟨p0, p1, p2, p3, p4, p5, p6, p7, p8⟩ := rpIn9 hP
    obtain ⟨q0, q1, q2, q3, q4, q5, q6, q7, q8⟩ := rpIn9 hQ
    obtain ⟨s0, s1, s2, s3, s4, s5, s6, s7, s8⟩ := rpIn9 hR
    go_wp2_with fail
    refine (HAA.out _).mono ?_
    rintro r v ⟨rfl, hb⟩
    replace hP := hP.below hb
    replace hQ := hQ.below hb
    replace hR := hR.below hb
    replace hB := hB.trans (hb.mono hB.size)
    clear hb
    clear p0 p1 p2 p3 p4 p5 p6 p7 p8 q0 q1 q2 q3 q4 q5 q6 q7 q8 s0 s1 s2 s3 s4 s5 s6 s7 s8
    obtain ⟨p0, p1, p2, p3, p4, p5, p6, p7, p8⟩ := rpIn9 hP
    obtain ⟨q0, q1, q2, q3, q4, q5, q6, q7, q8⟩ := rpIn9 hQ
    obtain ⟨s0, s1, s2, s3, s4, s5, s6, s7, s8⟩ := rpIn9 hR
    go_wp2_with fail
    refine (HW.out _).mono ?_
    rintro r v ⟨rfl, hb⟩
    replace hP := hP.below hb
    replace hQ := hQ.below hb
    replace hR := hR.below hb
    replace hB := hB.trans (hb.mono hB.size)
    clear hb
    clear p0 p1 p2 p3 p4 p5 p6 p7 p8 q0 q1 q2 q3 q4 q5 q6 q7 q8 s0 s1 s2 s3 s4 s5 s6 s7 s8
    obtain ⟨p0, p1, p2, p3, p4, p5, p6, p7, p8⟩ := rpIn9 hP
    obtain ⟨q0, q1, q2, q3, q4, q5, q6, q7, q8⟩ := rpIn9 hQ
    obtain ⟨s0, s1, s2, s3, s4, s5, s6, s7, s8⟩ := rpIn9 hR
    go_wp2_with fail
    refine (HXY.out _).mono ?_
    rintro r v ⟨rfl, hb⟩
    replace hP := hP.below hb
    replace hQ := hQ.below hb
    replace hR := hR.below hb
    replace hB := hB.trans (hb.mono hB.size)
    clear hb
    clear p0 p1 p2 p3 p4 p5 p6 p7 p8 q0 q1 q2 q3 q4 q5 q6 q7 q8 s0 s1 s2 s3 s4 s5 s6 s7 s8
    obtain ⟨p0, p1, p2, p3, p4, p5, p6, p7, p8⟩ := rpIn9 hP
    obtain ⟨q0, q1, q2, q3, q4, q5, q6, q7, q8⟩ := rpIn9 hQ
    obtain ⟨s0, s1, s2, s3, s4, s5, s6, s7, s8⟩ := rpIn9 hR
    go_wp2_with fail
    refine (HYX.out _).mono ?_
    rintro r v ⟨rfl, hb⟩
    replace hP := hP.below hb
    replace hQ := hQ.below hb
    replace hR := hR.below hb
    replace hB := hB.trans (hb.mono hB.size)
    clear hb
    clear p0 p1 p2 p3 p4 p5 p6 p7 p8 q0 q1 q2 q3 q4 q5 q6 q7 q8 s0 s1 s2 s3 s4 s5 s6 s7 s8
    obtain ⟨p0, p1, p2, p3, p4, p5, p6, p7, p8⟩ := rpIn9 hP
    obtain ⟨q0, q1, q2, q3, q4, q5, q6, q7, q8⟩ := rpIn9 hQ
    obtain ⟨s0, s1, s2, s3, s4, s5, s6, s7, s8⟩ := rpIn9 hR
    go_wp2_with fail
    refine (HXY.out _).mono ?_
    rintro r v ⟨rfl, hb⟩
    replace hP := hP.below hb
    replace hQ := hQ.below hb
    replace hR := hR.below hb
    replace hB := hB.trans (hb.mono hB.size)
    clear hb
    clear p0 p1 p2 p3 p4 p5 p6 p7 p8 q0 q1 q2 q3 q4 q5 q6 q7 q8 s0 s1 s2 s3 s4 s5 s6 s7 s8
    obtain ⟨p0, p1, p2, p3, p4, p5, p6, p7, p8⟩ := rpIn9 hP
    obtain ⟨q0, q1, q2, q3, q4, q5, q6, q7, q8⟩ := rpIn9 hQ
    obtain ⟨s0, s1, s2, s3, s4, s5, s6, s7, s8⟩ := rpIn9 hR
    go_wp2_with fail
    go_ret
    exact ⟨rfl, hB⟩
  · skip
    obtain ⟨p0, p1, p2, p3, p4, p5, p6, p7, p8⟩ := rpIn9 hP
    obtain ⟨q0, q1, q2, q3, q4, q5, q6, q7, q8⟩ := rpIn9 hQ
    obtain ⟨s0, s1, s2, s3, s4, s5, s6, s7, s8⟩ := rpIn9 hR
    go_enter Try.func7, Try.ntmps7
    go_wp2_with fail
    generalize ((w.alloc (.cells #[.int .i64 a.d, .int .i64 a.i, .int .i64 a.b, .int .i64 a.t, .int .i64 a.m, .int .i64 a.p, .int .i64 a.c, .int .i64 a.s, .int .i64 a.k] 23)).alloc (.cells #[.int .i64 b.d, .int .i64 b.i, .int .i64 b.b, .int .i64 b.t, .int .i64 b.m, .int .i64 b.p, .int .i64 b.c, .int .i64 b.s, .int .i64 b.k] 23)).alloc (.cells #[.int .i64 c.d, .int .i64 c.i, .int .i64 c.b, .int .i64 c.t, .int .i64 c.m, .int .i64 c.p, .int .i64 c.c, .int .i64 c.s, .int .i64 c.k] 23) = W0 at *
    obtain ⟨n3, hn3⟩ : ∃ n, w.heap.size + 1 + 1 = n := ⟨_, rfl⟩
    obtain ⟨n2, hn2⟩ : ∃ n, w.heap.size + 1 = n := ⟨_, rfl⟩
    obtain ⟨n1, hn1⟩ : ∃ n, w.heap.size = n := ⟨_, rfl⟩
    rw [hn3] at hR s0 s1 s2 s3 s4 s5 s6 s7 s8 ⊢
    rw [hn2] at hQ q0 q1 q2 q3 q4 q5 q6 q7 q8 ⊢
    rw [hn1] at hP p0 p1 p2 p3 p4 p5 p6 p7 p8 ⊢
    clear hn1 hn2 hn3
    refine (HXY.out _).mono ?_
    rintro r v ⟨rfl, hb⟩
    replace hP := hP.below hb
    replace hQ := hQ.below hb
    replace hR := hR.below hb
    replace hB := hB.trans (hb.mono hB.size)
    clear hb
    clear p0 p1 p2 p3 p4 p5 p6 p7 p8 q0 q1 q2 q3 q4 q5 q6 q7 q8 s0 s1 s2 s3 s4 s5 s6 s7 s8
    obtain ⟨p0, p1, p2, p3, p4, p5, p6, p7, p8⟩ := rpIn9 hP
    obtain ⟨q0, q1, q2, q3, q4, q5, q6, q7, q8⟩ := rpIn9 hQ
    obtain ⟨s0, s1, s2, s3, s4, s5, s6, s7, s8⟩ := rpIn9 hR
    go_wp2_with fail
    refine (HAA.out _).mono ?_
    rintro r v ⟨rfl, hb⟩
    replace hP := hP.below hb
    replace hQ := hQ.below hb
    replace hR := hR.below hb
    replace hB := hB.trans (hb.mono hB.size)
    clear hb
    clear p0 p1 p2 p3 p4 p5 p6 p7 p8 q0 q1 q2 q3 q4 q5 q6 q7 q8 s0 s1 s2 s3 s4 s5 s6 s7 s8
    obtain ⟨p0, p1, p2, p3, p4, p5, p6, p7, p8⟩ := rpIn9 hP
    obtain ⟨q0, q1, q2, q3, q4, q5, q6, q7, q8⟩ := rpIn9 hQ
    obtain ⟨s0, s1, s2, s3, s4, s5, s6, s7, s8⟩ := rpIn9 hR
    go_wp2_with fail
    refine (HW.out _).mono ?_
    rintro r v ⟨rfl, hb⟩
    replace hP := hP.below hb
    replace hQ := hQ.below hb
    replace hR := hR.below hb
    replace hB := hB.trans (hb.mono hB.size)
    clear hb
    clear p0 p1 p2 p3 p4 p5 p6 p7 p8 q0 q1 q2 q3 q4 q5 q6 q7 q8 s0 s1 s2 s3 s4 s5 s6 s7 s8
    obtain ⟨p0, p1, p2, p3, p4, p5, p6, p7, p8⟩ := rpIn9 hP
    obtain ⟨q0, q1, q2, q3, q4, q5, q6, q7, q8⟩ := rpIn9 hQ
    obtain ⟨s0, s1, s2, s3, s4, s5, s6, s7, s8⟩ := rpIn9 hR
    go_wp2_with fail
    refine (HXY.out _).mono ?_
    rintro r v ⟨rfl, hb⟩
    replace hP := hP.below hb
    replace hQ := hQ.below hb
    replace hR := hR.below hb
    replace hB := hB.trans (hb.mono hB.size)
    clear hb
    clear p0 p1 p2 p3 p4 p5 p6 p7 p8 q0 q1 q2 q3 q4 q5 q6 q7 q8 s0 s1 s2 s3 s4 s5 s6 s7 s8
    obtain ⟨p0, p1, p2, p3, p4, p5, p6, p7, p8⟩ := rpIn9 hP
    obtain ⟨q0, q1, q2, q3, q4, q5, q6, q7, q8⟩ := rpIn9 hQ
    obtain ⟨s0, s1, s2, s3, s4, s5, s6, s7, s8⟩ := rpIn9 hR
    go_wp2_with fail
    refine (HYX.out _).mono ?_
    rintro r v ⟨rfl, hb⟩
    replace hP := hP.below hb
    replace hQ := hQ.below hb
    replace hR := hR.below hb
    replace hB := hB.trans (hb.mono hB.size)
    clear hb
    clear p0 p1 p2 p3 p4 p5 p6 p7 p8 q0 q1 q2 q3 q4 q5 q6 q7 q8 s0 s1 s2 s3 s4 s5 s6 s7 s8
    obtain ⟨p0, p1, p2, p3, p4, p5, p6, p7, p8⟩ := rpIn9 hP
    obtain ⟨q0, q1, q2, q3, q4, q5, q6, q7, q8⟩ := rpIn9 hQ
    obtain ⟨s0, s1, s2, s3, s4, s5, s6, s7, s8⟩ := rpIn9 hR
    go_wp2_with fail
    refine (HXY.out _).mono ?_
    rintro r v ⟨rfl, hb⟩
    replace hP := hP.below hb
    replace hQ := hQ.below hb
    replace hR := hR.below hb
    replace hB := hB.trans (hb.mono hB.size)
    clear hb
    clear p0 p1 p2 p3 p4 p5 p6 p7 p8 q0 q1 q2 q3 q4 q5 q6 q7 q8 s0 s1 s2 s3 s4 s5 s6 s7 s8
    obtain ⟨p0, p1, p2, p3, p4, p5, p6, p7, p8⟩ := rpIn9 hP
    obtain ⟨q0, q1, q2, q3, q4, q5, q6, q7, q8⟩ := rpIn9 hQ
    obtain ⟨s0, s1, s2, s3, s4, s5, s6, s7, s8⟩ := rpIn9 hR
    go_wp2_with fail
    go_ret
    exact ⟨rfl, hB⟩
  · skip
    obtain ⟨p0, p1, p2, p3, p4, p5, p6, p7, p8⟩ := rpIn9 hP
    obtain ⟨q0, q1, q2, q3, q4, q5, q6, q7, q8⟩ := rpIn9 hQ
    obtain ⟨s0, s1, s2, s3, s4, s5, s6, s7, s8⟩ := rpIn9 hR
    go_enter Try.func7, Try.ntmps7
    go_wp2_with fail
    generalize ((w.alloc (.cells #[.int .i64 a.d, .int .i64 a.i, .int .i64 a.b, .int .i64 a.t, .int .i64 a.m, .int .i64 a.p, .int .i64 a.c, .int .i64 a.s, .int .i64 a.k] 23)).alloc (.cells #[.int .i64 b.d, .int .i64 b.i, .int .i64 b.b, .int .i64 b.t, .int .i64 b.m, .int .i64 b.p, .int .i64 b.c, .int .i64 b.s, .int .i64 b.k] 23)).alloc (.cells #[.int .i64 c.d, .int .i64 c.i, .int .i64 c.b, .int .i64 c.t, .int .i64 c.m, .int .i64 c.p, .int .i64 c.c, .int .i64 c.s, .int .i64 c.k] 23) = W0 at *
    obtain ⟨n3, hn3⟩ : ∃ n, w.heap.size + 1 + 1 = n := ⟨_, rfl⟩
    obtain ⟨n2, hn2⟩ : ∃ n, w.heap.size + 1 = n := ⟨_, rfl⟩
    obtain ⟨n1, hn1⟩ : ∃ n, w.heap.size = n := ⟨_, rfl⟩
    rw [hn3] at hR s0 s1 s2 s3 s4 s5 s6 s7 s8 ⊢
    rw [hn2] at hQ q0 q1 q2 q3 q4 q5 q6 q7 q8 ⊢
    rw [hn1] at hP p0 p1 p2 p3 p4 p5 p6 p7 p8 ⊢
    clear hn1 hn2 hn3
    refine (HXY.out _).mono ?_
    rintro r v ⟨rfl, hb⟩
    replace hP := hP.below hb
    replace hQ := hQ.below hb
    replace hR := hR.below hb
    replace hB := hB.trans (hb.mono hB.size)
    clear hb
    clear p0 p1 p2 p3 p4 p5 p6 p7 p8 q0 q1 q2 q3 q4 q5 q6 q7 q8 s0 s1 s2 s3 s4 s5 s6 s7 s8
    obtain ⟨p0, p1, p2, p3, p4, p5, p6, p7, p8⟩ := rpIn9 hP
    obtain ⟨q0, q1, q2, q3, q4, q5, q6, q7, q8⟩ := rpIn9 hQ
    obtain ⟨s0, s1, s2, s3, s4, s5, s6, s7, s8⟩ := rpIn9 hR
    go_wp2_with fail
    refine (HAA.out _).mono ?_
    rintro r v ⟨rfl, hb⟩
    replace hP := hP.below hb
    replace hQ := hQ.below hb
    replace hR := hR.below hb
    replace hB := hB.trans (hb.mono hB.size)
    clear hb
    clear p0 p1 p2 p3 p4 p5 p6 p7 p8 q0 q1 q2 q3 q4 q5 q6 q7 q8 s0 s1 s2 s3 s4 s5 s6 s7 s8
    obtain ⟨p0, p1, p2, p3, p4, p5, p6, p7, p8⟩ := rpIn9 hP
    obtain ⟨q0, q1, q2, q3, q4, q5, q6, q7, q8⟩ := rpIn9 hQ
    obtain ⟨s0, s1, s2, s3, s4, s5, s6, s7, s8⟩ := rpIn9 hR
    go_wp2_with fail
    refine (HW.out _).mono ?_
    rintro r v ⟨rfl, hb⟩
    replace hP := hP.below hb
    replace hQ := hQ.below hb
    replace hR := hR.below hb
    replace hB := hB.trans (hb.mono hB.size)
    clear hb
    clear p0 p1 p2 p3 p4 p5 p6 p7 p8 q0 q1 q2 q3 q4 q5 q6 q7 q8 s0 s1 s2 s3 s4 s5 s6 s7 s8
    obtain ⟨p0, p1, p2, p3, p4, p5, p6, p7, p8⟩ := rpIn9 hP
    obtain ⟨q0, q1, q2, q3, q4, q5, q6, q7, q8⟩ := rpIn9 hQ
    obtain ⟨s0, s1, s2, s3, s4, s5, s6, s7, s8⟩ := rpIn9 hR
    go_wp2_with fail
    refine (HXY.out _).mono ?_
    rintro r v ⟨rfl, hb⟩
    replace hP := hP.below hb
    replace hQ := hQ.below hb
    replace hR := hR.below hb
    replace hB := hB.trans (hb.mono hB.size)
    clear hb
    clear p0 p1 p2 p3 p4 p5 p6 p7 p8 q0 q1 q2 q3 q4 q5 q6 q7 q8 s0 s1 s2 s3 s4 s5 s6 s7 s8
    obtain ⟨p0, p1, p2, p3, p4, p5, p6, p7, p8⟩ := rpIn9 hP
    obtain ⟨q0, q1, q2, q3, q4, q5, q6, q7, q8⟩ := rpIn9 hQ
    obtain ⟨s0, s1, s2, s3, s4, s5, s6, s7, s8⟩ := rpIn9 hR
    go_wp2_with fail
    refine (HYX.out _).mono ?_
    rintro r v ⟨rfl, hb⟩
    replace hP := hP.below hb
    replace hQ := hQ.below hb
    replace hR := hR.below hb
    replace hB := hB.trans (hb.mono hB.size)
    clear hb
    clear p0 p1 p2 p3 p4 p5 p6 p7 p8 q0 q1 q2 q3 q4 q5 q6 q7 q8 s0 s1 s2 s3 s4 s5 s6 s7 s8
    obtain ⟨p0, p1, p2, p3, p4, p5, p6, p7, p8⟩ := rpIn9 hP
    obtain ⟨q0, q1, q2, q3, q4, q5, q6, q7, q8⟩ := rpIn9 hQ
    obtain ⟨s0, s1, s2, s3, s4, s5, s6, s7, s8⟩ := rpIn9 hR
    go_wp2_with fail
    refine (HXY.out _).mono ?_
    rintro r v ⟨rfl, hb⟩
    replace hP := hP.below hb
    replace hQ := hQ.below hb
    replace hR := hR.below hb
    replace hB := hB.trans (hb.mono hB.size)
    clear hb
    clear p0 p1 p2 p3 p4 p5 p6 p7 p8 q0 q1 q2 q3 q4 q5 q6 q7 q8 s0 s1 s2 s3 s4 s5 s6 s7 s8
    obtain ⟨p0, p1, p2, p3, p4, p5, p6, p7, p8⟩ := rpIn9 hP
    obtain ⟨q0, q1, q2, q3, q4, q5, q6, q7, q8⟩ := rpIn9 hQ
    obtain ⟨s0, s1, s2, s3, s4, s5, s6, s7, s8⟩ := rpIn9 hR
    go_wp2_with fail
    go_ret
    exact ⟨rfl, hB⟩
  · cases h
set_option maxRecDepth 100000 in
set_option maxHeartbeats 2000000 in
theorem order14_none (H : ReportCalls) (a b c : Rp) (w : World) (hx : newB a b = false) (hy : newB b a = false) (e : Hid (unlikeR a b true)) : Calls Try.prog 7 #[.agg #[.int .i64 a.d, .int .i64 a.i, .int .i64 a.b, .int .i64 a.t, .int .i64 a.m, .int .i64 a.p, .int .i64 a.c, .int .i64 a.s, .int .i64 a.k], .agg #[.int .i64 b.d, .int .i64 b.i, .int .i64 b.b, .int .i64 b.t, .int .i64 b.m, .int .i64 b.p, .int .i64 b.c, .int .i64 b.s, .int .i64 b.k], .agg #[.int .i64 c.d, .int .i64 c.i, .int .i64 c.b, .int .i64 c.t, .int .i64 c.m, .int .i64 c.p, .int .i64 c.c, .int .i64 c.s, .int .i64 c.k]] w fun r w' => r = .returned (.bool true) ∧ Below w.heap.size w w' := by
  have hP : rpE.In (((w.alloc (.cells #[.int .i64 a.d, .int .i64 a.i, .int .i64 a.b, .int .i64 a.t, .int .i64 a.m, .int .i64 a.p, .int .i64 a.c, .int .i64 a.s, .int .i64 a.k] 23)).alloc (.cells #[.int .i64 b.d, .int .i64 b.i, .int .i64 b.b, .int .i64 b.t, .int .i64 b.m, .int .i64 b.p, .int .i64 b.c, .int .i64 b.s, .int .i64 b.k] 23)).alloc (.cells #[.int .i64 c.d, .int .i64 c.i, .int .i64 c.b, .int .i64 c.t, .int .i64 c.m, .int .i64 c.p, .int .i64 c.c, .int .i64 c.s, .int .i64 c.k] 23)) w.heap.size a := ((El.In.new (E := rpE) w a _ rfl).alloc _).alloc _
  have hQ : rpE.In (((w.alloc (.cells #[.int .i64 a.d, .int .i64 a.i, .int .i64 a.b, .int .i64 a.t, .int .i64 a.m, .int .i64 a.p, .int .i64 a.c, .int .i64 a.s, .int .i64 a.k] 23)).alloc (.cells #[.int .i64 b.d, .int .i64 b.i, .int .i64 b.b, .int .i64 b.t, .int .i64 b.m, .int .i64 b.p, .int .i64 b.c, .int .i64 b.s, .int .i64 b.k] 23)).alloc (.cells #[.int .i64 c.d, .int .i64 c.i, .int .i64 c.b, .int .i64 c.t, .int .i64 c.m, .int .i64 c.p, .int .i64 c.c, .int .i64 c.s, .int .i64 c.k] 23)) (w.alloc (.cells #[.int .i64 a.d, .int .i64 a.i, .int .i64 a.b, .int .i64 a.t, .int .i64 a.m, .int .i64 a.p, .int .i64 a.c, .int .i64 a.s, .int .i64 a.k] 23)).heap.size b := (El.In.new (E := rpE) (w.alloc (.cells #[.int .i64 a.d, .int .i64 a.i, .int .i64 a.b, .int .i64 a.t, .int .i64 a.m, .int .i64 a.p, .int .i64 a.c, .int .i64 a.s, .int .i64 a.k] 23)) b _ rfl).alloc _
  have hR : rpE.In (((w.alloc (.cells #[.int .i64 a.d, .int .i64 a.i, .int .i64 a.b, .int .i64 a.t, .int .i64 a.m, .int .i64 a.p, .int .i64 a.c, .int .i64 a.s, .int .i64 a.k] 23)).alloc (.cells #[.int .i64 b.d, .int .i64 b.i, .int .i64 b.b, .int .i64 b.t, .int .i64 b.m, .int .i64 b.p, .int .i64 b.c, .int .i64 b.s, .int .i64 b.k] 23)).alloc (.cells #[.int .i64 c.d, .int .i64 c.i, .int .i64 c.b, .int .i64 c.t, .int .i64 c.m, .int .i64 c.p, .int .i64 c.c, .int .i64 c.s, .int .i64 c.k] 23)) ((w.alloc (.cells #[.int .i64 a.d, .int .i64 a.i, .int .i64 a.b, .int .i64 a.t, .int .i64 a.m, .int .i64 a.p, .int .i64 a.c, .int .i64 a.s, .int .i64 a.k] 23)).alloc (.cells #[.int .i64 b.d, .int .i64 b.i, .int .i64 b.b, .int .i64 b.t, .int .i64 b.m, .int .i64 b.p, .int .i64 b.c, .int .i64 b.s, .int .i64 b.k] 23)).heap.size c := El.In.new (E := rpE) ((w.alloc (.cells #[.int .i64 a.d, .int .i64 a.i, .int .i64 a.b, .int .i64 a.t, .int .i64 a.m, .int .i64 a.p, .int .i64 a.c, .int .i64 a.s, .int .i64 a.k] 23)).alloc (.cells #[.int .i64 b.d, .int .i64 b.i, .int .i64 b.b, .int .i64 b.t, .int .i64 b.m, .int .i64 b.p, .int .i64 b.c, .int .i64 b.s, .int .i64 b.k] 23)) c _ rfl
  rw [alloc_size] at hQ
  rw [alloc_size, alloc_size] at hR
  have hB := below_alloc (below_alloc (below_alloc (Below.refl w.heap.size w) (.cells #[.int .i64 a.d, .int .i64 a.i, .int .i64 a.b, .int .i64 a.t, .int .i64 a.m, .int .i64 a.p, .int .i64 a.c, .int .i64 a.s, .int .i64 a.k] 23)) (.cells #[.int .i64 b.d, .int .i64 b.i, .int .i64 b.b, .int .i64 b.t, .int .i64 b.m, .int .i64 b.p, .int .i64 b.c, .int .i64 b.s, .int .i64 b.k] 23)) (.cells #[.int .i64 c.d, .int .i64 c.i, .int .i64 c.b, .int .i64 c.t, .int .i64 c.m, .int .i64 c.p, .int .i64 c.c, .int .i64 c.s, .int .i64 c.k] 23)
  have HW := Lib.hid (fun (wx : World) => awake14_any H wx)
  have HXY := Lib.hid (fun (wx : World) => H.newer a b wx)
  have HYX := Lib.hid (fun (wx : World) => H.newer b a wx)
  have HAA := Lib.hid (fun (wx : World) => H.newer a a wx)
  have HBC := Lib.hid (fun (wx : World) => H.newer b c wx)
  have HAC := Lib.hid (fun (wx : World) => H.newer a c wx)
  rw [newB_self] at HAA
  rw [hx] at HXY
  rw [hy] at HYX
  clear hx hy HBC HAC
  rcases e.out with ⟨_, h⟩ | ⟨_, _, h⟩ | ⟨_, _, _, h⟩ | ⟨e1, e2, e3, _⟩
  · cases h
  · cases h
  · cases h
  · skip
    obtain ⟨p0, p1, p2, p3, p4, p5, p6, p7, p8⟩ := rpIn9 hP
    obtain ⟨q0, q1, q2, q3, q4, q5, q6, q7, q8⟩ := rpIn9 hQ
    obtain ⟨s0, s1, s2, s3, s4, s5, s6, s7, s8⟩ := rpIn9 hR
    go_enter Try.func7, Try.ntmps7
    go_wp2_with fail
    generalize ((w.alloc (.cells #[.int .i64 a.d, .int .i64 a.i, .int .i64 a.b, .int .i64 a.t, .int .i64 a.m, .int .i64 a.p, .int .i64 a.c, .int .i64 a.s, .int .i64 a.k] 23)).alloc (.cells #[.int .i64 b.d, .int .i64 b.i, .int .i64 b.b, .int .i64 b.t, .int .i64 b.m, .int .i64 b.p, .int .i64 b.c, .int .i64 b.s, .int .i64 b.k] 23)).alloc (.cells #[.int .i64 c.d, .int .i64 c.i, .int .i64 c.b, .int .i64 c.t, .int .i64 c.m, .int .i64 c.p, .int .i64 c.c, .int .i64 c.s, .int .i64 c.k] 23) = W0 at *
    obtain ⟨n3, hn3⟩ : ∃ n, w.heap.size + 1 + 1 = n := ⟨_, rfl⟩
    obtain ⟨n2, hn2⟩ : ∃ n, w.heap.size + 1 = n := ⟨_, rfl⟩
    obtain ⟨n1, hn1⟩ : ∃ n, w.heap.size = n := ⟨_, rfl⟩
    rw [hn3] at hR s0 s1 s2 s3 s4 s5 s6 s7 s8 ⊢
    rw [hn2] at hQ q0 q1 q2 q3 q4 q5 q6 q7 q8 ⊢
    rw [hn1] at hP p0 p1 p2 p3 p4 p5 p6 p7 p8 ⊢
    clear hn1 hn2 hn3
    refine (HXY.out _).mono ?_
    rintro r v ⟨rfl, hb⟩
    replace hP := hP.below hb
    replace hQ := hQ.below hb
    replace hR := hR.below hb
    replace hB := hB.trans (hb.mono hB.size)
    clear hb
    clear p0 p1 p2 p3 p4 p5 p6 p7 p8 q0 q1 q2 q3 q4 q5 q6 q7 q8 s0 s1 s2 s3 s4 s5 s6 s7 s8
    obtain ⟨p0, p1, p2, p3, p4, p5, p6, p7, p8⟩ := rpIn9 hP
    obtain ⟨q0, q1, q2, q3, q4, q5, q6, q7, q8⟩ := rpIn9 hQ
    obtain ⟨s0, s1, s2, s3, s4, s5, s6, s7, s8⟩ := rpIn9 hR
    go_wp2_with fail
    refine (HAA.out _).mono ?_
    rintro r v ⟨rfl, hb⟩
    replace hP := hP.below hb
    replace hQ := hQ.below hb
    replace hR := hR.below hb
    replace hB := hB.trans (hb.mono hB.size)
    clear hb
    clear p0 p1 p2 p3 p4 p5 p6 p7 p8 q0 q1 q2 q3 q4 q5 q6 q7 q8 s0 s1 s2 s3 s4 s5 s6 s7 s8
    obtain ⟨p0, p1, p2, p3, p4, p5, p6, p7, p8⟩ := rpIn9 hP
    obtain ⟨q0, q1, q2, q3, q4, q5, q6, q7, q8⟩ := rpIn9 hQ
    obtain ⟨s0, s1, s2, s3, s4, s5, s6, s7, s8⟩ := rpIn9 hR
    go_wp2_with fail
    refine (HW.out _).mono ?_
    rintro r v ⟨rfl, hb⟩
    replace hP := hP.below hb
    replace hQ := hQ.below hb
    replace hR := hR.below hb
    replace hB := hB.trans (hb.mono hB.size)
    clear hb
    clear p0 p1 p2 p3 p4 p5 p6 p7 p8 q0 q1 q2 q3 q4 q5 q6 q7 q8 s0 s1 s2 s3 s4 s5 s6 s7 s8
    obtain ⟨p0, p1, p2, p3, p4, p5, p6, p7, p8⟩ := rpIn9 hP
    obtain ⟨q0, q1, q2, q3, q4, q5, q6, q7, q8⟩ := rpIn9 hQ
    obtain ⟨s0, s1, s2, s3, s4, s5, s6, s7, s8⟩ := rpIn9 hR
    go_wp2_with fail
    refine (HXY.out _).mono ?_
    rintro r v ⟨rfl, hb⟩
    replace hP := hP.below hb
    replace hQ := hQ.below hb
    replace hR := hR.below hb
    replace hB := hB.trans (hb.mono hB.size)
    clear hb
    clear p0 p1 p2 p3 p4 p5 p6 p7 p8 q0 q1 q2 q3 q4 q5 q6 q7 q8 s0 s1 s2 s3 s4 s5 s6 s7 s8
    obtain ⟨p0, p1, p2, p3, p4, p5, p6, p7, p8⟩ := rpIn9 hP
    obtain ⟨q0, q1, q2, q3, q4, q5, q6, q7, q8⟩ := rpIn9 hQ
    obtain ⟨s0, s1, s2, s3, s4, s5, s6, s7, s8⟩ := rpIn9 hR
    go_wp2_with fail
    refine (HYX.out _).mono ?_
    rintro r v ⟨rfl, hb⟩
    replace hP := hP.below hb
    replace hQ := hQ.below hb
    replace hR := hR.below hb
    replace hB := hB.trans (hb.mono hB.size)
    clear hb
    clear p0 p1 p2 p3 p4 p5 p6 p7 p8 q0 q1 q2 q3 q4 q5 q6 q7 q8 s0 s1 s2 s3 s4 s5 s6 s7 s8
    obtain ⟨p0, p1, p2, p3, p4, p5, p6, p7, p8⟩ := rpIn9 hP
    obtain ⟨q0, q1, q2, q3, q4, q5, q6, q7, q8⟩ := rpIn9 hQ
    obtain ⟨s0, s1, s2, s3, s4, s5, s6, s7, s8⟩ := rpIn9 hR
    go_wp2_with fail
    refine (HXY.out _).mono ?_
    rintro r v ⟨rfl, hb⟩
    replace hP := hP.below hb
    replace hQ := hQ.below hb
    replace hR := hR.below hb
    replace hB := hB.trans (hb.mono hB.size)
    clear hb
    clear p0 p1 p2 p3 p4 p5 p6 p7 p8 q0 q1 q2 q3 q4 q5 q6 q7 q8 s0 s1 s2 s3 s4 s5 s6 s7 s8
    obtain ⟨p0, p1, p2, p3, p4, p5, p6, p7, p8⟩ := rpIn9 hP
    obtain ⟨q0, q1, q2, q3, q4, q5, q6, q7, q8⟩ := rpIn9 hQ
    obtain ⟨s0, s1, s2, s3, s4, s5, s6, s7, s8⟩ := rpIn9 hR
    go_wp2_with fail
    go_ret
    exact ⟨rfl, hB⟩
theorem order14_all (H : ReportCalls) (a b c : Rp) (w : World) : Calls Try.prog 7 #[.agg #[.int .i64 a.d, .int .i64 a.i, .int .i64 a.b, .int .i64 a.t, .int .i64 a.m, .int .i64 a.p, .int .i64 a.c, .int .i64 a.s, .int .i64 a.k], .agg #[.int .i64 b.d, .int .i64 b.i, .int .i64 b.b, .int .i64 b.t, .int .i64 b.m, .int .i64 b.p, .int .i64 b.c, .int .i64 b.s, .int .i64 b.k], .agg #[.int .i64 c.d, .int .i64 c.i, .int .i64 c.b, .int .i64 c.t, .int .i64 c.m, .int .i64 c.p, .int .i64 c.c, .int .i64 c.s, .int .i64 c.k]] w fun r w' => r = .returned (.bool true) ∧ Below w.heap.size w w' := by
  obtain ⟨sm, he, hs⟩ := unlikeR_of a b
  cases hx : newB a b with
  | true =>
    have hy := newB_anti hx
    have hsm : sm = false := by rw [Bool.eq_false_iff, ne_eq, hs]; rintro ⟨h, _⟩; rw [hx] at h; cases h
    subst hsm
    cases hz : newB b c with
    | false => exact order14_first H a b c w hx hy hz (Lib.hid he)
    | true => exact order14_chain H a b c w hx hy hz (newB_trans hx hz) (Lib.hid he)
  | false =>
    cases hy : newB b a with
    | true =>
      have hsm : sm = false := by rw [Bool.eq_false_iff, ne_eq, hs]; rintro ⟨_, h⟩; rw [hy] at h; cases h
      subst hsm
      exact order14_back H a b c w hx hy (Lib.hid he)
    | false =>
      have hsm : sm = true := hs.2 ⟨hx, hy⟩
      subst hsm
      exact order14_none H a b c w hx hy (Lib.hid he)
set_option maxRecDepth 100000 in
theorem order14_lifted (H0 : ReportCalls) (os : Os) (started : os.Started) (H : Type) (enc : TypeId × Value → H) :
    ReturnsInHanded {} Try.checked os 7 .any (Rows.reportOrderSpec.pre6 enc Try.prog Try.f7 Rows.reportOrderRow.domain false) (Rows.reportOrderSpec.post enc Try.prog Try.f7 false true false false) := by
  refine returnsInHanded_of_change (C := Try.checked) own started (by kernel_rfl) Try.func7
    (ChangeSpec.witness6 (enc := enc) (C := Try.checked) false ⟨#[], #[.agg #[.int .i64 0, .int .i64 0, .int .i64 0, .int .i64 0, .int .i64 0, .int .i64 0, .int .i64 0, .int .i64 0, .int .i64 0], .agg #[.int .i64 0, .int .i64 0, .int .i64 0, .int .i64 0, .int .i64 0, .int .i64 0, .int .i64 0, .int .i64 0, .int .i64 0], .agg #[.int .i64 0, .int .i64 0, .int .i64 0, .int .i64 0, .int .i64 0, .int .i64 0, .int .i64 0, .int .i64 0, .int .i64 0]], []⟩ 8 (by kernel_rfl) (by kernel_rfl) (by kernel_rfl) (by kernel_rfl)) ?_
  intro W base args ds gs before hval0 hW _ _
  have hval : ∀ (j : Nat) t v, Try.f7.params[j]? = some t → args[j]? = some v → Value.okWide Try.prog W .any base t v := hval0
  have hW' := hW
  obtain ⟨p, q, hA0, hV, rfl, _, _⟩ := hW
  have hA : DataW.TrodAll enc Try.prog W 0 (fun _ => true) true Try.f7.params.toList args.toList ds p := hA0
  rw [Try.params7] at hA hval
  obtain ⟨v0, v1, v2, d0, d1, d2, p0, p1, p2, rfl, rfl, rfl, h0, h1, h2⟩ := trodAll_three hA
  obtain ⟨a, rfl, _⟩ := open_rp (hval 0 23 v0 rfl rfl) h0
  obtain ⟨b, rfl, _⟩ := open_rp (hval 1 23 v1 rfl rfl) h1
  obtain ⟨c, rfl, _⟩ := open_rp (hval 2 23 v2 rfl rfl) h2
  have hc : Calls Try.prog 7 #[.agg #[.int .i64 a.d, .int .i64 a.i, .int .i64 a.b, .int .i64 a.t, .int .i64 a.m, .int .i64 a.p, .int .i64 a.c, .int .i64 a.s, .int .i64 a.k], .agg #[.int .i64 b.d, .int .i64 b.i, .int .i64 b.b, .int .i64 b.t, .int .i64 b.m, .int .i64 b.p, .int .i64 b.c, .int .i64 b.s, .int .i64 b.k], .agg #[.int .i64 c.d, .int .i64 c.i, .int .i64 c.b, .int .i64 c.t, .int .i64 c.m, .int .i64 c.p, .int .i64 c.c, .int .i64 c.s, .int .i64 c.k]] W fun e w' => e = .returned (.bool true) ∧ Below W.heap.size W w' := by
    exact order14_all H0 a b c W
  refine hc.mono fun e W' ⟨he, hb⟩ => ?_
  subst he
  exact ⟨_, rfl, Frm.law_post (by kernel_rfl) (by kernel_rfl) (by kernel_rfl) Try.underlying4 rfl rfl hW' hb⟩

theorem order14_holds (H0 : ReportCalls) : Rows.ReportOrderSaid :=
  OpenClaim.holds_of_wide 7 Try.f7 rfl rfl rfl rfl rfl rfl rfl ⟨rfl, rfl, rfl, rfl, rfl⟩ rfl rfl rfl rfl rfl (by kernel_rfl) Try.func7 (by kernel_rfl)
    (of_decide_eq_true (by kernel_rfl)) (by unfold Func.isWrapper; first | (rw [if_pos (by decide +kernel)]; kernel_rfl) | (rw [if_neg (by decide +kernel)]; exact ⟨rfl, rfl⟩))
    (fun os started H enc _ => order14_lifted H0 os started H enc)
end Go.Proofs.Ytknoabafpgdooaa

namespace Go.Proofs.Ytknoabafpgdooaa
theorem reportOrder_all : Rows.ReportOrderSaid := order14_holds reportCalls
end Go.Proofs.Ytknoabafpgdooaa
