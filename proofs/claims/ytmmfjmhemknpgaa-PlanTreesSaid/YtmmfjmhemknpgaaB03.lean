/- Texts laid one behind the other: Zl, Zm. -/
import Derived.Test.YtmmfjmhemknpgaaB02
/- The program's Right: whether a plan's numbers may be, and its nodes. -/
namespace Go.Proofs.Ytmmfjmhemknpgaa
open Go.RowKit Go.Deep Pln

theorem same_below {P : Program} {f : FuncId} {args : Array Value} {w : World} {v : Value} (h : Calls P f args w fun e w' => e = .returned v ∧ w' = w) : Calls P f args w fun e w' => e = .returned v ∧ Below w.heap.size w w' :=
  h.mono fun _ _ ⟨h1, h2⟩ => ⟨h1, h2 ▸ Below.refl _ _⟩
set_option maxRecDepth 100000 in
set_option maxHeartbeats 2000000 in
theorem tooShort_any (x : Pnw) (w : World) (hT : inE.Sl w x.A x.p.u) (hR : Shp x.p.u) (hw : 1 ≤ x.p.w ∧ x.p.w ≤ 8) (hd : deepest x.p.u ≤ 4) : Calls Try.prog 23 #[.agg #[.slice x.A x.p.u.length x.c, .int .i64 x.p.q, .int .i64 x.p.r, .int .i64 x.p.b, .int .i64 x.p.l, .int .i64 x.p.w, .int .i64 x.p.c, .int .i64 x.p.k, .int .i64 x.p.i]] w fun e w' => e = .returned (.int .i64 (2 * (deepest x.p.u : Int) * (x.p.w + 2))) ∧ Below w.heap.size w w' := by
  have hP : pnE.In (w.alloc (.cells #[.slice x.A x.p.u.length x.c, .int .i64 x.p.q, .int .i64 x.p.r, .int .i64 x.p.b, .int .i64 x.p.l, .int .i64 x.p.w, .int .i64 x.p.c, .int .i64 x.p.k, .int .i64 x.p.i] 24)) w.heap.size x := El.In.new (E := pnE) w x _ rfl
  have hB := below_alloc (Below.refl w.heap.size w) (.cells #[.slice x.A x.p.u.length x.c, .int .i64 x.p.q, .int .i64 x.p.r, .int .i64 x.p.b, .int .i64 x.p.l, .int .i64 x.p.w, .int .i64 x.p.c, .int .i64 x.p.k, .int .i64 x.p.i] 24)
  have HDE := Lib.hid (fun (wx : World) (hb : Below w.heap.size w wx) => pDeepest_any x wx (hT.below hb) hR)
  obtain ⟨p0, p1, p2, p3, p4, p5, p6, p7, p8⟩ := pnIn9 hP
  generalize deepest x.p.u = d at *
  have hs1 : IntKind.i64.wrap (2 * (d : Int)) = 2 * (d : Int) := by rw [IntKind.wrap_i64]; omega
  have hs2 : IntKind.i64.wrap (x.p.w + 2) = x.p.w + 2 := by rw [IntKind.wrap_i64]; omega
  have hs3 : IntKind.i64.wrap (2 * (d : Int) * (x.p.w + 2)) = 2 * (d : Int) * (x.p.w + 2) := by
    have h1 : 2 * (d : Int) * (x.p.w + 2) ≤ 2 * (d : Int) * 10 := Int.mul_le_mul_of_nonneg_left (by omega) (by omega)
    have h2 : 0 ≤ 2 * (d : Int) * (x.p.w + 2) := Int.mul_nonneg (by omega) (by omega)
    rw [IntKind.wrap_i64]; omega
  clear hT hR
  go_enter Try.func23, Try.ntmps23
  go_wp2_with fail
  clear p0 p1 p2 p3 p4 p5 p6 p7 p8
  generalize w.alloc (.cells #[.slice x.A x.p.u.length x.c, .int .i64 x.p.q, .int .i64 x.p.r, .int .i64 x.p.b, .int .i64 x.p.l, .int .i64 x.p.w, .int .i64 x.p.c, .int .i64 x.p.k, .int .i64 x.p.i] 24) = W0 at *
  obtain ⟨n1, hn1⟩ : ∃ n, w.heap.size = n := ⟨_, rfl⟩
  rw [hn1] at hP ⊢
  clear hn1
  replace hP : pnE.In W0.drew n1 x := hP
  replace hB := hB.drew
  go_region_held3 (fun w' => (w'.cell? ⟨n1, 0, none⟩ = some (.slice x.A x.p.u.length x.c) ∧ w'.cell? ⟨n1, 1, none⟩ = some (.int .i64 x.p.q) ∧ w'.cell? ⟨n1, 2, none⟩ = some (.int .i64 x.p.r) ∧ w'.cell? ⟨n1, 3, none⟩ = some (.int .i64 x.p.b) ∧ w'.cell? ⟨n1, 4, none⟩ = some (.int .i64 x.p.l) ∧ w'.cell? ⟨n1, 5, none⟩ = some (.int .i64 x.p.w) ∧ w'.cell? ⟨n1, 6, none⟩ = some (.int .i64 x.p.c) ∧ w'.cell? ⟨n1, 7, none⟩ = some (.int .i64 x.p.k) ∧ w'.cell? ⟨n1, 8, none⟩ = some (.int .i64 x.p.i))) (with_reducible exact pnIn9 hP) (first | (go_at_call 11; (with_reducible refine (HDE.out _ hB).mono ?_); rintro e w4 ⟨rfl, hb4⟩; have hP := hP.below hb4; have hB := hB.trans (hb4.mono hB.size)))
  go_wp2_with fail
  go_ret
  exact ⟨rfl, hB⟩

set_option maxRecDepth 100000 in
set_option maxHeartbeats 2000000 in
theorem num0_any (x : Pnw) (w : World) (hq : ¬ (1 ≤ x.p.q ∧ x.p.q ≤ 8)) : Calls Try.prog 15 #[.agg #[.slice x.A x.p.u.length x.c, .int .i64 x.p.q, .int .i64 x.p.r, .int .i64 x.p.b, .int .i64 x.p.l, .int .i64 x.p.w, .int .i64 x.p.c, .int .i64 x.p.k, .int .i64 x.p.i]] w fun e w' => e = .returned (.bool false) ∧ Below w.heap.size w w' := by
  have hP : pnE.In (w.alloc (.cells #[.slice x.A x.p.u.length x.c, .int .i64 x.p.q, .int .i64 x.p.r, .int .i64 x.p.b, .int .i64 x.p.l, .int .i64 x.p.w, .int .i64 x.p.c, .int .i64 x.p.k, .int .i64 x.p.i] 24)) w.heap.size x := El.In.new (E := pnE) w x _ rfl
  have hB := below_alloc (Below.refl w.heap.size w) (.cells #[.slice x.A x.p.u.length x.c, .int .i64 x.p.q, .int .i64 x.p.r, .int .i64 x.p.b, .int .i64 x.p.l, .int .i64 x.p.w, .int .i64 x.p.c, .int .i64 x.p.k, .int .i64 x.p.i] 24)
  have Hq := Lib.hid (fun (wx : World) => pWithin_any x.p.q 1 8 false ⟨fun h => (by cases h), fun h => absurd h hq⟩ wx)
  obtain ⟨p0, p1, p2, p3, p4, p5, p6, p7, p8⟩ := pnIn9 hP
  clear hq hP
  go_enter Try.func15, Try.ntmps15
  go_wp2_with fail
  generalize w.alloc (.cells #[.slice x.A x.p.u.length x.c, .int .i64 x.p.q, .int .i64 x.p.r, .int .i64 x.p.b, .int .i64 x.p.l, .int .i64 x.p.w, .int .i64 x.p.c, .int .i64 x.p.k, .int .i64 x.p.i] 24) = W at *
  obtain ⟨n1, hn1⟩ : ∃ n, w.heap.size = n := ⟨_, rfl⟩
  rw [hn1] at p0 p1 p2 p3 p4 p5 p6 p7 p8 ⊢
  clear hn1
  have k0 := cell_regrown p0
  have k1 := cell_regrown p1
  have k2 := cell_regrown p2
  have k3 := cell_regrown p3
  have k4 := cell_regrown p4
  have k5 := cell_regrown p5
  have k6 := cell_regrown p6
  have k7 := cell_regrown p7
  have k8 := cell_regrown p8
  clear p0 p1 p2 p3 p4 p5 p6 p7 p8
  have d0 : ∀ d os, Calls Try.prog 20 #[.int .i64 x.p.q, .int .i64 1, .int .i64 8] (Sort.grow (redrawn W d) os) fun e w'' => e = .returned (.bool false) ∧ ∃ p : Regrown, w'' = Sort.grow (redrawn W p.d) p.os := fun d os => Calls.regrown_of (same_below (Hq.out _))
  refine wp_region_quiet_below (by kernel_rfl) (by kernel_rfl) ?_
  repeat (go_big_quiet_step ((with_reducible (first | exact d0 _ _))))
  refine wpQuiet_nil ?_
  intro _ hw'
  obtain ⟨⟨dq, osq⟩, hw''⟩ := hw'
  subst hw''
  go_wp2
  go_ret
  exact ⟨rfl, below_then hB (below_regrown W dq osq)⟩

set_option maxRecDepth 100000 in
set_option maxHeartbeats 2000000 in
theorem num1_any (x : Pnw) (w : World) (hq : 1 ≤ x.p.q ∧ x.p.q ≤ 8) (hr : ¬ (1 ≤ x.p.r ∧ x.p.r ≤ 16)) : Calls Try.prog 15 #[.agg #[.slice x.A x.p.u.length x.c, .int .i64 x.p.q, .int .i64 x.p.r, .int .i64 x.p.b, .int .i64 x.p.l, .int .i64 x.p.w, .int .i64 x.p.c, .int .i64 x.p.k, .int .i64 x.p.i]] w fun e w' => e = .returned (.bool false) ∧ Below w.heap.size w w' := by
  have hP : pnE.In (w.alloc (.cells #[.slice x.A x.p.u.length x.c, .int .i64 x.p.q, .int .i64 x.p.r, .int .i64 x.p.b, .int .i64 x.p.l, .int .i64 x.p.w, .int .i64 x.p.c, .int .i64 x.p.k, .int .i64 x.p.i] 24)) w.heap.size x := El.In.new (E := pnE) w x _ rfl
  have hB := below_alloc (Below.refl w.heap.size w) (.cells #[.slice x.A x.p.u.length x.c, .int .i64 x.p.q, .int .i64 x.p.r, .int .i64 x.p.b, .int .i64 x.p.l, .int .i64 x.p.w, .int .i64 x.p.c, .int .i64 x.p.k, .int .i64 x.p.i] 24)
  have Hq := Lib.hid (fun (wx : World) => pWithin_any x.p.q 1 8 true ⟨fun _ => hq, fun _ => rfl⟩ wx)
  have Hr := Lib.hid (fun (wx : World) => pWithin_any x.p.r 1 16 false ⟨fun h => (by cases h), fun h => absurd h hr⟩ wx)
  obtain ⟨p0, p1, p2, p3, p4, p5, p6, p7, p8⟩ := pnIn9 hP
  clear hq hr hP
  go_enter Try.func15, Try.ntmps15
  go_wp2_with fail
  generalize w.alloc (.cells #[.slice x.A x.p.u.length x.c, .int .i64 x.p.q, .int .i64 x.p.r, .int .i64 x.p.b, .int .i64 x.p.l, .int .i64 x.p.w, .int .i64 x.p.c, .int .i64 x.p.k, .int .i64 x.p.i] 24) = W at *
  obtain ⟨n1, hn1⟩ : ∃ n, w.heap.size = n := ⟨_, rfl⟩
  rw [hn1] at p0 p1 p2 p3 p4 p5 p6 p7 p8 ⊢
  clear hn1
  have k0 := cell_regrown p0
  have k1 := cell_regrown p1
  have k2 := cell_regrown p2
  have k3 := cell_regrown p3
  have k4 := cell_regrown p4
  have k5 := cell_regrown p5
  have k6 := cell_regrown p6
  have k7 := cell_regrown p7
  have k8 := cell_regrown p8
  clear p0 p1 p2 p3 p4 p5 p6 p7 p8
  have d0 : ∀ d os, Calls Try.prog 20 #[.int .i64 x.p.q, .int .i64 1, .int .i64 8] (Sort.grow (redrawn W d) os) fun e w'' => e = .returned (.bool true) ∧ ∃ p : Regrown, w'' = Sort.grow (redrawn W p.d) p.os := fun d os => Calls.regrown_of (same_below (Hq.out _))
  have d1 : ∀ d os, Calls Try.prog 20 #[.int .i64 x.p.r, .int .i64 1, .int .i64 16] (Sort.grow (redrawn W d) os) fun e w'' => e = .returned (.bool false) ∧ ∃ p : Regrown, w'' = Sort.grow (redrawn W p.d) p.os := fun d os => Calls.regrown_of (same_below (Hr.out _))
  refine wp_region_quiet_below (by kernel_rfl) (by kernel_rfl) ?_
  repeat (go_big_quiet_step ((with_reducible (first | exact d0 _ _ | exact d1 _ _))))
  refine wpQuiet_nil ?_
  intro _ hw'
  obtain ⟨⟨dq, osq⟩, hw''⟩ := hw'
  subst hw''
  go_wp2
  go_ret
  exact ⟨rfl, below_then hB (below_regrown W dq osq)⟩

set_option maxRecDepth 100000 in
set_option maxHeartbeats 2000000 in
theorem num2_any (x : Pnw) (w : World) (hq : 1 ≤ x.p.q ∧ x.p.q ≤ 8) (hr : 1 ≤ x.p.r ∧ x.p.r ≤ 16) (hb : ¬ (1 ≤ x.p.b ∧ x.p.b ≤ 8)) : Calls Try.prog 15 #[.agg #[.slice x.A x.p.u.length x.c, .int .i64 x.p.q, .int .i64 x.p.r, .int .i64 x.p.b, .int .i64 x.p.l, .int .i64 x.p.w, .int .i64 x.p.c, .int .i64 x.p.k, .int .i64 x.p.i]] w fun e w' => e = .returned (.bool false) ∧ Below w.heap.size w w' := by
  have hP : pnE.In (w.alloc (.cells #[.slice x.A x.p.u.length x.c, .int .i64 x.p.q, .int .i64 x.p.r, .int .i64 x.p.b, .int .i64 x.p.l, .int .i64 x.p.w, .int .i64 x.p.c, .int .i64 x.p.k, .int .i64 x.p.i] 24)) w.heap.size x := El.In.new (E := pnE) w x _ rfl
  have hB := below_alloc (Below.refl w.heap.size w) (.cells #[.slice x.A x.p.u.length x.c, .int .i64 x.p.q, .int .i64 x.p.r, .int .i64 x.p.b, .int .i64 x.p.l, .int .i64 x.p.w, .int .i64 x.p.c, .int .i64 x.p.k, .int .i64 x.p.i] 24)
  have Hq := Lib.hid (fun (wx : World) => pWithin_any x.p.q 1 8 true ⟨fun _ => hq, fun _ => rfl⟩ wx)
  have Hr := Lib.hid (fun (wx : World) => pWithin_any x.p.r 1 16 true ⟨fun _ => hr, fun _ => rfl⟩ wx)
  have Hb := Lib.hid (fun (wx : World) => pWithin_any x.p.b 1 8 false ⟨fun h => (by cases h), fun h => absurd h hb⟩ wx)
  obtain ⟨p0, p1, p2, p3, p4, p5, p6, p7, p8⟩ := pnIn9 hP
  clear hq hr hb hP
  go_enter Try.func15, Try.ntmps15
  go_wp2_with fail
  generalize w.alloc (.cells #[.slice x.A x.p.u.length x.c, .int .i64 x.p.q, .int .i64 x.p.r, .int .i64 x.p.b, .int .i64 x.p.l, .int .i64 x.p.w, .int .i64 x.p.c, .int .i64 x.p.k, .int .i64 x.p.i] 24) = W at *
  obtain ⟨n1, hn1⟩ : ∃ n, w.heap.size = n := ⟨_, rfl⟩
  rw [hn1] at p0 p1 p2 p3 p4 p5 p6 p7 p8 ⊢
  clear hn1
  have k0 := cell_regrown p0
  have k1 := cell_regrown p1
  have k2 := cell_regrown p2
  have k3 := cell_regrown p3
  have k4 := cell_regrown p4
  have k5 := cell_regrown p5
  have k6 := cell_regrown p6
  have k7 := cell_regrown p7
  have k8 := cell_regrown p8
  clear p0 p1 p2 p3 p4 p5 p6 p7 p8
  have d0 : ∀ d os, Calls Try.prog 20 #[.int .i64 x.p.q, .int .i64 1, .int .i64 8] (Sort.grow (redrawn W d) os) fun e w'' => e = .returned (.bool true) ∧ ∃ p : Regrown, w'' = Sort.grow (redrawn W p.d) p.os := fun d os => Calls.regrown_of (same_below (Hq.out _))
  have d1 : ∀ d os, Calls Try.prog 20 #[.int .i64 x.p.r, .int .i64 1, .int .i64 16] (Sort.grow (redrawn W d) os) fun e w'' => e = .returned (.bool true) ∧ ∃ p : Regrown, w'' = Sort.grow (redrawn W p.d) p.os := fun d os => Calls.regrown_of (same_below (Hr.out _))
  have d2 : ∀ d os, Calls Try.prog 20 #[.int .i64 x.p.b, .int .i64 1, .int .i64 8] (Sort.grow (redrawn W d) os) fun e w'' => e = .returned (.bool false) ∧ ∃ p : Regrown, w'' = Sort.grow (redrawn W p.d) p.os := fun d os => Calls.regrown_of (same_below (Hb.out _))
  refine wp_region_quiet_below (by kernel_rfl) (by kernel_rfl) ?_
  repeat (go_big_quiet_step ((with_reducible (first | exact d0 _ _ | exact d1 _ _ | exact d2 _ _))))
  refine wpQuiet_nil ?_
  intro _ hw'
  obtain ⟨⟨dq, osq⟩, hw''⟩ := hw'
  subst hw''
  go_wp2
  go_ret
  exact ⟨rfl, below_then hB (below_regrown W dq osq)⟩

set_option maxRecDepth 100000 in
set_option maxHeartbeats 2000000 in
theorem num3_any (x : Pnw) (w : World) (hq : 1 ≤ x.p.q ∧ x.p.q ≤ 8) (hr : 1 ≤ x.p.r ∧ x.p.r ≤ 16) (hb : 1 ≤ x.p.b ∧ x.p.b ≤ 8) (hw : ¬ (1 ≤ x.p.w ∧ x.p.w ≤ 8)) : Calls Try.prog 15 #[.agg #[.slice x.A x.p.u.length x.c, .int .i64 x.p.q, .int .i64 x.p.r, .int .i64 x.p.b, .int .i64 x.p.l, .int .i64 x.p.w, .int .i64 x.p.c, .int .i64 x.p.k, .int .i64 x.p.i]] w fun e w' => e = .returned (.bool false) ∧ Below w.heap.size w w' := by
  have hP : pnE.In (w.alloc (.cells #[.slice x.A x.p.u.length x.c, .int .i64 x.p.q, .int .i64 x.p.r, .int .i64 x.p.b, .int .i64 x.p.l, .int .i64 x.p.w, .int .i64 x.p.c, .int .i64 x.p.k, .int .i64 x.p.i] 24)) w.heap.size x := El.In.new (E := pnE) w x _ rfl
  have hB := below_alloc (Below.refl w.heap.size w) (.cells #[.slice x.A x.p.u.length x.c, .int .i64 x.p.q, .int .i64 x.p.r, .int .i64 x.p.b, .int .i64 x.p.l, .int .i64 x.p.w, .int .i64 x.p.c, .int .i64 x.p.k, .int .i64 x.p.i] 24)
  have Hq := Lib.hid (fun (wx : World) => pWithin_any x.p.q 1 8 true ⟨fun _ => hq, fun _ => rfl⟩ wx)
  have Hr := Lib.hid (fun (wx : World) => pWithin_any x.p.r 1 16 true ⟨fun _ => hr, fun _ => rfl⟩ wx)
  have Hb := Lib.hid (fun (wx : World) => pWithin_any x.p.b 1 8 true ⟨fun _ => hb, fun _ => rfl⟩ wx)
  have Hw := Lib.hid (fun (wx : World) => pWithin_any x.p.w 1 8 false ⟨fun h => (by cases h), fun h => absurd h hw⟩ wx)
  obtain ⟨p0, p1, p2, p3, p4, p5, p6, p7, p8⟩ := pnIn9 hP
  clear hq hr hb hw hP
  go_enter Try.func15, Try.ntmps15
  go_wp2_with fail
  generalize w.alloc (.cells #[.slice x.A x.p.u.length x.c, .int .i64 x.p.q, .int .i64 x.p.r, .int .i64 x.p.b, .int .i64 x.p.l, .int .i64 x.p.w, .int .i64 x.p.c, .int .i64 x.p.k, .int .i64 x.p.i] 24) = W at *
  obtain ⟨n1, hn1⟩ : ∃ n, w.heap.size = n := ⟨_, rfl⟩
  rw [hn1] at p0 p1 p2 p3 p4 p5 p6 p7 p8 ⊢
  clear hn1
  have k0 := cell_regrown p0
  have k1 := cell_regrown p1
  have k2 := cell_regrown p2
  have k3 := cell_regrown p3
  have k4 := cell_regrown p4
  have k5 := cell_regrown p5
  have k6 := cell_regrown p6
  have k7 := cell_regrown p7
  have k8 := cell_regrown p8
  clear p0 p1 p2 p3 p4 p5 p6 p7 p8
  have d0 : ∀ d os, Calls Try.prog 20 #[.int .i64 x.p.q, .int .i64 1, .int .i64 8] (Sort.grow (redrawn W d) os) fun e w'' => e = .returned (.bool true) ∧ ∃ p : Regrown, w'' = Sort.grow (redrawn W p.d) p.os := fun d os => Calls.regrown_of (same_below (Hq.out _))
  have d1 : ∀ d os, Calls Try.prog 20 #[.int .i64 x.p.r, .int .i64 1, .int .i64 16] (Sort.grow (redrawn W d) os) fun e w'' => e = .returned (.bool true) ∧ ∃ p : Regrown, w'' = Sort.grow (redrawn W p.d) p.os := fun d os => Calls.regrown_of (same_below (Hr.out _))
  have d2 : ∀ d os, Calls Try.prog 20 #[.int .i64 x.p.b, .int .i64 1, .int .i64 8] (Sort.grow (redrawn W d) os) fun e w'' => e = .returned (.bool true) ∧ ∃ p : Regrown, w'' = Sort.grow (redrawn W p.d) p.os := fun d os => Calls.regrown_of (same_below (Hb.out _))
  have d3 : ∀ d os, Calls Try.prog 20 #[.int .i64 x.p.w, .int .i64 1, .int .i64 8] (Sort.grow (redrawn W d) os) fun e w'' => e = .returned (.bool false) ∧ ∃ p : Regrown, w'' = Sort.grow (redrawn W p.d) p.os := fun d os => Calls.regrown_of (same_below (Hw.out _))
  refine wp_region_quiet_below (by kernel_rfl) (by kernel_rfl) ?_
  repeat (go_big_quiet_step ((with_reducible (first | exact d0 _ _ | exact d1 _ _ | exact d2 _ _ | exact d3 _ _))))
  refine wpQuiet_nil ?_
  intro _ hw'
  obtain ⟨⟨dq, osq⟩, hw''⟩ := hw'
  subst hw''
  go_wp2
  go_ret
  exact ⟨rfl, below_then hB (below_regrown W dq osq)⟩

set_option maxRecDepth 100000 in
set_option maxHeartbeats 2000000 in
theorem num4_any (x : Pnw) (w : World) (hq : 1 ≤ x.p.q ∧ x.p.q ≤ 8) (hr : 1 ≤ x.p.r ∧ x.p.r ≤ 16) (hb : 1 ≤ x.p.b ∧ x.p.b ≤ 8) (hw : 1 ≤ x.p.w ∧ x.p.w ≤ 8) (hc : ¬ (16 ≤ x.p.c ∧ x.p.c ≤ 256)) : Calls Try.prog 15 #[.agg #[.slice x.A x.p.u.length x.c, .int .i64 x.p.q, .int .i64 x.p.r, .int .i64 x.p.b, .int .i64 x.p.l, .int .i64 x.p.w, .int .i64 x.p.c, .int .i64 x.p.k, .int .i64 x.p.i]] w fun e w' => e = .returned (.bool false) ∧ Below w.heap.size w w' := by
  have hP : pnE.In (w.alloc (.cells #[.slice x.A x.p.u.length x.c, .int .i64 x.p.q, .int .i64 x.p.r, .int .i64 x.p.b, .int .i64 x.p.l, .int .i64 x.p.w, .int .i64 x.p.c, .int .i64 x.p.k, .int .i64 x.p.i] 24)) w.heap.size x := El.In.new (E := pnE) w x _ rfl
  have hB := below_alloc (Below.refl w.heap.size w) (.cells #[.slice x.A x.p.u.length x.c, .int .i64 x.p.q, .int .i64 x.p.r, .int .i64 x.p.b, .int .i64 x.p.l, .int .i64 x.p.w, .int .i64 x.p.c, .int .i64 x.p.k, .int .i64 x.p.i] 24)
  have Hq := Lib.hid (fun (wx : World) => pWithin_any x.p.q 1 8 true ⟨fun _ => hq, fun _ => rfl⟩ wx)
  have Hr := Lib.hid (fun (wx : World) => pWithin_any x.p.r 1 16 true ⟨fun _ => hr, fun _ => rfl⟩ wx)
  have Hb := Lib.hid (fun (wx : World) => pWithin_any x.p.b 1 8 true ⟨fun _ => hb, fun _ => rfl⟩ wx)
  have Hw := Lib.hid (fun (wx : World) => pWithin_any x.p.w 1 8 true ⟨fun _ => hw, fun _ => rfl⟩ wx)
  have Hc := Lib.hid (fun (wx : World) => pWithin_any x.p.c 16 256 false ⟨fun h => (by cases h), fun h => absurd h hc⟩ wx)
  obtain ⟨p0, p1, p2, p3, p4, p5, p6, p7, p8⟩ := pnIn9 hP
  clear hq hr hb hw hc hP
  go_enter Try.func15, Try.ntmps15
  go_wp2_with fail
  generalize w.alloc (.cells #[.slice x.A x.p.u.length x.c, .int .i64 x.p.q, .int .i64 x.p.r, .int .i64 x.p.b, .int .i64 x.p.l, .int .i64 x.p.w, .int .i64 x.p.c, .int .i64 x.p.k, .int .i64 x.p.i] 24) = W at *
  obtain ⟨n1, hn1⟩ : ∃ n, w.heap.size = n := ⟨_, rfl⟩
  rw [hn1] at p0 p1 p2 p3 p4 p5 p6 p7 p8 ⊢
  clear hn1
  have k0 := cell_regrown p0
  have k1 := cell_regrown p1
  have k2 := cell_regrown p2
  have k3 := cell_regrown p3
  have k4 := cell_regrown p4
  have k5 := cell_regrown p5
  have k6 := cell_regrown p6
  have k7 := cell_regrown p7
  have k8 := cell_regrown p8
  clear p0 p1 p2 p3 p4 p5 p6 p7 p8
  have d0 : ∀ d os, Calls Try.prog 20 #[.int .i64 x.p.q, .int .i64 1, .int .i64 8] (Sort.grow (redrawn W d) os) fun e w'' => e = .returned (.bool true) ∧ ∃ p : Regrown, w'' = Sort.grow (redrawn W p.d) p.os := fun d os => Calls.regrown_of (same_below (Hq.out _))
  have d1 : ∀ d os, Calls Try.prog 20 #[.int .i64 x.p.r, .int .i64 1, .int .i64 16] (Sort.grow (redrawn W d) os) fun e w'' => e = .returned (.bool true) ∧ ∃ p : Regrown, w'' = Sort.grow (redrawn W p.d) p.os := fun d os => Calls.regrown_of (same_below (Hr.out _))
  have d2 : ∀ d os, Calls Try.prog 20 #[.int .i64 x.p.b, .int .i64 1, .int .i64 8] (Sort.grow (redrawn W d) os) fun e w'' => e = .returned (.bool true) ∧ ∃ p : Regrown, w'' = Sort.grow (redrawn W p.d) p.os := fun d os => Calls.regrown_of (same_below (Hb.out _))
  have d3 : ∀ d os, Calls Try.prog 20 #[.int .i64 x.p.w, .int .i64 1, .int .i64 8] (Sort.grow (redrawn W d) os) fun e w'' => e = .returned (.bool true) ∧ ∃ p : Regrown, w'' = Sort.grow (redrawn W p.d) p.os := fun d os => Calls.regrown_of (same_below (Hw.out _))
  have d4 : ∀ d os, Calls Try.prog 20 #[.int .i64 x.p.c, .int .i64 16, .int .i64 256] (Sort.grow (redrawn W d) os) fun e w'' => e = .returned (.bool false) ∧ ∃ p : Regrown, w'' = Sort.grow (redrawn W p.d) p.os := fun d os => Calls.regrown_of (same_below (Hc.out _))
  refine wp_region_quiet_below (by kernel_rfl) (by kernel_rfl) ?_
  repeat (go_big_quiet_step ((with_reducible (first | exact d0 _ _ | exact d1 _ _ | exact d2 _ _ | exact d3 _ _ | exact d4 _ _))))
  refine wpQuiet_nil ?_
  intro _ hw'
  obtain ⟨⟨dq, osq⟩, hw''⟩ := hw'
  subst hw''
  go_wp2
  go_ret
  exact ⟨rfl, below_then hB (below_regrown W dq osq)⟩

set_option maxRecDepth 100000 in
set_option maxHeartbeats 2000000 in
theorem num5_any (x : Pnw) (w : World) (hq : 1 ≤ x.p.q ∧ x.p.q ≤ 8) (hr : 1 ≤ x.p.r ∧ x.p.r ≤ 16) (hb : 1 ≤ x.p.b ∧ x.p.b ≤ 8) (hw : 1 ≤ x.p.w ∧ x.p.w ≤ 8) (hc : 16 ≤ x.p.c ∧ x.p.c ≤ 256) (hk : ¬ (1 ≤ x.p.k ∧ x.p.k ≤ 16)) : Calls Try.prog 15 #[.agg #[.slice x.A x.p.u.length x.c, .int .i64 x.p.q, .int .i64 x.p.r, .int .i64 x.p.b, .int .i64 x.p.l, .int .i64 x.p.w, .int .i64 x.p.c, .int .i64 x.p.k, .int .i64 x.p.i]] w fun e w' => e = .returned (.bool false) ∧ Below w.heap.size w w' := by
  have hP : pnE.In (w.alloc (.cells #[.slice x.A x.p.u.length x.c, .int .i64 x.p.q, .int .i64 x.p.r, .int .i64 x.p.b, .int .i64 x.p.l, .int .i64 x.p.w, .int .i64 x.p.c, .int .i64 x.p.k, .int .i64 x.p.i] 24)) w.heap.size x := El.In.new (E := pnE) w x _ rfl
  have hB := below_alloc (Below.refl w.heap.size w) (.cells #[.slice x.A x.p.u.length x.c, .int .i64 x.p.q, .int .i64 x.p.r, .int .i64 x.p.b, .int .i64 x.p.l, .int .i64 x.p.w, .int .i64 x.p.c, .int .i64 x.p.k, .int .i64 x.p.i] 24)
  have Hq := Lib.hid (fun (wx : World) => pWithin_any x.p.q 1 8 true ⟨fun _ => hq, fun _ => rfl⟩ wx)
  have Hr := Lib.hid (fun (wx : World) => pWithin_any x.p.r 1 16 true ⟨fun _ => hr, fun _ => rfl⟩ wx)
  have Hb := Lib.hid (fun (wx : World) => pWithin_any x.p.b 1 8 true ⟨fun _ => hb, fun _ => rfl⟩ wx)
  have Hw := Lib.hid (fun (wx : World) => pWithin_any x.p.w 1 8 true ⟨fun _ => hw, fun _ => rfl⟩ wx)
  have Hc := Lib.hid (fun (wx : World) => pWithin_any x.p.c 16 256 true ⟨fun _ => hc, fun _ => rfl⟩ wx)
  have Hk := Lib.hid (fun (wx : World) => pWithin_any x.p.k 1 16 false ⟨fun h => (by cases h), fun h => absurd h hk⟩ wx)
  obtain ⟨p0, p1, p2, p3, p4, p5, p6, p7, p8⟩ := pnIn9 hP
  clear hq hr hb hw hc hk hP
  go_enter Try.func15, Try.ntmps15
  go_wp2_with fail
  generalize w.alloc (.cells #[.slice x.A x.p.u.length x.c, .int .i64 x.p.q, .int .i64 x.p.r, .int .i64 x.p.b, .int .i64 x.p.l, .int .i64 x.p.w, .int .i64 x.p.c, .int .i64 x.p.k, .int .i64 x.p.i] 24) = W at *
  obtain ⟨n1, hn1⟩ : ∃ n, w.heap.size = n := ⟨_, rfl⟩
  rw [hn1] at p0 p1 p2 p3 p4 p5 p6 p7 p8 ⊢
  clear hn1
  have k0 := cell_regrown p0
  have k1 := cell_regrown p1
  have k2 := cell_regrown p2
  have k3 := cell_regrown p3
  have k4 := cell_regrown p4
  have k5 := cell_regrown p5
  have k6 := cell_regrown p6
  have k7 := cell_regrown p7
  have k8 := cell_regrown p8
  clear p0 p1 p2 p3 p4 p5 p6 p7 p8
  have d0 : ∀ d os, Calls Try.prog 20 #[.int .i64 x.p.q, .int .i64 1, .int .i64 8] (Sort.grow (redrawn W d) os) fun e w'' => e = .returned (.bool true) ∧ ∃ p : Regrown, w'' = Sort.grow (redrawn W p.d) p.os := fun d os => Calls.regrown_of (same_below (Hq.out _))
  have d1 : ∀ d os, Calls Try.prog 20 #[.int .i64 x.p.r, .int .i64 1, .int .i64 16] (Sort.grow (redrawn W d) os) fun e w'' => e = .returned (.bool true) ∧ ∃ p : Regrown, w'' = Sort.grow (redrawn W p.d) p.os := fun d os => Calls.regrown_of (same_below (Hr.out _))
  have d2 : ∀ d os, Calls Try.prog 20 #[.int .i64 x.p.b, .int .i64 1, .int .i64 8] (Sort.grow (redrawn W d) os) fun e w'' => e = .returned (.bool true) ∧ ∃ p : Regrown, w'' = Sort.grow (redrawn W p.d) p.os := fun d os => Calls.regrown_of (same_below (Hb.out _))
  have d3 : ∀ d os, Calls Try.prog 20 #[.int .i64 x.p.w, .int .i64 1, .int .i64 8] (Sort.grow (redrawn W d) os) fun e w'' => e = .returned (.bool true) ∧ ∃ p : Regrown, w'' = Sort.grow (redrawn W p.d) p.os := fun d os => Calls.regrown_of (same_below (Hw.out _))
  have d4 : ∀ d os, Calls Try.prog 20 #[.int .i64 x.p.c, .int .i64 16, .int .i64 256] (Sort.grow (redrawn W d) os) fun e w'' => e = .returned (.bool true) ∧ ∃ p : Regrown, w'' = Sort.grow (redrawn W p.d) p.os := fun d os => Calls.regrown_of (same_below (Hc.out _))
  have d5 : ∀ d os, Calls Try.prog 20 #[.int .i64 x.p.k, .int .i64 1, .int .i64 16] (Sort.grow (redrawn W d) os) fun e w'' => e = .returned (.bool false) ∧ ∃ p : Regrown, w'' = Sort.grow (redrawn W p.d) p.os := fun d os => Calls.regrown_of (same_below (Hk.out _))
  refine wp_region_quiet_below (by kernel_rfl) (by kernel_rfl) ?_
  repeat (go_big_quiet_step ((with_reducible (first | exact d0 _ _ | exact d1 _ _ | exact d2 _ _ | exact d3 _ _ | exact d4 _ _ | exact d5 _ _))))
  refine wpQuiet_nil ?_
  intro _ hw'
  obtain ⟨⟨dq, osq⟩, hw''⟩ := hw'
  subst hw''
  go_wp2
  go_ret
  exact ⟨rfl, below_then hB (below_regrown W dq osq)⟩

set_option maxRecDepth 100000 in
set_option maxHeartbeats 2000000 in
theorem num6_any (x : Pnw) (w : World) (hq : 1 ≤ x.p.q ∧ x.p.q ≤ 8) (hr : 1 ≤ x.p.r ∧ x.p.r ≤ 16) (hb : 1 ≤ x.p.b ∧ x.p.b ≤ 8) (hw : 1 ≤ x.p.w ∧ x.p.w ≤ 8) (hc : 16 ≤ x.p.c ∧ x.p.c ≤ 256) (hk : 1 ≤ x.p.k ∧ x.p.k ≤ 16) (hi : ¬ (3 ≤ x.p.i ∧ x.p.i ≤ 64)) : Calls Try.prog 15 #[.agg #[.slice x.A x.p.u.length x.c, .int .i64 x.p.q, .int .i64 x.p.r, .int .i64 x.p.b, .int .i64 x.p.l, .int .i64 x.p.w, .int .i64 x.p.c, .int .i64 x.p.k, .int .i64 x.p.i]] w fun e w' => e = .returned (.bool false) ∧ Below w.heap.size w w' := by
  have hP : pnE.In (w.alloc (.cells #[.slice x.A x.p.u.length x.c, .int .i64 x.p.q, .int .i64 x.p.r, .int .i64 x.p.b, .int .i64 x.p.l, .int .i64 x.p.w, .int .i64 x.p.c, .int .i64 x.p.k, .int .i64 x.p.i] 24)) w.heap.size x := El.In.new (E := pnE) w x _ rfl
  have hB := below_alloc (Below.refl w.heap.size w) (.cells #[.slice x.A x.p.u.length x.c, .int .i64 x.p.q, .int .i64 x.p.r, .int .i64 x.p.b, .int .i64 x.p.l, .int .i64 x.p.w, .int .i64 x.p.c, .int .i64 x.p.k, .int .i64 x.p.i] 24)
  have Hq := Lib.hid (fun (wx : World) => pWithin_any x.p.q 1 8 true ⟨fun _ => hq, fun _ => rfl⟩ wx)
  have Hr := Lib.hid (fun (wx : World) => pWithin_any x.p.r 1 16 true ⟨fun _ => hr, fun _ => rfl⟩ wx)
  have Hb := Lib.hid (fun (wx : World) => pWithin_any x.p.b 1 8 true ⟨fun _ => hb, fun _ => rfl⟩ wx)
  have Hw := Lib.hid (fun (wx : World) => pWithin_any x.p.w 1 8 true ⟨fun _ => hw, fun _ => rfl⟩ wx)
  have Hc := Lib.hid (fun (wx : World) => pWithin_any x.p.c 16 256 true ⟨fun _ => hc, fun _ => rfl⟩ wx)
  have Hk := Lib.hid (fun (wx : World) => pWithin_any x.p.k 1 16 true ⟨fun _ => hk, fun _ => rfl⟩ wx)
  have Hi := Lib.hid (fun (wx : World) => pWithin_any x.p.i 3 64 false ⟨fun h => (by cases h), fun h => absurd h hi⟩ wx)
  obtain ⟨p0, p1, p2, p3, p4, p5, p6, p7, p8⟩ := pnIn9 hP
  clear hq hr hb hw hc hk hi hP
  go_enter Try.func15, Try.ntmps15
  go_wp2_with fail
  generalize w.alloc (.cells #[.slice x.A x.p.u.length x.c, .int .i64 x.p.q, .int .i64 x.p.r, .int .i64 x.p.b, .int .i64 x.p.l, .int .i64 x.p.w, .int .i64 x.p.c, .int .i64 x.p.k, .int .i64 x.p.i] 24) = W at *
  obtain ⟨n1, hn1⟩ : ∃ n, w.heap.size = n := ⟨_, rfl⟩
  rw [hn1] at p0 p1 p2 p3 p4 p5 p6 p7 p8 ⊢
  clear hn1
  have k0 := cell_regrown p0
  have k1 := cell_regrown p1
  have k2 := cell_regrown p2
  have k3 := cell_regrown p3
  have k4 := cell_regrown p4
  have k5 := cell_regrown p5
  have k6 := cell_regrown p6
  have k7 := cell_regrown p7
  have k8 := cell_regrown p8
  clear p0 p1 p2 p3 p4 p5 p6 p7 p8
  have d0 : ∀ d os, Calls Try.prog 20 #[.int .i64 x.p.q, .int .i64 1, .int .i64 8] (Sort.grow (redrawn W d) os) fun e w'' => e = .returned (.bool true) ∧ ∃ p : Regrown, w'' = Sort.grow (redrawn W p.d) p.os := fun d os => Calls.regrown_of (same_below (Hq.out _))
  have d1 : ∀ d os, Calls Try.prog 20 #[.int .i64 x.p.r, .int .i64 1, .int .i64 16] (Sort.grow (redrawn W d) os) fun e w'' => e = .returned (.bool true) ∧ ∃ p : Regrown, w'' = Sort.grow (redrawn W p.d) p.os := fun d os => Calls.regrown_of (same_below (Hr.out _))
  have d2 : ∀ d os, Calls Try.prog 20 #[.int .i64 x.p.b, .int .i64 1, .int .i64 8] (Sort.grow (redrawn W d) os) fun e w'' => e = .returned (.bool true) ∧ ∃ p : Regrown, w'' = Sort.grow (redrawn W p.d) p.os := fun d os => Calls.regrown_of (same_below (Hb.out _))
  have d3 : ∀ d os, Calls Try.prog 20 #[.int .i64 x.p.w, .int .i64 1, .int .i64 8] (Sort.grow (redrawn W d) os) fun e w'' => e = .returned (.bool true) ∧ ∃ p : Regrown, w'' = Sort.grow (redrawn W p.d) p.os := fun d os => Calls.regrown_of (same_below (Hw.out _))
  have d4 : ∀ d os, Calls Try.prog 20 #[.int .i64 x.p.c, .int .i64 16, .int .i64 256] (Sort.grow (redrawn W d) os) fun e w'' => e = .returned (.bool true) ∧ ∃ p : Regrown, w'' = Sort.grow (redrawn W p.d) p.os := fun d os => Calls.regrown_of (same_below (Hc.out _))
  have d5 : ∀ d os, Calls Try.prog 20 #[.int .i64 x.p.k, .int .i64 1, .int .i64 16] (Sort.grow (redrawn W d) os) fun e w'' => e = .returned (.bool true) ∧ ∃ p : Regrown, w'' = Sort.grow (redrawn W p.d) p.os := fun d os => Calls.regrown_of (same_below (Hk.out _))
  have d6 : ∀ d os, Calls Try.prog 20 #[.int .i64 x.p.i, .int .i64 3, .int .i64 64] (Sort.grow (redrawn W d) os) fun e w'' => e = .returned (.bool false) ∧ ∃ p : Regrown, w'' = Sort.grow (redrawn W p.d) p.os := fun d os => Calls.regrown_of (same_below (Hi.out _))
  refine wp_region_quiet_below (by kernel_rfl) (by kernel_rfl) ?_
  repeat (go_big_quiet_step ((with_reducible (first | exact d0 _ _ | exact d1 _ _ | exact d2 _ _ | exact d3 _ _ | exact d4 _ _ | exact d5 _ _ | exact d6 _ _))))
  refine wpQuiet_nil ?_
  intro _ hw'
  obtain ⟨⟨dq, osq⟩, hw''⟩ := hw'
  subst hw''
  go_wp2
  go_ret
  exact ⟨rfl, below_then hB (below_regrown W dq osq)⟩

set_option maxRecDepth 100000 in
set_option maxHeartbeats 2000000 in
theorem num7_any (x : Pnw) (w : World) (hT : inE.Sl w x.A x.p.u) (hR : Shp x.p.u) (hq : 1 ≤ x.p.q ∧ x.p.q ≤ 8) (hr : 1 ≤ x.p.r ∧ x.p.r ≤ 16) (hb : 1 ≤ x.p.b ∧ x.p.b ≤ 8) (hw : 1 ≤ x.p.w ∧ x.p.w ≤ 8) (hc : 16 ≤ x.p.c ∧ x.p.c ≤ 256) (hk : 1 ≤ x.p.k ∧ x.p.k ≤ 16) (hi : 3 ≤ x.p.i ∧ x.p.i ≤ 64) (hd : deepest x.p.u ≤ 4) (hl : ¬ (2 * (deepest x.p.u : Int) * (x.p.w + 2) + 1 ≤ x.p.l ∧ x.p.l ≤ 1000)) : Calls Try.prog 15 #[.agg #[.slice x.A x.p.u.length x.c, .int .i64 x.p.q, .int .i64 x.p.r, .int .i64 x.p.b, .int .i64 x.p.l, .int .i64 x.p.w, .int .i64 x.p.c, .int .i64 x.p.k, .int .i64 x.p.i]] w fun e w' => e = .returned (.bool false) ∧ Below w.heap.size w w' := by
  have hP : pnE.In (w.alloc (.cells #[.slice x.A x.p.u.length x.c, .int .i64 x.p.q, .int .i64 x.p.r, .int .i64 x.p.b, .int .i64 x.p.l, .int .i64 x.p.w, .int .i64 x.p.c, .int .i64 x.p.k, .int .i64 x.p.i] 24)) w.heap.size x := El.In.new (E := pnE) w x _ rfl
  have hB := below_alloc (Below.refl w.heap.size w) (.cells #[.slice x.A x.p.u.length x.c, .int .i64 x.p.q, .int .i64 x.p.r, .int .i64 x.p.b, .int .i64 x.p.l, .int .i64 x.p.w, .int .i64 x.p.c, .int .i64 x.p.k, .int .i64 x.p.i] 24)
  have Hq := Lib.hid (fun (wx : World) => pWithin_any x.p.q 1 8 true ⟨fun _ => hq, fun _ => rfl⟩ wx)
  have Hr := Lib.hid (fun (wx : World) => pWithin_any x.p.r 1 16 true ⟨fun _ => hr, fun _ => rfl⟩ wx)
  have Hb := Lib.hid (fun (wx : World) => pWithin_any x.p.b 1 8 true ⟨fun _ => hb, fun _ => rfl⟩ wx)
  have Hw := Lib.hid (fun (wx : World) => pWithin_any x.p.w 1 8 true ⟨fun _ => hw, fun _ => rfl⟩ wx)
  have Hc := Lib.hid (fun (wx : World) => pWithin_any x.p.c 16 256 true ⟨fun _ => hc, fun _ => rfl⟩ wx)
  have Hk := Lib.hid (fun (wx : World) => pWithin_any x.p.k 1 16 true ⟨fun _ => hk, fun _ => rfl⟩ wx)
  have Hi := Lib.hid (fun (wx : World) => pWithin_any x.p.i 3 64 true ⟨fun _ => hi, fun _ => rfl⟩ wx)
  have HTS := Lib.hid (fun (wx : World) (hb : Below w.heap.size w wx) => tooShort_any x wx (hT.below hb) hR hw hd)
  have hb0 : 0 ≤ 2 * (deepest x.p.u : Int) * (x.p.w + 2) ∧ 2 * (deepest x.p.u : Int) * (x.p.w + 2) ≤ 80 := ⟨Int.mul_nonneg (by omega) (by omega), by have h1 : 2 * (deepest x.p.u : Int) * (x.p.w + 2) ≤ 2 * (deepest x.p.u : Int) * 10 := Int.mul_le_mul_of_nonneg_left (by omega) (by omega); omega⟩
  generalize 2 * (deepest x.p.u : Int) * (x.p.w + 2) = ts at *
  have hs1 : IntKind.i64.wrap (ts + 1) = ts + 1 := by rw [IntKind.wrap_i64]; omega
  have Hl := Lib.hid (fun (wx : World) => pWithin_any x.p.l (ts + 1) 1000 false ⟨fun h => (by cases h), fun h => absurd h hl⟩ wx)
  obtain ⟨p0, p1, p2, p3, p4, p5, p6, p7, p8⟩ := pnIn9 hP
  clear hT hR hq hr hb hw hc hk hi hl hd hP
  go_enter Try.func15, Try.ntmps15
  go_wp2_with fail
  generalize w.alloc (.cells #[.slice x.A x.p.u.length x.c, .int .i64 x.p.q, .int .i64 x.p.r, .int .i64 x.p.b, .int .i64 x.p.l, .int .i64 x.p.w, .int .i64 x.p.c, .int .i64 x.p.k, .int .i64 x.p.i] 24) = W at *
  obtain ⟨n1, hn1⟩ : ∃ n, w.heap.size = n := ⟨_, rfl⟩
  rw [hn1] at p0 p1 p2 p3 p4 p5 p6 p7 p8 ⊢
  clear hn1
  have k0 := cell_regrown p0
  have k1 := cell_regrown p1
  have k2 := cell_regrown p2
  have k3 := cell_regrown p3
  have k4 := cell_regrown p4
  have k5 := cell_regrown p5
  have k6 := cell_regrown p6
  have k7 := cell_regrown p7
  have k8 := cell_regrown p8
  clear p0 p1 p2 p3 p4 p5 p6 p7 p8
  have d0 : ∀ d os, Calls Try.prog 20 #[.int .i64 x.p.q, .int .i64 1, .int .i64 8] (Sort.grow (redrawn W d) os) fun e w'' => e = .returned (.bool true) ∧ ∃ p : Regrown, w'' = Sort.grow (redrawn W p.d) p.os := fun d os => Calls.regrown_of (same_below (Hq.out _))
  have d1 : ∀ d os, Calls Try.prog 20 #[.int .i64 x.p.r, .int .i64 1, .int .i64 16] (Sort.grow (redrawn W d) os) fun e w'' => e = .returned (.bool true) ∧ ∃ p : Regrown, w'' = Sort.grow (redrawn W p.d) p.os := fun d os => Calls.regrown_of (same_below (Hr.out _))
  have d2 : ∀ d os, Calls Try.prog 20 #[.int .i64 x.p.b, .int .i64 1, .int .i64 8] (Sort.grow (redrawn W d) os) fun e w'' => e = .returned (.bool true) ∧ ∃ p : Regrown, w'' = Sort.grow (redrawn W p.d) p.os := fun d os => Calls.regrown_of (same_below (Hb.out _))
  have d3 : ∀ d os, Calls Try.prog 20 #[.int .i64 x.p.w, .int .i64 1, .int .i64 8] (Sort.grow (redrawn W d) os) fun e w'' => e = .returned (.bool true) ∧ ∃ p : Regrown, w'' = Sort.grow (redrawn W p.d) p.os := fun d os => Calls.regrown_of (same_below (Hw.out _))
  have d4 : ∀ d os, Calls Try.prog 20 #[.int .i64 x.p.c, .int .i64 16, .int .i64 256] (Sort.grow (redrawn W d) os) fun e w'' => e = .returned (.bool true) ∧ ∃ p : Regrown, w'' = Sort.grow (redrawn W p.d) p.os := fun d os => Calls.regrown_of (same_below (Hc.out _))
  have d5 : ∀ d os, Calls Try.prog 20 #[.int .i64 x.p.k, .int .i64 1, .int .i64 16] (Sort.grow (redrawn W d) os) fun e w'' => e = .returned (.bool true) ∧ ∃ p : Regrown, w'' = Sort.grow (redrawn W p.d) p.os := fun d os => Calls.regrown_of (same_below (Hk.out _))
  have d6 : ∀ d os, Calls Try.prog 20 #[.int .i64 x.p.i, .int .i64 3, .int .i64 64] (Sort.grow (redrawn W d) os) fun e w'' => e = .returned (.bool true) ∧ ∃ p : Regrown, w'' = Sort.grow (redrawn W p.d) p.os := fun d os => Calls.regrown_of (same_below (Hi.out _))
  have d7 : ∀ d os, Calls Try.prog 23 #[.agg #[.slice x.A x.p.u.length x.c, .int .i64 x.p.q, .int .i64 x.p.r, .int .i64 x.p.b, .int .i64 x.p.l, .int .i64 x.p.w, .int .i64 x.p.c, .int .i64 x.p.k, .int .i64 x.p.i]] (Sort.grow (redrawn W d) os) fun e w'' => e = .returned (.int .i64 ts) ∧ ∃ p : Regrown, w'' = Sort.grow (redrawn W p.d) p.os := fun d os => Calls.regrown_of (HTS.out _ (below_then hB (below_regrown W d os)))
  have d8 : ∀ d os, Calls Try.prog 20 #[.int .i64 x.p.l, .int .i64 (ts + 1), .int .i64 1000] (Sort.grow (redrawn W d) os) fun e w'' => e = .returned (.bool false) ∧ ∃ p : Regrown, w'' = Sort.grow (redrawn W p.d) p.os := fun d os => Calls.regrown_of (same_below (Hl.out _))
  refine wp_region_quiet_below (by kernel_rfl) (by kernel_rfl) ?_
  repeat (go_big_quiet_step ((with_reducible (first | exact d0 _ _ | exact d1 _ _ | exact d2 _ _ | exact d3 _ _ | exact d4 _ _ | exact d5 _ _ | exact d6 _ _ | exact d7 _ _ | exact d8 _ _))))
  refine wpQuiet_nil ?_
  intro _ hw'
  obtain ⟨⟨dq, osq⟩, hw''⟩ := hw'
  subst hw''
  go_wp2
  go_ret
  exact ⟨rfl, below_then hB (below_regrown W dq osq)⟩

set_option maxRecDepth 100000 in
set_option maxHeartbeats 2000000 in
theorem num8_any (x : Pnw) (w : World) (hT : inE.Sl w x.A x.p.u) (hR : Shp x.p.u) (hq : 1 ≤ x.p.q ∧ x.p.q ≤ 8) (hr : 1 ≤ x.p.r ∧ x.p.r ≤ 16) (hb : 1 ≤ x.p.b ∧ x.p.b ≤ 8) (hw : 1 ≤ x.p.w ∧ x.p.w ≤ 8) (hc : 16 ≤ x.p.c ∧ x.p.c ≤ 256) (hk : 1 ≤ x.p.k ∧ x.p.k ≤ 16) (hi : 3 ≤ x.p.i ∧ x.p.i ≤ 64) (hd : deepest x.p.u ≤ 4) (hl : 2 * (deepest x.p.u : Int) * (x.p.w + 2) + 1 ≤ x.p.l ∧ x.p.l ≤ 1000) : Calls Try.prog 15 #[.agg #[.slice x.A x.p.u.length x.c, .int .i64 x.p.q, .int .i64 x.p.r, .int .i64 x.p.b, .int .i64 x.p.l, .int .i64 x.p.w, .int .i64 x.p.c, .int .i64 x.p.k, .int .i64 x.p.i]] w fun e w' => e = .returned (.bool true) ∧ Below w.heap.size w w' := by
  have hP : pnE.In (w.alloc (.cells #[.slice x.A x.p.u.length x.c, .int .i64 x.p.q, .int .i64 x.p.r, .int .i64 x.p.b, .int .i64 x.p.l, .int .i64 x.p.w, .int .i64 x.p.c, .int .i64 x.p.k, .int .i64 x.p.i] 24)) w.heap.size x := El.In.new (E := pnE) w x _ rfl
  have hB := below_alloc (Below.refl w.heap.size w) (.cells #[.slice x.A x.p.u.length x.c, .int .i64 x.p.q, .int .i64 x.p.r, .int .i64 x.p.b, .int .i64 x.p.l, .int .i64 x.p.w, .int .i64 x.p.c, .int .i64 x.p.k, .int .i64 x.p.i] 24)
  have Hq := Lib.hid (fun (wx : World) => pWithin_any x.p.q 1 8 true ⟨fun _ => hq, fun _ => rfl⟩ wx)
  have Hr := Lib.hid (fun (wx : World) => pWithin_any x.p.r 1 16 true ⟨fun _ => hr, fun _ => rfl⟩ wx)
  have Hb := Lib.hid (fun (wx : World) => pWithin_any x.p.b 1 8 true ⟨fun _ => hb, fun _ => rfl⟩ wx)
  have Hw := Lib.hid (fun (wx : World) => pWithin_any x.p.w 1 8 true ⟨fun _ => hw, fun _ => rfl⟩ wx)
  have Hc := Lib.hid (fun (wx : World) => pWithin_any x.p.c 16 256 true ⟨fun _ => hc, fun _ => rfl⟩ wx)
  have Hk := Lib.hid (fun (wx : World) => pWithin_any x.p.k 1 16 true ⟨fun _ => hk, fun _ => rfl⟩ wx)
  have Hi := Lib.hid (fun (wx : World) => pWithin_any x.p.i 3 64 true ⟨fun _ => hi, fun _ => rfl⟩ wx)
  have HTS := Lib.hid (fun (wx : World) (hb : Below w.heap.size w wx) => tooShort_any x wx (hT.below hb) hR hw hd)
  have hb0 : 0 ≤ 2 * (deepest x.p.u : Int) * (x.p.w + 2) ∧ 2 * (deepest x.p.u : Int) * (x.p.w + 2) ≤ 80 := ⟨Int.mul_nonneg (by omega) (by omega), by have h1 : 2 * (deepest x.p.u : Int) * (x.p.w + 2) ≤ 2 * (deepest x.p.u : Int) * 10 := Int.mul_le_mul_of_nonneg_left (by omega) (by omega); omega⟩
  generalize 2 * (deepest x.p.u : Int) * (x.p.w + 2) = ts at *
  have hs1 : IntKind.i64.wrap (ts + 1) = ts + 1 := by rw [IntKind.wrap_i64]; omega
  have Hl := Lib.hid (fun (wx : World) => pWithin_any x.p.l (ts + 1) 1000 true ⟨fun _ => hl, fun _ => rfl⟩ wx)
  obtain ⟨p0, p1, p2, p3, p4, p5, p6, p7, p8⟩ := pnIn9 hP
  clear hT hR hq hr hb hw hc hk hi hl hd hP
  go_enter Try.func15, Try.ntmps15
  go_wp2_with fail
  generalize w.alloc (.cells #[.slice x.A x.p.u.length x.c, .int .i64 x.p.q, .int .i64 x.p.r, .int .i64 x.p.b, .int .i64 x.p.l, .int .i64 x.p.w, .int .i64 x.p.c, .int .i64 x.p.k, .int .i64 x.p.i] 24) = W at *
  obtain ⟨n1, hn1⟩ : ∃ n, w.heap.size = n := ⟨_, rfl⟩
  rw [hn1] at p0 p1 p2 p3 p4 p5 p6 p7 p8 ⊢
  clear hn1
  have k0 := cell_regrown p0
  have k1 := cell_regrown p1
  have k2 := cell_regrown p2
  have k3 := cell_regrown p3
  have k4 := cell_regrown p4
  have k5 := cell_regrown p5
  have k6 := cell_regrown p6
  have k7 := cell_regrown p7
  have k8 := cell_regrown p8
  clear p0 p1 p2 p3 p4 p5 p6 p7 p8
  have d0 : ∀ d os, Calls Try.prog 20 #[.int .i64 x.p.q, .int .i64 1, .int .i64 8] (Sort.grow (redrawn W d) os) fun e w'' => e = .returned (.bool true) ∧ ∃ p : Regrown, w'' = Sort.grow (redrawn W p.d) p.os := fun d os => Calls.regrown_of (same_below (Hq.out _))
  have d1 : ∀ d os, Calls Try.prog 20 #[.int .i64 x.p.r, .int .i64 1, .int .i64 16] (Sort.grow (redrawn W d) os) fun e w'' => e = .returned (.bool true) ∧ ∃ p : Regrown, w'' = Sort.grow (redrawn W p.d) p.os := fun d os => Calls.regrown_of (same_below (Hr.out _))
  have d2 : ∀ d os, Calls Try.prog 20 #[.int .i64 x.p.b, .int .i64 1, .int .i64 8] (Sort.grow (redrawn W d) os) fun e w'' => e = .returned (.bool true) ∧ ∃ p : Regrown, w'' = Sort.grow (redrawn W p.d) p.os := fun d os => Calls.regrown_of (same_below (Hb.out _))
  have d3 : ∀ d os, Calls Try.prog 20 #[.int .i64 x.p.w, .int .i64 1, .int .i64 8] (Sort.grow (redrawn W d) os) fun e w'' => e = .returned (.bool true) ∧ ∃ p : Regrown, w'' = Sort.grow (redrawn W p.d) p.os := fun d os => Calls.regrown_of (same_below (Hw.out _))
  have d4 : ∀ d os, Calls Try.prog 20 #[.int .i64 x.p.c, .int .i64 16, .int .i64 256] (Sort.grow (redrawn W d) os) fun e w'' => e = .returned (.bool true) ∧ ∃ p : Regrown, w'' = Sort.grow (redrawn W p.d) p.os := fun d os => Calls.regrown_of (same_below (Hc.out _))
  have d5 : ∀ d os, Calls Try.prog 20 #[.int .i64 x.p.k, .int .i64 1, .int .i64 16] (Sort.grow (redrawn W d) os) fun e w'' => e = .returned (.bool true) ∧ ∃ p : Regrown, w'' = Sort.grow (redrawn W p.d) p.os := fun d os => Calls.regrown_of (same_below (Hk.out _))
  have d6 : ∀ d os, Calls Try.prog 20 #[.int .i64 x.p.i, .int .i64 3, .int .i64 64] (Sort.grow (redrawn W d) os) fun e w'' => e = .returned (.bool true) ∧ ∃ p : Regrown, w'' = Sort.grow (redrawn W p.d) p.os := fun d os => Calls.regrown_of (same_below (Hi.out _))
  have d7 : ∀ d os, Calls Try.prog 23 #[.agg #[.slice x.A x.p.u.length x.c, .int .i64 x.p.q, .int .i64 x.p.r, .int .i64 x.p.b, .int .i64 x.p.l, .int .i64 x.p.w, .int .i64 x.p.c, .int .i64 x.p.k, .int .i64 x.p.i]] (Sort.grow (redrawn W d) os) fun e w'' => e = .returned (.int .i64 ts) ∧ ∃ p : Regrown, w'' = Sort.grow (redrawn W p.d) p.os := fun d os => Calls.regrown_of (HTS.out _ (below_then hB (below_regrown W d os)))
  have d8 : ∀ d os, Calls Try.prog 20 #[.int .i64 x.p.l, .int .i64 (ts + 1), .int .i64 1000] (Sort.grow (redrawn W d) os) fun e w'' => e = .returned (.bool true) ∧ ∃ p : Regrown, w'' = Sort.grow (redrawn W p.d) p.os := fun d os => Calls.regrown_of (same_below (Hl.out _))
  refine wp_region_quiet_below (by kernel_rfl) (by kernel_rfl) ?_
  repeat (go_big_quiet_step ((with_reducible (first | exact d0 _ _ | exact d1 _ _ | exact d2 _ _ | exact d3 _ _ | exact d4 _ _ | exact d5 _ _ | exact d6 _ _ | exact d7 _ _ | exact d8 _ _))))
  refine wpQuiet_nil ?_
  intro _ hw'
  obtain ⟨⟨dq, osq⟩, hw''⟩ := hw'
  subst hw''
  go_wp2
  go_ret
  exact ⟨rfl, below_then hB (below_regrown W dq osq)⟩
end Go.Proofs.Ytmmfjmhemknpgaa

/- The program's eight answers of a plan: planCalls. -/
namespace Go.Proofs.Ytmmfjmhemknpgaa
open Go.RowKit Go.Deep Pln

set_option maxRecDepth 100000 in
set_option maxHeartbeats 2000000 in
theorem shape_any (x : Pnw) (w : World) (hT : inE.Sl w x.A x.p.u) (bv : Bool) (hbv : bv = true ↔ ShR x.p.u) : Calls Try.prog 14 #[.agg #[.slice x.A x.p.u.length x.c, .int .i64 x.p.q, .int .i64 x.p.r, .int .i64 x.p.b, .int .i64 x.p.l, .int .i64 x.p.w, .int .i64 x.p.c, .int .i64 x.p.k, .int .i64 x.p.i]] w fun e w' => e = .returned (.bool bv) ∧ Below w.heap.size w w' := by
  by_cases hl : 2 ≤ x.p.u.length ∧ x.p.u.length ≤ 12
  · obtain ⟨A, c, p⟩ := x
    dsimp only at hT hbv hl ⊢
    obtain ⟨b, off, rfl, hbw, hc⟩ := hT (by omega)
    have hP : pnE.In (w.alloc (.cells #[.slice (some ⟨b, off, none⟩) p.u.length c, .int .i64 p.q, .int .i64 p.r, .int .i64 p.b, .int .i64 p.l, .int .i64 p.w, .int .i64 p.c, .int .i64 p.k, .int .i64 p.i] 24)) w.heap.size ⟨some ⟨b, off, none⟩, c, p⟩ := El.In.new (E := pnE) w ⟨some ⟨b, off, none⟩, c, p⟩ _ rfl
    have hB := below_alloc (Below.refl w.heap.size w) (.cells #[.slice (some ⟨b, off, none⟩) p.u.length c, .int .i64 p.q, .int .i64 p.r, .int .i64 p.b, .int .i64 p.l, .int .i64 p.w, .int .i64 p.c, .int .i64 p.k, .int .i64 p.i] 24)
    have HT := Lib.hid hT
    have HV := Lib.hid hbv
    have HW := Lib.hid (fun (wx : World) => pWithin_any p.u.length 2 12 true ⟨fun _ => by omega, fun _ => rfl⟩ wx)
    have p0 := (pnIn9 hP).1
    dsimp only at p0
    by_cases hu : ∀ i, i < p.u.length → upAt p.u i
    · have hS : Shp p.u := ⟨hl.1, hl.2, ((ups_iff hl.1).1 hu).1, ((ups_iff hl.1).1 hu).2⟩
      have HU := Lib.hid (fun (wx : World) (hb : Below w.heap.size w wx) => ups_any b off c p.u wx hl.1 hl.2 (hT.below hb) true ⟨fun _ => hu, fun _ => rfl⟩)
      have HDE := Lib.hid (fun (wx : World) (hb : Below w.heap.size w wx) => (by
        have h2 := pDeepest_any ⟨some ⟨b, off, none⟩, c, p⟩ wx (hT.below hb) hS
        dsimp only at h2
        exact h2 : Calls Try.prog 11 #[.agg #[.slice (some ⟨b, off, none⟩) p.u.length c, .int .i64 p.q, .int .i64 p.r, .int .i64 p.b, .int .i64 p.l, .int .i64 p.w, .int .i64 p.c, .int .i64 p.k, .int .i64 p.i]] wx fun e w' => e = .returned (.int .i64 (deepest p.u)) ∧ Below wx.heap.size wx w'))
      have HFN := Lib.hid (fun (wx : World) (hb : Below w.heap.size w wx) => (by
        have h2 := fans_any ⟨some ⟨b, off, none⟩, c, p⟩ wx (hT.below hb) hS
        dsimp only at h2
        exact h2 : Calls Try.prog 18 #[.agg #[.slice (some ⟨b, off, none⟩) p.u.length c, .int .i64 p.q, .int .i64 p.r, .int .i64 p.b, .int .i64 p.l, .int .i64 p.w, .int .i64 p.c, .int .i64 p.k, .int .i64 p.i]] wx fun e w' => ∃ g, e = .returned (.slice (some ⟨g, 0, none⟩) p.u.length p.u.length) ∧ inE.Sl w' (some ⟨g, 0, none⟩) (fansL p.u p.u.length) ∧ g < w'.heap.size ∧ Below wx.heap.size wx w'))
      have HDV := Lib.hid (fun (wx : World) (hb : Below w.heap.size w wx) => (by
        have h2 := pDevs_any ⟨some ⟨b, off, none⟩, c, p⟩ wx (hT.below hb) hS
        dsimp only at h2
        exact h2 : Calls Try.prog 12 #[.agg #[.slice (some ⟨b, off, none⟩) p.u.length c, .int .i64 p.q, .int .i64 p.r, .int .i64 p.b, .int .i64 p.l, .int .i64 p.w, .int .i64 p.c, .int .i64 p.k, .int .i64 p.i]] wx fun e w' => ∃ A' c', e = .returned (.slice A' (devsN p.u).length c') ∧ inE.Sl w' A' (ints (devsN p.u)) ∧ Below wx.heap.size wx w'))
      have HM := Lib.hid (fun (g : Nat) (wx : World) (h : inE.Sl wx (some ⟨g, 0, none⟩) (fansL p.u p.u.length)) => (by
        have h2 := max_any g p.u.length (fansL p.u p.u.length) wx (by rw [fansL_len]; omega) (by rw [fansL_len]; omega) h
        simp only [fansL_len] at h2
        refine h2.mono fun e w' ⟨m, e1, e2, e3⟩ => ⟨m, e1, ?_, e3⟩
        refine ⟨fun hm i hi => ?_, fun hk => ?_⟩
        · have h3 := e2.1 i hi
          rw [fansL_all] at h3; omega
        · obtain ⟨j, hj, ej⟩ := e2.2
          have := hk j hj
          rw [fansL_all] at ej; omega : Calls Try.prog 22 #[.slice (some ⟨g, 0, none⟩) p.u.length p.u.length] wx fun e w' => ∃ m : Int, e = .returned (.int .i64 m) ∧ (m ≤ 4 ↔ ∀ i : Nat, i < p.u.length → (kidsN p.u i).length ≤ 4) ∧ w' = wx))
      have HS := Lib.hid hS
      have hdb := deepK_le hS.par (Nat.le_refl p.u.length)
      rw [deepK_all] at hdb
      have hvb := devsK_le p.u p.u.length
      rw [devsK_all] at hvb
      clear hu hT hbv hc hS
      go_enter Try.func14, Try.ntmps14
      go_wp2_with fail
      refine (HW.out _).mono ?_
      rintro e w1 ⟨rfl, rfl⟩
      go_wp2_with fail
      refine (HU.out _ hB).mono ?_
      rintro e w1 ⟨rfl, rfl⟩
      clear p0
      generalize w.alloc (.cells #[.slice (some ⟨b, off, none⟩) p.u.length c, .int .i64 p.q, .int .i64 p.r, .int .i64 p.b, .int .i64 p.l, .int .i64 p.w, .int .i64 p.c, .int .i64 p.k, .int .i64 p.i] 24) = W at *
      obtain ⟨n1, hn1⟩ : ∃ n, w.heap.size = n := ⟨_, rfl⟩
      rw [hn1] at hP ⊢
      clear hn1
      obtain ⟨p0, p1, p2, p3, p4, p5, p6, p7, p8⟩ := pnIn9 hP
      dsimp only at p0 p1 p2 p3 p4 p5 p6 p7 p8
      go_wp2_with fail
      clear p0 p1 p2 p3 p4 p5 p6 p7 p8
      refine (HDE.out _ hB).mono ?_
      rintro e w2 ⟨rfl, hb2⟩
      replace hP := hP.below hb2
      replace hB := hB.trans (hb2.mono hB.size)
      clear hb2
      obtain ⟨d, hd⟩ : ∃ d, deepest p.u = d := ⟨_, rfl⟩
      rw [hd] at hdb ⊢
      have HD := Lib.hid hd
      clear hd
      by_cases hd4 : d ≤ 4
      · have e1 : decide ((d : Int) ≤ 4) = true := decide_eq_true (by omega)
        obtain ⟨p0, p1, p2, p3, p4, p5, p6, p7, p8⟩ := pnIn9 hP
        dsimp only at p0 p1 p2 p3 p4 p5 p6 p7 p8
        go_wp2_with fail
        clear p0 p1 p2 p3 p4 p5 p6 p7 p8 e1
        refine (HFN.out _ hB).mono ?_
        rintro e w3 ⟨g, rfl, hF, _, hb3⟩
        replace hP := hP.below hb3
        replace hB := hB.trans (hb3.mono hB.size)
        clear hb3
        go_wp2_with fail
        refine (HM.out g _ hF).mono ?_
        rintro e w4 ⟨m, rfl, hm, rfl⟩
        have HMM := Lib.hid hm
        clear hm hF
        by_cases hm4 : m ≤ 4
        · have e1 : decide (m ≤ 4) = true := decide_eq_true hm4
          obtain ⟨p0, p1, p2, p3, p4, p5, p6, p7, p8⟩ := pnIn9 hP
          dsimp only at p0 p1 p2 p3 p4 p5 p6 p7 p8
          go_wp2_with fail
          clear p0 p1 p2 p3 p4 p5 p6 p7 p8 e1
          refine (HDV.out _ hB).mono ?_
          rintro e w5 ⟨A', c', rfl, _, hb5⟩
          replace hB := hB.trans (hb5.mono hB.size)
          clear hb5 hP
          obtain ⟨n, hn⟩ : ∃ n, (devsN p.u).length = n := ⟨_, rfl⟩
          rw [hn] at hvb ⊢
          have HN := Lib.hid hn
          clear hn
          by_cases hn8 : n ≤ 8
          · have e1 : decide ((n : Int) ≤ 8) = true := decide_eq_true (by omega)
            obtain rfl : bv = true := HV.out.2 { toShp := HS.out, deep := by rw [HD.out]; exact hd4, kids := HMM.out.1 hm4, devs := by rw [HN.out]; exact hn8 }
            go_wp2_with fail
            go_ret
            exact ⟨rfl, hB⟩
          · have e1 : decide ((n : Int) ≤ 8) = false := decide_eq_false (by omega)
            obtain rfl : bv = false := by
              cases bv with
              | false => rfl
              | true => exact absurd (HV.out.1 rfl).devs (by rw [HN.out]; exact hn8)
            go_wp2_with fail
            go_ret
            exact ⟨rfl, hB⟩
        · have e1 : decide (m ≤ 4) = false := decide_eq_false hm4
          obtain rfl : bv = false := by
            cases bv with
            | false => rfl
            | true => exact absurd (HMM.out.2 (HV.out.1 rfl).kids) hm4
          go_wp2_with fail
          go_ret
          exact ⟨rfl, hB⟩
      · have e1 : decide ((d : Int) ≤ 4) = false := decide_eq_false (by omega)
        obtain rfl : bv = false := by
          cases bv with
          | false => rfl
          | true => exact absurd (HV.out.1 rfl).deep (by rw [HD.out]; exact hd4)
        go_wp2_with fail
        go_ret
        exact ⟨rfl, hB⟩
    · have HU := Lib.hid (fun (wx : World) (hb : Below w.heap.size w wx) => ups_any b off c p.u wx hl.1 hl.2 (hT.below hb) false ⟨fun h => (by cases h), fun h => absurd h hu⟩)
      obtain rfl : bv = false := by
        cases bv with
        | false => rfl
        | true => exact absurd ((ups_iff hl.1).2 ⟨(hbv.1 rfl).up0, (hbv.1 rfl).par⟩) hu
      clear hu hT hbv hc HV
      go_enter Try.func14, Try.ntmps14
      go_wp2_with fail
      refine (HW.out _).mono ?_
      rintro e w1 ⟨rfl, rfl⟩
      go_wp2_with fail
      refine (HU.out _ hB).mono ?_
      rintro e w1 ⟨rfl, rfl⟩
      go_wp2_with fail
      go_ret
      exact ⟨rfl, hB⟩
  · have HW := Lib.hid (fun (wx : World) => pWithin_any x.p.u.length 2 12 false ⟨fun h => (by cases h), fun h => absurd (show 2 ≤ x.p.u.length ∧ x.p.u.length ≤ 12 by omega) hl⟩ wx)
    have hP : pnE.In (w.alloc (.cells #[.slice x.A x.p.u.length x.c, .int .i64 x.p.q, .int .i64 x.p.r, .int .i64 x.p.b, .int .i64 x.p.l, .int .i64 x.p.w, .int .i64 x.p.c, .int .i64 x.p.k, .int .i64 x.p.i] 24)) w.heap.size x := El.In.new (E := pnE) w x _ rfl
    have hB := below_alloc (Below.refl w.heap.size w) (.cells #[.slice x.A x.p.u.length x.c, .int .i64 x.p.q, .int .i64 x.p.r, .int .i64 x.p.b, .int .i64 x.p.l, .int .i64 x.p.w, .int .i64 x.p.c, .int .i64 x.p.k, .int .i64 x.p.i] 24)
    have p0 := (pnIn9 hP).1
    obtain rfl : bv = false := by
      cases bv with
      | false => rfl
      | true => exact absurd ⟨(hbv.1 rfl).n2, (hbv.1 rfl).n12⟩ hl
    clear hl hbv hP hT
    go_enter Try.func14, Try.ntmps14
    go_wp2_with fail
    refine (HW.out _).mono ?_
    rintro e w1 ⟨rfl, rfl⟩
    go_wp2_with fail
    go_ret
    exact ⟨rfl, hB⟩
theorem numbers_any (x : Pnw) (w : World) (hT : inE.Sl w x.A x.p.u) (hS : ShR x.p.u) (bv : Bool) (hbv : bv = true ↔ NumR x.p) : Calls Try.prog 15 #[.agg #[.slice x.A x.p.u.length x.c, .int .i64 x.p.q, .int .i64 x.p.r, .int .i64 x.p.b, .int .i64 x.p.l, .int .i64 x.p.w, .int .i64 x.p.c, .int .i64 x.p.k, .int .i64 x.p.i]] w fun e w' => e = .returned (.bool bv) ∧ Below w.heap.size w w' := by
  have hno : ∀ P : Prop, (NumR x.p → P) → ¬ P → bv = false := fun P h1 h2 => by
    cases bv with
    | false => rfl
    | true => exact absurd (h1 (hbv.1 rfl)) h2
  by_cases hq : 1 ≤ x.p.q ∧ x.p.q ≤ 8
  · by_cases hr : 1 ≤ x.p.r ∧ x.p.r ≤ 16
    · by_cases hb : 1 ≤ x.p.b ∧ x.p.b ≤ 8
      · by_cases hw : 1 ≤ x.p.w ∧ x.p.w ≤ 8
        · by_cases hc : 16 ≤ x.p.c ∧ x.p.c ≤ 256
          · by_cases hk : 1 ≤ x.p.k ∧ x.p.k ≤ 16
            · by_cases hi : 3 ≤ x.p.i ∧ x.p.i ≤ 64
              · by_cases hl : 2 * (deepest x.p.u : Int) * (x.p.w + 2) + 1 ≤ x.p.l ∧ x.p.l ≤ 1000
                · rw [hbv.2 ⟨hq, hr, hb, hw, hc, hk, hi, hl⟩]
                  exact num8_any x w hT hS.toShp hq hr hb hw hc hk hi hS.deep hl
                · rw [hno _ (fun h => h.l) hl]
                  exact num7_any x w hT hS.toShp hq hr hb hw hc hk hi hS.deep hl
              · rw [hno _ (fun h => h.i) hi]
                exact num6_any x w hq hr hb hw hc hk hi
            · rw [hno _ (fun h => h.k) hk]
              exact num5_any x w hq hr hb hw hc hk
          · rw [hno _ (fun h => h.c) hc]
            exact num4_any x w hq hr hb hw hc
        · rw [hno _ (fun h => h.w) hw]
          exact num3_any x w hq hr hb hw
      · rw [hno _ (fun h => h.b) hb]
        exact num2_any x w hq hr hb
    · rw [hno _ (fun h => h.r) hr]
      exact num1_any x w hq hr
  · rw [hno _ (fun h => h.q) hq]
    exact num0_any x w hq
set_option maxRecDepth 100000 in
theorem planRight_any (x : Pnw) (w : World) (hT : inE.Sl w x.A x.p.u) (bv : Bool) (hbv : bv = true ↔ Pln.Right x.p) : Calls Try.prog 5 #[.agg #[.slice x.A x.p.u.length x.c, .int .i64 x.p.q, .int .i64 x.p.r, .int .i64 x.p.b, .int .i64 x.p.l, .int .i64 x.p.w, .int .i64 x.p.c, .int .i64 x.p.k, .int .i64 x.p.i]] w fun e w' => e = .returned (.bool bv) ∧ Below w.heap.size w w' := by
  have hP : pnE.In (w.alloc (.cells #[.slice x.A x.p.u.length x.c, .int .i64 x.p.q, .int .i64 x.p.r, .int .i64 x.p.b, .int .i64 x.p.l, .int .i64 x.p.w, .int .i64 x.p.c, .int .i64 x.p.k, .int .i64 x.p.i] 24)) w.heap.size x := El.In.new (E := pnE) w x _ rfl
  have hB := below_alloc (Below.refl w.heap.size w) (.cells #[.slice x.A x.p.u.length x.c, .int .i64 x.p.q, .int .i64 x.p.r, .int .i64 x.p.b, .int .i64 x.p.l, .int .i64 x.p.w, .int .i64 x.p.c, .int .i64 x.p.k, .int .i64 x.p.i] 24)
  rw [right_iff] at hbv
  by_cases hs : ShR x.p.u
  · have HS := Lib.hid (fun (wx : World) (hb : Below w.heap.size w wx) => shape_any x wx (hT.below hb) true ⟨fun _ => hs, fun _ => rfl⟩)
    have HN := Lib.hid (fun (wx : World) (hb : Below w.heap.size w wx) => numbers_any x wx (hT.below hb) hs bv ⟨fun h => (hbv.1 h).2, fun h => hbv.2 ⟨hs, h⟩⟩)
    clear hT hbv hs
    obtain ⟨p0, p1, p2, p3, p4, p5, p6, p7, p8⟩ := pnIn9 hP
    go_enter Try.func5, Try.ntmps5
    go_wp2_with fail
    clear p0 p1 p2 p3 p4 p5 p6 p7 p8
    refine (HS.out _ hB).mono ?_
    rintro e w1 ⟨rfl, hb1⟩
    replace hP := hP.below hb1
    replace hB := hB.trans (hb1.mono hB.size)
    clear hb1
    obtain ⟨p0, p1, p2, p3, p4, p5, p6, p7, p8⟩ := pnIn9 hP
    go_wp2_with fail
    clear p0 p1 p2 p3 p4 p5 p6 p7 p8
    refine (HN.out _ hB).mono ?_
    rintro e w1 ⟨rfl, hb1⟩
    replace hB := hB.trans (hb1.mono hB.size)
    go_wp2_with fail
    go_ret
    exact ⟨rfl, hB⟩
  · have HS := Lib.hid (fun (wx : World) (hb : Below w.heap.size w wx) => shape_any x wx (hT.below hb) false ⟨fun h => (by cases h), fun h => absurd h hs⟩)
    obtain rfl : bv = false := by
      cases bv with
      | false => rfl
      | true => exact absurd (hbv.1 rfl).1 hs
    clear hT hbv hs
    obtain ⟨p0, p1, p2, p3, p4, p5, p6, p7, p8⟩ := pnIn9 hP
    go_enter Try.func5, Try.ntmps5
    go_wp2_with fail
    clear p0 p1 p2 p3 p4 p5 p6 p7 p8
    refine (HS.out _ hB).mono ?_
    rintro e w1 ⟨rfl, hb1⟩
    replace hB := hB.trans (hb1.mono hB.size)
    go_wp2_with fail
    go_ret
    exact ⟨rfl, hB⟩

theorem planCalls : PlanCalls where
  right := fun x w hT bv hbv => planRight_any x w hT bv hbv
  kids := fun x n w hT hR => pKids_any x n w hT hR.shp
  kind := fun x n w hT hR => pKind_any x n w hT hR.shp
  deep := fun x n w hT hR => pDeep_any x n w hT hR.shp
  deepest := fun x w hT hR => pDeepest_any x w hT hR.shp
  devs := fun x w hT hR => pDevs_any x w hT hR.shp
  below := fun x n top w hT hR => pBelow_any x n top w hT hR.shp
  window := fun x w hT hR => pWindow_any x w hT hR.shp hR.q
end Go.Proofs.Ytmmfjmhemknpgaa
