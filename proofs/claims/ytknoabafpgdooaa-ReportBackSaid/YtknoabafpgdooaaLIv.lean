/- ReportBack: a report is read from its bytes as it was; what is read of bytes has just those. No condition. -/
import Derived.Test.YtknoabafpgdooaaB05
import Derived.Test.YtknoabafpgdooaaRows
import Derived.Lib.QuietBelow
import Derived.BigQuiet
namespace Go.Proofs.Ytknoabafpgdooaa
open Go.ChangeShapes Go.WideShapes Go.ChangeAt Go.RowKit Go.Deep Cod

theorem rpBytes_le {r : Rp} (h : RpW r) : (rpBytes r).size ≤ 90 := by
  have := catN_le (rpL r) h
  unfold rpBytes
  rw [show (rpL r).length = 9 from rfl] at this
  exact this
set_option maxRecDepth 100000 in
set_option maxHeartbeats 2000000 in
theorem back14_no (H : ReportCalls) (a : Rp) (s : ByteArray) (w : World) (h : 500 < s.size) (hs : s.size ≤ maxLen) : Calls Try.prog 5 #[.agg #[.int .i64 a.d, .int .i64 a.i, .int .i64 a.b, .int .i64 a.t, .int .i64 a.m, .int .i64 a.p, .int .i64 a.c, .int .i64 a.s, .int .i64 a.k], .string s] w fun r w' => r = .returned (.bool true) ∧ Below w.heap.size w w' := by
  have hB := below_alloc (Below.refl w.heap.size w) (.cells #[.int .i64 a.d, .int .i64 a.i, .int .i64 a.b, .int .i64 a.t, .int .i64 a.m, .int .i64 a.p, .int .i64 a.c, .int .i64 a.s, .int .i64 a.k] 23)
  unfold maxLen at hs
  go_enter Try.func5, Try.ntmps5
  go_wp2_with fail
  refine (awake14_any H _).mono ?_
  rintro r w1 ⟨rfl, hb1⟩
  go_wp2_with fail
  go_ret
  exact ⟨rfl, hB.trans (hb1.mono hB.size)⟩

set_option maxRecDepth 100000 in
set_option maxHeartbeats 4000000 in
theorem back14_yes (H : ReportCalls) (a : Rp) (s : ByteArray) (w : World) (hwa : RpW a) (h500 : s.size ≤ 500) : Calls Try.prog 5 #[.agg #[.int .i64 a.d, .int .i64 a.i, .int .i64 a.b, .int .i64 a.t, .int .i64 a.m, .int .i64 a.p, .int .i64 a.c, .int .i64 a.s, .int .i64 a.k], .string s] w fun r w' => r = .returned (.bool true) ∧ Below w.heap.size w w' := by
  have hP : rpE.In (w.alloc (.cells #[.int .i64 a.d, .int .i64 a.i, .int .i64 a.b, .int .i64 a.t, .int .i64 a.m, .int .i64 a.p, .int .i64 a.c, .int .i64 a.s, .int .i64 a.k] 23)) w.heap.size a := El.In.new (E := rpE) w a _ rfl
  have hN := below_alloc (Below.refl w.heap.size w) (.cells #[.int .i64 a.d, .int .i64 a.i, .int .i64 a.b, .int .i64 a.t, .int .i64 a.m, .int .i64 a.p, .int .i64 a.c, .int .i64 a.s, .int .i64 a.k] 23)
  have HRT := Lib.hid H.right
  have HPT := Lib.hid H.print
  have HRD := Lib.hid H.read
  have HAW := Lib.hid (fun (wx : World) => awake14_any H wx)
  have CPR := Lib.hid (fun (wx : World) => H.print a wx hwa)
  have hBs := rpBytes_le hwa
  have HSELF := Lib.hid (fun (h : rpB a = true) => rp_self (rpB_iff.1 h))
  generalize rpBytes a = BY at *
  clear H hwa
  obtain ⟨p0, p1, p2, p3, p4, p5, p6, p7, p8⟩ := rpIn9 hP
  go_enter Try.func5, Try.ntmps5
  go_wp2_with (first | (refine El.load rpRow rfl _ rfl w.heap.size 0 rfl a hP.at #[.int .i64 a.d, .int .i64 a.i, .int .i64 a.b, .int .i64 a.t, .int .i64 a.m, .int .i64 a.p, .int .i64 a.c, .int .i64 a.s, .int .i64 a.k] rfl ?_) | fail)
  refine (CPR.out _).mono ?_
  generalize w.alloc (.cells #[.int .i64 a.d, .int .i64 a.i, .int .i64 a.b, .int .i64 a.t, .int .i64 a.m, .int .i64 a.p, .int .i64 a.c, .int .i64 a.s, .int .i64 a.k] 23) = W0 at *
  obtain ⟨n1, hn1⟩ : ∃ n, w.heap.size = n := ⟨_, rfl⟩
  rw [hn1] at hP ⊢
  have hwn1 : w.heap.size ≤ n1 := by omega
  clear hn1
  rintro r w2 ⟨rfl, hb2⟩
  clear p0 p1 p2 p3 p4 p5 p6 p7 p8 CPR
  replace hP := hP.below hb2
  replace hN := below_then hN hb2
  clear hb2
  have hr := Rd.new w2 34 BY 0 rfl
  have hal := below_alloc (Below.refl w2.heap.size w2) (.cells #[.string BY, .int .i64 0, .bool false] 34)
  have hn1r : n1 < w2.heap.size := hP.lt
  have hwr : w.heap.size ≤ w2.heap.size := hN.size
  replace hP := hP.below hal
  replace hN := below_then hN hal
  clear hal
  go_wp2_with fail
  generalize w2.alloc (.cells #[.string BY, .int .i64 0, .bool false] 34) = W2 at *
  obtain ⟨nr, hnr⟩ : ∃ n, w2.heap.size = n := ⟨_, rfl⟩
  rw [hnr] at hr hn1r hwr ⊢
  clear hnr
  refine (HRD.out W2 nr 0 BY false (by omega) (Nat.zero_le _) hr).mono ?_
  rintro r w3 ⟨u, q1, bad1, rfl, hr1, hq1s, hg, hst1⟩
  replace hP := hP.keep hg (fun e => by have := Option.some.inj e; omega)
  replace hN := below_by hN hg hwr
  have HST1 := Lib.hid hst1
  clear hr hg hst1
  have hn12 : n1 < w3.heap.size := hP.lt
  have hwn2 : w.heap.size ≤ w3.heap.size := hN.size
  have hnr2 : nr < w3.heap.size := hr1.lt
  have hU : rpE.In (w3.alloc (.cells #[.int .i64 u.d, .int .i64 u.i, .int .i64 u.b, .int .i64 u.t, .int .i64 u.m, .int .i64 u.p, .int .i64 u.c, .int .i64 u.s, .int .i64 u.k] 23)) w3.heap.size u := El.In.new (E := rpE) w3 u _ rfl
  have hal := below_alloc (Below.refl w3.heap.size w3) (.cells #[.int .i64 u.d, .int .i64 u.i, .int .i64 u.b, .int .i64 u.t, .int .i64 u.m, .int .i64 u.p, .int .i64 u.c, .int .i64 u.s, .int .i64 u.k] 23)
  replace hP := hP.below hal
  replace hr1 := hr1.below hal
  replace hN := below_then hN hal
  clear hal
  have hsz : (w3.alloc (.cells #[.int .i64 u.d, .int .i64 u.i, .int .i64 u.b, .int .i64 u.t, .int .i64 u.m, .int .i64 u.p, .int .i64 u.c, .int .i64 u.s, .int .i64 u.k] 23)).heap.size = w3.heap.size + 1 := alloc_size _ _
  go_wp2_with fail
  generalize w3.alloc (.cells #[.int .i64 u.d, .int .i64 u.i, .int .i64 u.b, .int .i64 u.t, .int .i64 u.m, .int .i64 u.p, .int .i64 u.c, .int .i64 u.s, .int .i64 u.k] 23) = W3 at *
  obtain ⟨n2, hn2⟩ : ∃ n, w3.heap.size = n := ⟨_, rfl⟩
  rw [hn2] at hU hn12 hwn2 hnr2 hsz ⊢
  clear hn2
  have hq := Rd.new W3 34 s 0 rfl
  have hal := below_alloc (Below.refl W3.heap.size W3) (.cells #[.string s, .int .i64 0, .bool false] 34)
  rw [hsz] at hq
  clear hsz
  replace hP := hP.below hal
  replace hU := hU.below hal
  replace hr1 := hr1.below hal
  replace hN := below_then hN hal
  clear hal
  try go_wp2_with fail
  generalize W3.alloc (.cells #[.string s, .int .i64 0, .bool false] 34) = W4 at *
  obtain ⟨nq, hnq⟩ : ∃ n, n2 + 1 = n := ⟨_, rfl⟩
  have hq1 : n1 < nq := by omega
  have hq2 : n2 < nq := by omega
  have hq3 : nr < nq := by omega
  have hq4 : w.heap.size ≤ nq := by omega
  rw [hnq] at hq ⊢
  clear hnq
  refine (HRD.out W4 nq 0 s false (by omega) (Nat.zero_le _) hq).mono ?_
  clear hq
  rintro r w5 ⟨v, q2, bad2, rfl, hq, hq2s, hg, hst⟩
  replace hP := hP.keep hg (fun e => by have := Option.some.inj e; omega)
  replace hU := hU.keep hg (fun e => by have := Option.some.inj e; omega)
  replace hr1 := hr1.keep hg (fun e => by have := Option.some.inj e; omega)
  replace hN := below_by hN hg hq4
  have hn5 : n2 < w5.heap.size := hU.lt
  have hn6 : nq < w5.heap.size := hq.lt
  clear hg
  have hV : rpE.In (w5.alloc (.cells #[.int .i64 v.d, .int .i64 v.i, .int .i64 v.b, .int .i64 v.t, .int .i64 v.m, .int .i64 v.p, .int .i64 v.c, .int .i64 v.s, .int .i64 v.k] 23)) w5.heap.size v := El.In.new (E := rpE) w5 v _ rfl
  have hal := below_alloc (Below.refl w5.heap.size w5) (.cells #[.int .i64 v.d, .int .i64 v.i, .int .i64 v.b, .int .i64 v.t, .int .i64 v.m, .int .i64 v.p, .int .i64 v.c, .int .i64 v.s, .int .i64 v.k] 23)
  replace hP := hP.below hal
  replace hU := hU.below hal
  replace hr1 := hr1.below hal
  replace hq := hq.below hal
  replace hN := below_then hN hal
  clear hal
  go_wp2_with fail
  generalize w5.alloc (.cells #[.int .i64 v.d, .int .i64 v.i, .int .i64 v.b, .int .i64 v.t, .int .i64 v.m, .int .i64 v.p, .int .i64 v.c, .int .i64 v.s, .int .i64 v.k] 23) = W5 at *
  obtain ⟨n3, hn3⟩ : ∃ n, w5.heap.size = n := ⟨_, rfl⟩
  rw [hn3] at hV hn5 hn6 ⊢
  clear hn3 hn5 hn6 hq1 hq2 hq3 hq4 hn12 hwn2 hnr2 hn1r hwr hwn1
  obtain ⟨p0, p1, p2, p3, p4, p5, p6, p7, p8⟩ := rpIn9 hP
  obtain ⟨u0, u1, u2, u3, u4, u5, u6, u7, u8⟩ := rpIn9 hU
  obtain ⟨v0, v1, v2, v3, v4, v5, v6, v7, v8⟩ := rpIn9 hV
  obtain ⟨z0, z1, z2⟩ := hq.cells
  have kp0 := cell_regrown p0
  have kp1 := cell_regrown p1
  have kp2 := cell_regrown p2
  have kp3 := cell_regrown p3
  have kp4 := cell_regrown p4
  have kp5 := cell_regrown p5
  have kp6 := cell_regrown p6
  have kp7 := cell_regrown p7
  have kp8 := cell_regrown p8
  have ku0 := cell_regrown u0
  have ku1 := cell_regrown u1
  have ku2 := cell_regrown u2
  have ku3 := cell_regrown u3
  have ku4 := cell_regrown u4
  have ku5 := cell_regrown u5
  have ku6 := cell_regrown u6
  have ku7 := cell_regrown u7
  have ku8 := cell_regrown u8
  have kv0 := cell_regrown v0
  have kv1 := cell_regrown v1
  have kv2 := cell_regrown v2
  have kv3 := cell_regrown v3
  have kv4 := cell_regrown v4
  have kv5 := cell_regrown v5
  have kv6 := cell_regrown v6
  have kv7 := cell_regrown v7
  have kv8 := cell_regrown v8
  have kz0 := cell_regrown z0
  have kz1 := cell_regrown z1
  have kz2 := cell_regrown z2
  have d1 : ∀ c os, Calls Try.prog 8 #[] (Sort.grow (redrawn W5 c) os) fun e w'' => e = .returned (.bool true) ∧ ∃ p : Regrown, w'' = Sort.grow (redrawn W5 p.d) p.os := fun c os => Calls.regrown_of (HAW.out _)
  clear p0 p1 p2 p3 p4 p5 p6 p7 p8 u0 u1 u2 u3 u4 u5 u6 u7 u8 v0 v1 v2 v3 v4 v5 v6 v7 v8 z0 z1 z2 hP hU hV hq
  cases hab : rpB a with
  | true =>
    have hself := HSELF.out hab
    obtain ⟨rfl, rfl, rfl⟩ : q1 = BY.size ∧ bad1 = false ∧ u = a := by
      rcases HST1.out with ⟨h, rfl⟩ | ⟨h, _⟩
      · rw [hself] at h; have h := Option.some.inj h; exact ⟨(congrArg Prod.snd h).symm, rfl, (congrArg Prod.fst h).symm⟩
      · rw [hself] at h; cases h
    have d2 : ∀ c os, Calls Try.prog 9 #[.agg #[.int .i64 u.d, .int .i64 u.i, .int .i64 u.b, .int .i64 u.t, .int .i64 u.m, .int .i64 u.p, .int .i64 u.c, .int .i64 u.s, .int .i64 u.k]] (Sort.grow (redrawn W5 c) os) fun e w'' => e = .returned (.bool true) ∧ ∃ p : Regrown, w'' = Sort.grow (redrawn W5 p.d) p.os := fun c os => Calls.regrown_of (by
      have h2 := HRT.out u (Sort.grow (redrawn W5 c) os)
      rw [hab] at h2
      exact h2)
    have d3 : ∀ c os, Calls Try.prog 19 #[.pointer (some ⟨nr, 0, none⟩)] (Sort.grow (redrawn W5 c) os) fun e w'' => e = .returned (.bool true) ∧ ∃ p : Regrown, w'' = Sort.grow (redrawn W5 p.d) p.os := fun c os => Calls.regrown_of (by
      have h := done_any (Nat.le_refl _) (hr1.below (below_regrown W5 c os))
      rw [show isDone BY BY.size false = true by unfold isDone; simp] at h
      exact h.mono (by
        rintro r w' ⟨h1, m, rfl⟩
        exact ⟨h1, below_drew (Below.refl _ _) m⟩))
    have q := run_eqRp u u
    rw [show rpEq u u = true from rpEq_iff.2 rfl] at q
    clear hself HSELF HST1 hab
    rcases hst with ⟨h, rfl⟩ | ⟨_, _, rfl⟩
    · skip
      have hex := rp_first hq2s h
      have hR := (rp_bytes h).1
      have d4 : ∀ c os, Calls Try.prog 9 #[.agg #[.int .i64 v.d, .int .i64 v.i, .int .i64 v.b, .int .i64 v.t, .int .i64 v.m, .int .i64 v.p, .int .i64 v.c, .int .i64 v.s, .int .i64 v.k]] (Sort.grow (redrawn W5 c) os) fun e w'' => e = .returned (.bool true) ∧ ∃ p : Regrown, w'' = Sort.grow (redrawn W5 p.d) p.os := fun c os => Calls.regrown_of (by
        have h2 := HRT.out v (Sort.grow (redrawn W5 c) os)
        rw [rpB_iff.2 hR] at h2
        exact h2)
      have d5 : ∀ c os, Calls Try.prog 13 #[.agg #[.int .i64 v.d, .int .i64 v.i, .int .i64 v.b, .int .i64 v.t, .int .i64 v.m, .int .i64 v.p, .int .i64 v.c, .int .i64 v.s, .int .i64 v.k]] (Sort.grow (redrawn W5 c) os) fun e w'' => e = .returned (.string (s.extract 0 q2)) ∧ ∃ p : Regrown, w'' = Sort.grow (redrawn W5 p.d) p.os := fun c os => Calls.regrown_of (by
        have h2 := HPT.out v (Sort.grow (redrawn W5 c) os) hR.i64
        rw [← hex] at h2
        exact h2)
      have hq2i : (q2 : Int) ≤ (s.size : Int) := by omega
      clear h hex hR
      refine wp_region_quiet_below (by kernel_rfl) (by kernel_rfl) ?_
      repeat (go_big_quiet_step ((with_reducible (first | exact d1 _ _ | exact d2 _ _ | exact d3 _ _ | exact d4 _ _ | exact d5 _ _))))
      refine wpQuiet_nil ?_
      intro _ hw'
      obtain ⟨⟨dq, osq⟩, hw''⟩ := hw'
      subst hw''
      go_wp2
      go_ret
      exact ⟨rfl, below_then hN (below_regrown W5 dq osq)⟩
    · skip
      refine wp_region_quiet_below (by kernel_rfl) (by kernel_rfl) ?_
      repeat (go_big_quiet_step ((with_reducible (first | exact d1 _ _ | exact d2 _ _ | exact d3 _ _))))
      refine wpQuiet_nil ?_
      intro _ hw'
      obtain ⟨⟨dq, osq⟩, hw''⟩ := hw'
      subst hw''
      go_wp2
      go_ret
      exact ⟨rfl, below_then hN (below_regrown W5 dq osq)⟩
  | false =>
    have d2 : ∀ c os, Calls Try.prog 9 #[.agg #[.int .i64 a.d, .int .i64 a.i, .int .i64 a.b, .int .i64 a.t, .int .i64 a.m, .int .i64 a.p, .int .i64 a.c, .int .i64 a.s, .int .i64 a.k]] (Sort.grow (redrawn W5 c) os) fun e w'' => e = .returned (.bool false) ∧ ∃ p : Regrown, w'' = Sort.grow (redrawn W5 p.d) p.os := fun c os => Calls.regrown_of (by
      have h2 := HRT.out a (Sort.grow (redrawn W5 c) os)
      rw [hab] at h2
      exact h2)
    clear HSELF HST1 hab
    rcases hst with ⟨h, rfl⟩ | ⟨_, _, rfl⟩
    · skip
      have hex := rp_first hq2s h
      have hR := (rp_bytes h).1
      have d4 : ∀ c os, Calls Try.prog 9 #[.agg #[.int .i64 v.d, .int .i64 v.i, .int .i64 v.b, .int .i64 v.t, .int .i64 v.m, .int .i64 v.p, .int .i64 v.c, .int .i64 v.s, .int .i64 v.k]] (Sort.grow (redrawn W5 c) os) fun e w'' => e = .returned (.bool true) ∧ ∃ p : Regrown, w'' = Sort.grow (redrawn W5 p.d) p.os := fun c os => Calls.regrown_of (by
        have h2 := HRT.out v (Sort.grow (redrawn W5 c) os)
        rw [rpB_iff.2 hR] at h2
        exact h2)
      have d5 : ∀ c os, Calls Try.prog 13 #[.agg #[.int .i64 v.d, .int .i64 v.i, .int .i64 v.b, .int .i64 v.t, .int .i64 v.m, .int .i64 v.p, .int .i64 v.c, .int .i64 v.s, .int .i64 v.k]] (Sort.grow (redrawn W5 c) os) fun e w'' => e = .returned (.string (s.extract 0 q2)) ∧ ∃ p : Regrown, w'' = Sort.grow (redrawn W5 p.d) p.os := fun c os => Calls.regrown_of (by
        have h2 := HPT.out v (Sort.grow (redrawn W5 c) os) hR.i64
        rw [← hex] at h2
        exact h2)
      have hq2i : (q2 : Int) ≤ (s.size : Int) := by omega
      clear h hex hR
      refine wp_region_quiet_below (by kernel_rfl) (by kernel_rfl) ?_
      repeat (go_big_quiet_step ((with_reducible (first | exact d1 _ _ | exact d2 _ _ | exact d4 _ _ | exact d5 _ _))))
      refine wpQuiet_nil ?_
      intro _ hw'
      obtain ⟨⟨dq, osq⟩, hw''⟩ := hw'
      subst hw''
      go_wp2
      go_ret
      exact ⟨rfl, below_then hN (below_regrown W5 dq osq)⟩
    · skip
      refine wp_region_quiet_below (by kernel_rfl) (by kernel_rfl) ?_
      repeat (go_big_quiet_step ((with_reducible (first | exact d1 _ _ | exact d2 _ _))))
      refine wpQuiet_nil ?_
      intro _ hw'
      obtain ⟨⟨dq, osq⟩, hw''⟩ := hw'
      subst hw''
      go_wp2
      go_ret
      exact ⟨rfl, below_then hN (below_regrown W5 dq osq)⟩
set_option maxRecDepth 100000 in
theorem back14_lifted (H0 : ReportCalls) (os : Os) (started : os.Started) (H : Type) (enc : TypeId × Value → H) :
    ReturnsInHanded {} Try.checked os 5 .any (Rows.reportBackSpec.pre6 enc Try.prog Try.f5 Rows.reportBackRow.domain false) (Rows.reportBackSpec.post enc Try.prog Try.f5 false true false false) := by
  refine returnsInHanded_of_change (C := Try.checked) own started (by kernel_rfl) Try.func5
    (ChangeSpec.witness6 (enc := enc) (C := Try.checked) false ⟨#[], #[.agg #[.int .i64 0, .int .i64 0, .int .i64 0, .int .i64 0, .int .i64 0, .int .i64 0, .int .i64 0, .int .i64 0, .int .i64 0], .string ⟨#[]⟩], []⟩ 8 (by kernel_rfl) (by kernel_rfl) (by kernel_rfl) (by kernel_rfl)) ?_
  intro W base args ds gs before hval0 hW _ _
  have hval : ∀ (j : Nat) t v, Try.f5.params[j]? = some t → args[j]? = some v → Value.okWide Try.prog W .any base t v := hval0
  have hW' := hW
  obtain ⟨p, q, hA0, hV, rfl, _, _⟩ := hW
  have hA : DataW.TrodAll enc Try.prog W 0 (fun _ => true) true Try.f5.params.toList args.toList ds p := hA0
  rw [Try.params5] at hA hval
  obtain ⟨v0, v1, d0, d1, p0, p1, rfl, rfl, rfl, h0, h1⟩ := trodAll_two hA
  obtain ⟨a, rfl, hwa⟩ := open_rp (hval 0 23 v0 rfl rfl) h0
  obtain ⟨s, rfl, hs⟩ := open_str (hval 1 9 v1 rfl rfl) h1
  have hc : Calls Try.prog 5 #[.agg #[.int .i64 a.d, .int .i64 a.i, .int .i64 a.b, .int .i64 a.t, .int .i64 a.m, .int .i64 a.p, .int .i64 a.c, .int .i64 a.s, .int .i64 a.k], .string s] W fun e w' => e = .returned (.bool true) ∧ Below W.heap.size W w' := by
    by_cases h : s.size ≤ 500
    · exact back14_yes H0 a s W hwa h
    · exact back14_no H0 a s W (by omega) hs
  refine hc.mono fun e W' ⟨he, hb⟩ => ?_
  subst he
  exact ⟨_, rfl, Frm.law_post (by kernel_rfl) (by kernel_rfl) (by kernel_rfl) Try.underlying4 rfl rfl hW' hb⟩

theorem back14_holds (H0 : ReportCalls) : Rows.ReportBackSaid :=
  OpenClaim.holds_of_wide 5 Try.f5 rfl rfl rfl rfl rfl rfl rfl ⟨rfl, rfl, rfl, rfl, rfl⟩ rfl rfl rfl rfl rfl (by kernel_rfl) Try.func5 (by kernel_rfl)
    (of_decide_eq_true (by kernel_rfl)) (by unfold Func.isWrapper; first | (rw [if_pos (by decide +kernel)]; kernel_rfl) | (rw [if_neg (by decide +kernel)]; exact ⟨rfl, rfl⟩))
    (fun os started H enc _ => back14_lifted H0 os started H enc)
end Go.Proofs.Ytknoabafpgdooaa

namespace Go.Proofs.Ytknoabafpgdooaa
theorem reportBack_all : Rows.ReportBackSaid := back14_holds reportCalls
end Go.Proofs.Ytknoabafpgdooaa
