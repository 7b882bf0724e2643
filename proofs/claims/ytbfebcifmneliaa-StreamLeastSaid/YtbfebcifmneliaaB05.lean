/- Texts laid one behind the other: El, Ec, Wa, Em, Eo, Hm, Hn, Ho, Hp, Hq, Hr, Tc, Td, Shf. -/
import Derived.Test.YtbfebcifmneliaaB04
import Derived.Deep.RegionHeld3
import Derived.Deep.CutRange
import Derived.Shelf.Strings.Builder1
import Derived.Test.YtbfebcifmneliaaChecked
/- The program's entries: Right, Print. -/
namespace Go.Proofs.Ytbfebcifmneliaa
open Go.RowKit Nam Cod

theorem op_mv (m : Mv) (w : World) (hs : m.s.size ≤ 9223372036854775807) :
    Calls Try.prog 53 #[.agg #[.int .i64 m.C, .int .i64 m.D, .int .i64 m.I, .int .i64 m.M, .int .i64 m.K, .int .i64 m.U, .string m.s]] w fun e w' => e = .returned (.bool (okB m)) ∧ Below w.heap.size w w' := opRight_any m.C m.D m.I m.M m.K m.U m.s w hs
theorem opP_mv (m : Mv) (w : World) (hw : Wide m.C m.D m.I m.M m.K m.U) (hs : m.s.size ≤ 1000000) :
    Calls Try.prog 46 #[.agg #[.int .i64 m.C, .int .i64 m.D, .int .i64 m.I, .int .i64 m.M, .int .i64 m.K, .int .i64 m.U, .string m.s]] w fun e w' => e = .returned (.string m.bytes) ∧ Below w.heap.size w w' := opPrint_any m.C m.D m.I m.M m.K m.U m.s w hw hs

set_option maxRecDepth 100000 in
theorem life_any (d i : Int) (w : World) : Calls Try.prog 54 #[.int .i64 d, .int .i64 i] w fun r w' => r = .returned (.bool (lifeB d i)) ∧ Below w.heap.size w w' := by
  by_cases h3 : 0 ≤ d ∧ d < 12 ∧ 1 ≤ i ∧ i ≤ 1099511627776
  · have hl : lifeB d i = true := decide_eq_true h3
    rw [hl]
    obtain ⟨h4, h5, h6, h7⟩ := h3
    clear hl
    go_enter Try.func54, Try.ntmps54
    go_wp2_with fail
    go_ret
    exact ⟨rfl, Below.refl _ _⟩
  · have hl : lifeB d i = false := decide_eq_false h3
    rw [hl]
    clear hl
    rcases (show d < 0 ∨ (0 ≤ d ∧ 12 ≤ d) ∨ (0 ≤ d ∧ d < 12 ∧ i < 1) ∨ (0 ≤ d ∧ d < 12 ∧ 1 ≤ i ∧ 1099511627776 < i) by omega) with h4 | ⟨h4, h5⟩ | ⟨h4, h5, h6⟩ | ⟨h4, h5, h6, h7⟩
    all_goals
      clear h3
      try have f7 : decide (i ≤ 1099511627776) = false := decide_eq_false (by omega)
      go_enter Try.func54, Try.ntmps54
      go_wp2_with fail
      go_ret
      exact ⟨rfl, Below.refl _ _⟩

set_option maxRecDepth 100000 in
set_option maxHeartbeats 2000000 in
theorem entRight_any (e : En) (w : World) (hs : e.o.s.size ≤ 9223372036854775807) : Calls Try.prog 43 #[.agg #[.int .i64 e.k, .int .i64 e.d, .int .i64 e.i, .int .i64 e.o.C, .int .i64 e.o.D, .int .i64 e.o.I, .int .i64 e.o.M, .int .i64 e.o.K, .int .i64 e.o.U, .string e.o.s]] w fun r w' => r = .returned (.bool (entB e)) ∧ Below w.heap.size w w' := by
  obtain ⟨k, d, i, o⟩ := e
  dsimp only at hs ⊢
  have hE : enE.In (w.alloc (.cells #[.int .i64 (⟨k, d, i, o⟩ : En).k, .int .i64 (⟨k, d, i, o⟩ : En).d, .int .i64 (⟨k, d, i, o⟩ : En).i, .int .i64 (⟨k, d, i, o⟩ : En).o.C, .int .i64 (⟨k, d, i, o⟩ : En).o.D, .int .i64 (⟨k, d, i, o⟩ : En).o.I, .int .i64 (⟨k, d, i, o⟩ : En).o.M, .int .i64 (⟨k, d, i, o⟩ : En).o.K, .int .i64 (⟨k, d, i, o⟩ : En).o.U, .string (⟨k, d, i, o⟩ : En).o.s] 37)) w.heap.size ⟨k, d, i, o⟩ := El.In.new (E := enE) w ⟨k, d, i, o⟩ _ rfl
  have hB := below_alloc (Below.refl w.heap.size w) (.cells #[.int .i64 (⟨k, d, i, o⟩ : En).k, .int .i64 (⟨k, d, i, o⟩ : En).d, .int .i64 (⟨k, d, i, o⟩ : En).i, .int .i64 (⟨k, d, i, o⟩ : En).o.C, .int .i64 (⟨k, d, i, o⟩ : En).o.D, .int .i64 (⟨k, d, i, o⟩ : En).o.I, .int .i64 (⟨k, d, i, o⟩ : En).o.M, .int .i64 (⟨k, d, i, o⟩ : En).o.K, .int .i64 (⟨k, d, i, o⟩ : En).o.U, .string (⟨k, d, i, o⟩ : En).o.s] 37)
  dsimp only at hE hB
  have C1 := (fun wx => op_mv o wx hs)
  have C2 := (fun wx => life_any d i wx)
  by_cases h1 : k = 1
  · subst h1
    have hv : entB ⟨1, d, i, o⟩ = (decide (d = 0 ∧ i = 0) && okB o) := by
      unfold entB; rw [if_pos rfl]
    rw [hv]
    clear hv C2
    generalize okB o = bo at *
    replace C1 := Lib.hid C1
    cases bo
    · rw [Bool.and_false]
      go_enter Try.func43, Try.ntmps43
      go_wp2_with fail
      refine (C1.out _).mono ?_
      rintro r w1 ⟨rfl, hb1⟩
      replace hB := hB.trans (hb1.mono hB.size)
      obtain ⟨p0, p1, p2, p3, p4, p5, p6, p7, p8, p9⟩ := enIn10 (hE.below hb1)
      dsimp only at p0 p1 p2 p3 p4 p5 p6 p7 p8 p9
      clear hb1 hE
      go_wp2_with fail
      go_ret
      exact ⟨rfl, hB⟩
    · rw [Bool.and_true]
      by_cases h3 : d = 0
      · subst h3
        by_cases h4 : i = 0
        · subst h4
          have hv : decide ((0 : Int) = 0 ∧ (0 : Int) = 0) = true := decide_eq_true ⟨rfl, rfl⟩
          rw [hv]
          clear hv
          go_enter Try.func43, Try.ntmps43
          go_wp2_with fail
          refine (C1.out _).mono ?_
          rintro r w1 ⟨rfl, hb1⟩
          replace hB := hB.trans (hb1.mono hB.size)
          obtain ⟨p0, p1, p2, p3, p4, p5, p6, p7, p8, p9⟩ := enIn10 (hE.below hb1)
          dsimp only at p0 p1 p2 p3 p4 p5 p6 p7 p8 p9
          clear hb1 hE
          go_wp2_with fail
          go_ret
          exact ⟨rfl, hB⟩
        · have hv : decide ((0 : Int) = 0 ∧ i = 0) = false := decide_eq_false (fun h => h4 h.2)
          rw [hv]
          clear hv
          have e2 : (i == 0) = false := beq_eq_false_iff_ne.2 h4
          clear h4
          go_enter Try.func43, Try.ntmps43
          go_wp2_with fail
          refine (C1.out _).mono ?_
          rintro r w1 ⟨rfl, hb1⟩
          replace hB := hB.trans (hb1.mono hB.size)
          obtain ⟨p0, p1, p2, p3, p4, p5, p6, p7, p8, p9⟩ := enIn10 (hE.below hb1)
          dsimp only at p0 p1 p2 p3 p4 p5 p6 p7 p8 p9
          clear hb1 hE
          go_wp2_with fail
          go_ret
          exact ⟨rfl, hB⟩
      · have hv : decide (d = 0 ∧ i = 0) = false := decide_eq_false (fun h => h3 h.1)
        rw [hv]
        clear hv
        have e2 : (d == 0) = false := beq_eq_false_iff_ne.2 h3
        clear h3
        go_enter Try.func43, Try.ntmps43
        go_wp2_with fail
        refine (C1.out _).mono ?_
        rintro r w1 ⟨rfl, hb1⟩
        replace hB := hB.trans (hb1.mono hB.size)
        obtain ⟨p0, p1, p2, p3, p4, p5, p6, p7, p8, p9⟩ := enIn10 (hE.below hb1)
        dsimp only at p0 p1 p2 p3 p4 p5 p6 p7 p8 p9
        clear hb1 hE
        go_wp2_with fail
        go_ret
        exact ⟨rfl, hB⟩
  · have e1 : (k == 1) = false := beq_eq_false_iff_ne.2 h1
    by_cases h2 : k = 2 ∨ k = 3
    · have hv : entB ⟨k, d, i, o⟩ = (lifeB d i && zeroB o) := by
        unfold entB
        rw [if_neg h1, if_pos h2]
      rw [hv]
      have q := run_eqMv
      have HZ := Lib.hid (show mvEq o.C o.D o.I o.M o.K o.U o.s 0 0 0 0 0 0 ⟨#[]⟩ = zeroB o from rfl)
      clear hv h1 C1
      generalize lifeB d i = lb at *
      replace C2 := Lib.hid C2
      cases lb
      · rw [Bool.false_and]
        rcases h2 with rfl | rfl
        · skip
          go_enter Try.func43, Try.ntmps43
          go_wp2_with fail
          refine (C2.out _).mono ?_
          rintro r w1 ⟨rfl, hb1⟩
          replace hB := hB.trans (hb1.mono hB.size)
          obtain ⟨p0, p1, p2, p3, p4, p5, p6, p7, p8, p9⟩ := enIn10 (hE.below hb1)
          dsimp only at p0 p1 p2 p3 p4 p5 p6 p7 p8 p9
          clear hb1 hE
          go_wp2_with fail
          go_ret
          exact ⟨rfl, hB⟩
        · skip
          go_enter Try.func43, Try.ntmps43
          go_wp2_with fail
          refine (C2.out _).mono ?_
          rintro r w1 ⟨rfl, hb1⟩
          replace hB := hB.trans (hb1.mono hB.size)
          obtain ⟨p0, p1, p2, p3, p4, p5, p6, p7, p8, p9⟩ := enIn10 (hE.below hb1)
          dsimp only at p0 p1 p2 p3 p4 p5 p6 p7 p8 p9
          clear hb1 hE
          go_wp2_with fail
          go_ret
          exact ⟨rfl, hB⟩
      · rw [Bool.true_and]
        rcases h2 with rfl | rfl
        · skip
          go_enter Try.func43, Try.ntmps43
          go_wp2_with fail
          refine (C2.out _).mono ?_
          rintro r w1 ⟨rfl, hb1⟩
          replace hB := hB.trans (hb1.mono hB.size)
          obtain ⟨p0, p1, p2, p3, p4, p5, p6, p7, p8, p9⟩ := enIn10 (hE.below hb1)
          dsimp only at p0 p1 p2 p3 p4 p5 p6 p7 p8 p9
          clear hb1 hE
          go_wp2_with fail
          go_ret
          exact ⟨by rw [HZ.out]; rfl, hB⟩
        · skip
          go_enter Try.func43, Try.ntmps43
          go_wp2_with fail
          refine (C2.out _).mono ?_
          rintro r w1 ⟨rfl, hb1⟩
          replace hB := hB.trans (hb1.mono hB.size)
          obtain ⟨p0, p1, p2, p3, p4, p5, p6, p7, p8, p9⟩ := enIn10 (hE.below hb1)
          dsimp only at p0 p1 p2 p3 p4 p5 p6 p7 p8 p9
          clear hb1 hE
          go_wp2_with fail
          go_ret
          exact ⟨by rw [HZ.out]; rfl, hB⟩
    · have hv : entB ⟨k, d, i, o⟩ = false := by
        unfold entB
        rw [if_neg h1, if_neg h2]
      rw [hv]
      have e2 : (k == 2) = false := beq_eq_false_iff_ne.2 (fun h => h2 (Or.inl h))
      have e3 : (k == 3) = false := beq_eq_false_iff_ne.2 (fun h => h2 (Or.inr h))
      clear h1 h2 hv
      go_enter Try.func43, Try.ntmps43
      go_wp2_with fail
      go_ret
      exact ⟨rfl, hB⟩

set_option maxRecDepth 100000 in
set_option maxHeartbeats 2000000 in
theorem entPrint_any (e : En) (w : World) (hw : EnW e) (hs : e.o.s.size ≤ 1000000) : Calls Try.prog 35 #[.agg #[.int .i64 e.k, .int .i64 e.d, .int .i64 e.i, .int .i64 e.o.C, .int .i64 e.o.D, .int .i64 e.o.I, .int .i64 e.o.M, .int .i64 e.o.K, .int .i64 e.o.U, .string e.o.s]] w fun r w' => r = .returned (.string (entBytes e)) ∧ Below w.heap.size w w' := by
  obtain ⟨k, d, i, o⟩ := e
  obtain ⟨hk, hd, hi, ho⟩ := hw
  dsimp only at hs hk hd hi ho ⊢
  have hE : enE.In (w.alloc (.cells #[.int .i64 (⟨k, d, i, o⟩ : En).k, .int .i64 (⟨k, d, i, o⟩ : En).d, .int .i64 (⟨k, d, i, o⟩ : En).i, .int .i64 (⟨k, d, i, o⟩ : En).o.C, .int .i64 (⟨k, d, i, o⟩ : En).o.D, .int .i64 (⟨k, d, i, o⟩ : En).o.I, .int .i64 (⟨k, d, i, o⟩ : En).o.M, .int .i64 (⟨k, d, i, o⟩ : En).o.K, .int .i64 (⟨k, d, i, o⟩ : En).o.U, .string (⟨k, d, i, o⟩ : En).o.s] 37)) w.heap.size ⟨k, d, i, o⟩ := El.In.new (E := enE) w ⟨k, d, i, o⟩ _ rfl
  have hB := below_alloc (Below.refl w.heap.size w) (.cells #[.int .i64 (⟨k, d, i, o⟩ : En).k, .int .i64 (⟨k, d, i, o⟩ : En).d, .int .i64 (⟨k, d, i, o⟩ : En).i, .int .i64 (⟨k, d, i, o⟩ : En).o.C, .int .i64 (⟨k, d, i, o⟩ : En).o.D, .int .i64 (⟨k, d, i, o⟩ : En).o.I, .int .i64 (⟨k, d, i, o⟩ : En).o.M, .int .i64 (⟨k, d, i, o⟩ : En).o.K, .int .i64 (⟨k, d, i, o⟩ : En).o.U, .string (⟨k, d, i, o⟩ : En).o.s] 37)
  obtain ⟨p0, p1, p2, p3, p4, p5, p6, p7, p8, p9⟩ := enIn10 hE
  dsimp only at hE hB p0 p1 p2 p3 p4 p5 p6 p7 p8 p9
  have CK := Lib.hid (fun wx => num_any k wx hk.1 hk.2)
  have zk := bytesOf_le10 hk
  by_cases h1 : k = 1
  · subst h1
    have hv : entBytes ⟨1, d, i, o⟩ = bytesOf 1 ++ o.bytes := rfl
    rw [hv]
    have CO := Lib.hid (fun wx => opP_mv o wx ho hs)
    have zo := mvBytes_le ho hs
    generalize bytesOf 1 = B1 at *
    generalize o.bytes = B2 at *
    clear hv hk hd hi ho hE
    go_enter Try.func35, Try.ntmps35
    go_wp2_with fail
    generalize w.alloc (.cells #[.int .i64 1, .int .i64 d, .int .i64 i, .int .i64 o.C, .int .i64 o.D, .int .i64 o.I, .int .i64 o.M, .int .i64 o.K, .int .i64 o.U, .string o.s] 37) = W at *
    obtain ⟨n1, hn1⟩ : ∃ n, w.heap.size = n := ⟨_, rfl⟩
    rw [hn1] at p0 p1 p2 p3 p4 p5 p6 p7 p8 p9 ⊢
    clear hn1
    have k0 := cell_regrown p0
    have k1 := cell_regrown p1
    have k2 := cell_regrown p2
    have k3 := cell_regrown p3
    have k4 := cell_regrown p4
    have k5 := cell_regrown p5
    have k6 := cell_regrown p6
    have k7 := cell_regrown p7
    have k8 := cell_regrown p8
    have k9 := cell_regrown p9
    clear p0 p1 p2 p3 p4 p5 p6 p7 p8 p9
    have d1 : ∀ d os, Calls Try.prog 34 #[.int .i64 1] (Sort.grow (redrawn W d) os) fun e w'' => e = .returned (.string B1) ∧ ∃ p : Regrown, w'' = Sort.grow (redrawn W p.d) p.os := fun d os => Calls.regrown_of (CK.out _)
    have d2 : ∀ d os, Calls Try.prog 46 #[.agg #[.int .i64 o.C, .int .i64 o.D, .int .i64 o.I, .int .i64 o.M, .int .i64 o.K, .int .i64 o.U, .string o.s]] (Sort.grow (redrawn W d) os) fun e w'' => e = .returned (.string B2) ∧ ∃ p : Regrown, w'' = Sort.grow (redrawn W p.d) p.os := fun d os => Calls.regrown_of (CO.out _)
    refine wp_region_quiet_below (by kernel_rfl) (by kernel_rfl) ?_
    repeat (go_big_quiet_step ((with_reducible (first | exact d1 _ _ | exact d2 _ _))))
    refine wpQuiet_nil ?_
    intro _ hw'
    obtain ⟨⟨dq, osq⟩, hw''⟩ := hw'
    subst hw''
    go_wp2
    go_ret
    exact ⟨rfl, below_then hB (below_regrown W dq osq)⟩
  · have hv : entBytes ⟨k, d, i, o⟩ = bytesOf k ++ bytesOf d ++ bytesOf i := by unfold entBytes; rw [if_neg h1]
    rw [hv]
    have e1 : (k == 1) = false := beq_eq_false_iff_ne.2 h1
    have CD := Lib.hid (fun wx => num_any d wx hd.1 hd.2)
    have CI := Lib.hid (fun wx => num_any i wx hi.1 hi.2)
    have zd := bytesOf_le10 hd
    have zi := bytesOf_le10 hi
    generalize bytesOf k = B1 at *
    generalize bytesOf d = B2 at *
    generalize bytesOf i = B3 at *
    clear hv hk hd hi ho hE h1
    go_enter Try.func35, Try.ntmps35
    go_wp2_with fail
    generalize w.alloc (.cells #[.int .i64 k, .int .i64 d, .int .i64 i, .int .i64 o.C, .int .i64 o.D, .int .i64 o.I, .int .i64 o.M, .int .i64 o.K, .int .i64 o.U, .string o.s] 37) = W at *
    obtain ⟨n1, hn1⟩ : ∃ n, w.heap.size = n := ⟨_, rfl⟩
    rw [hn1] at p0 p1 p2 p3 p4 p5 p6 p7 p8 p9 ⊢
    clear hn1
    have k0 := cell_regrown p0
    have k1 := cell_regrown p1
    have k2 := cell_regrown p2
    have k3 := cell_regrown p3
    have k4 := cell_regrown p4
    have k5 := cell_regrown p5
    have k6 := cell_regrown p6
    have k7 := cell_regrown p7
    have k8 := cell_regrown p8
    have k9 := cell_regrown p9
    clear p0 p1 p2 p3 p4 p5 p6 p7 p8 p9
    have d1 : ∀ c os, Calls Try.prog 34 #[.int .i64 k] (Sort.grow (redrawn W c) os) fun e w'' => e = .returned (.string B1) ∧ ∃ p : Regrown, w'' = Sort.grow (redrawn W p.d) p.os := fun c os => Calls.regrown_of (CK.out _)
    have d2 : ∀ c os, Calls Try.prog 34 #[.int .i64 d] (Sort.grow (redrawn W c) os) fun e w'' => e = .returned (.string B2) ∧ ∃ p : Regrown, w'' = Sort.grow (redrawn W p.d) p.os := fun c os => Calls.regrown_of (CD.out _)
    have d3 : ∀ c os, Calls Try.prog 34 #[.int .i64 i] (Sort.grow (redrawn W c) os) fun e w'' => e = .returned (.string B3) ∧ ∃ p : Regrown, w'' = Sort.grow (redrawn W p.d) p.os := fun c os => Calls.regrown_of (CI.out _)
    refine wp_region_quiet_below (by kernel_rfl) (by kernel_rfl) ?_
    repeat (go_big_quiet_step ((with_reducible (first | exact d1 _ _ | exact d2 _ _ | exact d3 _ _))))
    refine wpQuiet_nil ?_
    intro _ hw'
    obtain ⟨⟨dq, osq⟩, hw''⟩ := hw'
    subst hw''
    go_wp2
    go_ret
    exact ⟨rfl, below_then hB (below_regrown W dq osq)⟩
end Go.Proofs.Ytbfebcifmneliaa

/- The document's Tally. -/
namespace Go.Proofs.Ytbfebcifmneliaa
open Go.RowKit Nam Cod

theorem cutC_next {l : List Cn} {d : Int} {k : Nat} (hk : k ≤ cutC l d) (h : k < l.length) (hd : l[k].d < d) : k + 1 ≤ cutC l d := by
  rcases Nat.lt_or_ge k (cutC l d) with h1 | h1
  · exact h1
  · obtain rfl : k = cutC l d := by omega
    have := cutC_ge l d h; omega
theorem cutC_here {l : List Cn} {d : Int} {k : Nat} (hk : k ≤ cutC l d) (h : k = l.length ∨ ∃ h : k < l.length, d ≤ l[k].d) : k = cutC l d := by
  rcases Nat.lt_or_ge k (cutC l d) with h1 | h1
  · exfalso
    have := cutC_le l d
    rcases h with h | ⟨h, h2⟩
    · omega
    · have := cutC_lt l d k h h1; omega
  · omega
theorem putC_yes {l : List Cn} {c : Cn} {k : Nat} {x : Int} (hk : k = cutC l c.d) (h : k < l.length) (hx : l[k].d = x) (he : x = c.d) : putC l c = (l.take k ++ [c]) ++ l.drop (k + 1) := by
  subst hk he
  have hh : hereC l c.d = 1 := by unfold hereC; rw [dif_pos h, if_pos hx]
  unfold putC
  rw [hh, List.append_assoc]; rfl
theorem putC_no {l : List Cn} {c : Cn} {k : Nat} (hk : k = cutC l c.d) (h : k = l.length ∨ ∃ (h : k < l.length), ¬ l[k].d = c.d) : putC l c = (l.take k ++ [c]) ++ l.drop k := by
  subst hk
  have hh : hereC l c.d = 0 := by
    unfold hereC
    rcases h with h | ⟨h, h2⟩
    · rw [dif_neg (by omega)]
    · rw [dif_pos h, if_neg h2]
  unfold putC
  rw [hh, List.append_assoc]; rfl
def CnS (n : Nat) (x : Cn) (w : World) : Prop := w.cell? ⟨n, 0, none⟩ = some (.int .i64 x.d) ∧ w.cell? ⟨n, 1, none⟩ = some (.int .i64 x.i) ∧ w.cell? ⟨n, 2, none⟩ = some (.int .i64 x.n)

end Go.Proofs.Ytbfebcifmneliaa

/- Of the library, at operations and undos: Clone, Grow, Concat. -/
namespace Go.Proofs.Ytbfebcifmneliaa
open Go.RowKit Tre Cod

def catE {α : Type} (F : Nat → List α) : Nat → List α
  | 0 => []
  | k + 1 => catE F k ++ F k
theorem catE_le {α : Type} (F : Nat → List α) (k : Nat) : ∀ n, k ≤ n → (catE F k).length ≤ (catE F n).length
  | 0, h => by obtain rfl : k = 0 := by omega
               exact Nat.le_refl _
  | n + 1, h => by
    by_cases e : k = n + 1
    · subst e; exact Nat.le_refl _
    · have := catE_le F k n (by omega)
      rw [catE, List.length_append]; omega

theorem infoOp : (Try.prog.info? 35).map (fun i => (i.zero, i.size, i.bytes)) = some (some (.agg #[.int .i64 0, .int .i64 0, .int .i64 0, .int .i64 0, .int .i64 0, .int .i64 0, .string ⟨#[]⟩]), 7, 64) := by kernel_rfl
end Go.Proofs.Ytbfebcifmneliaa

/- The program's entries: Tally. -/
namespace Go.Proofs.Ytbfebcifmneliaa
open Go.RowKit Nam Cod

def pickC {α : Type} (a b c : α) : Nat → α
  | 0 => a
  | 1 => b
  | _ => c

end Go.Proofs.Ytbfebcifmneliaa

/- The program's entries: Read, Parse; all calls. -/
namespace Go.Proofs.Ytbfebcifmneliaa
open Go.RowKit Nam Cod

set_option maxRecDepth 100000 in
set_option maxHeartbeats 4000000 in
theorem entRead_uni {w : World} {b p : Nat} {s : ByteArray} {bad : Bool} (hs : s.size ≤ 1000000) (hp : p ≤ s.size) (hr : Rd 51 w b s p bad) :
    Calls Try.prog 49 #[.pointer (some ⟨b, 0, none⟩)] w fun r w' => ∃ (x : En) (q : Nat) (bad' : Bool), r = .returned (.agg #[.int .i64 x.k, .int .i64 x.d, .int .i64 x.i, .int .i64 x.o.C, .int .i64 x.o.D, .int .i64 x.o.I, .int .i64 x.o.M, .int .i64 x.o.K, .int .i64 x.o.U, .string x.o.s]) ∧ Rd 51 w' b s q bad' ∧ q ≤ s.size ∧ w.grownBy w' (some b) ∧ entStep s p bad x q bad' := by
  have hbw := hr.lt
  go_enter Try.func49, Try.ntmps49
  go_wp2_with fail
  have hZ : enE.In ((w.alloc (.cells #[.int .i64 0, .int .i64 0, .int .i64 0, .int .i64 0, .int .i64 0, .int .i64 0, .int .i64 0, .int .i64 0, .int .i64 0, .string ⟨#[]⟩] 37)).alloc (.cells #[.int .i64 0, .int .i64 0, .int .i64 0, .int .i64 0, .int .i64 0, .int .i64 0, .int .i64 0, .int .i64 0, .int .i64 0, .string ⟨#[]⟩] 37)) w.heap.size zeroEn := (El.In.new (E := enE) w zeroEn #[.int .i64 0, .int .i64 0, .int .i64 0, .int .i64 0, .int .i64 0, .int .i64 0, .int .i64 0, .int .i64 0, .int .i64 0, .string ⟨#[]⟩] rfl).alloc _
  have hY : enE.In ((w.alloc (.cells #[.int .i64 0, .int .i64 0, .int .i64 0, .int .i64 0, .int .i64 0, .int .i64 0, .int .i64 0, .int .i64 0, .int .i64 0, .string ⟨#[]⟩] 37)).alloc (.cells #[.int .i64 0, .int .i64 0, .int .i64 0, .int .i64 0, .int .i64 0, .int .i64 0, .int .i64 0, .int .i64 0, .int .i64 0, .string ⟨#[]⟩] 37)) (w.alloc (.cells #[.int .i64 0, .int .i64 0, .int .i64 0, .int .i64 0, .int .i64 0, .int .i64 0, .int .i64 0, .int .i64 0, .int .i64 0, .string ⟨#[]⟩] 37)).heap.size zeroEn := El.In.new (E := enE) (w.alloc (.cells #[.int .i64 0, .int .i64 0, .int .i64 0, .int .i64 0, .int .i64 0, .int .i64 0, .int .i64 0, .int .i64 0, .int .i64 0, .string ⟨#[]⟩] 37)) zeroEn #[.int .i64 0, .int .i64 0, .int .i64 0, .int .i64 0, .int .i64 0, .int .i64 0, .int .i64 0, .int .i64 0, .int .i64 0, .string ⟨#[]⟩] rfl
  rw [alloc_size] at hY
  have hB := below_alloc (below_alloc (Below.refl w.heap.size w) (.cells #[.int .i64 0, .int .i64 0, .int .i64 0, .int .i64 0, .int .i64 0, .int .i64 0, .int .i64 0, .int .i64 0, .int .i64 0, .string ⟨#[]⟩] 37)) (.cells #[.int .i64 0, .int .i64 0, .int .i64 0, .int .i64 0, .int .i64 0, .int .i64 0, .int .i64 0, .int .i64 0, .int .i64 0, .string ⟨#[]⟩] 37)
  have hR := hr.below hB
  have hG := by_below hB (some b)
  obtain ⟨n3, h3⟩ : ∃ n, w.heap.size + 1 = n := ⟨_, rfl⟩
  obtain ⟨n2, h2⟩ : ∃ n, w.heap.size = n := ⟨_, rfl⟩
  have hn2 : w.heap.size ≤ n2 := by omega
  have hwn : w.heap.size ≤ n3 := by omega
  have e2 : b ≠ n2 := by omega
  have e3 : b ≠ n3 := by omega
  have e4 : n2 ≠ n3 := by omega
  have i2 : some n2 ≠ some b := fun e => e2 (Option.some.inj e).symm
  have i3 : some n3 ≠ some b := fun e => e3 (Option.some.inj e).symm
  generalize (w.alloc (.cells #[.int .i64 0, .int .i64 0, .int .i64 0, .int .i64 0, .int .i64 0, .int .i64 0, .int .i64 0, .int .i64 0, .int .i64 0, .string ⟨#[]⟩] 37)).alloc (.cells #[.int .i64 0, .int .i64 0, .int .i64 0, .int .i64 0, .int .i64 0, .int .i64 0, .int .i64 0, .int .i64 0, .int .i64 0, .string ⟨#[]⟩] 37) = W0 at *
  rw [h3] at hY ⊢
  rw [h2] at hZ ⊢
  clear h2 h3 hB hr
  refine (num_uni hs hp hR).mono ?_
  clear hR
  rintro e w1 ⟨k, q1, b1, rfl, hR, q1s, hg, st1⟩
  replace hZ := hZ.keep hg i2
  replace hY := hY.keep hg i3
  replace hG := by_trans hG hg
  clear hg
  have hE := hY.put ⟨k, 0, 0, zeroMv⟩ 0 (.int .i64 k) rfl
  have hZ1 := hZ.other n3 0 (.int .i64 k) e4
  have hR1 := hR.other n3 0 (.int .i64 k) e3
  have hG1 := by_setNew hG n3 0 (.int .i64 k) hwn
  have kc := hY.cell 0
  have kf := hY.frozen
  replace kc : w1.cell? ⟨n3, 0, none⟩ = some (.int .i64 0) := kc
  clear hY hZ hR hG
  by_cases hk : k = 1
  · subst hk
    go_wp2_with fail
    clear kc kf
    generalize w1.setCell ⟨n3, 0, none⟩ (.int .i64 1) = W1 at *
    refine (opRead_uni hs q1s hR1).mono ?_
    rintro e w2 ⟨o, q2, b2, rfl, hR2, q2s, hg2, st2⟩
    replace hE := hE.keep hg2 (fun e => by have := Option.some.inj e; omega)
    replace hZ1 := hZ1.keep hg2 i2
    replace hG1 := by_trans hG1 hg2
    clear hg2 hR1
    have hS3 : enE.In (w2.setRow n3 #[.int .i64 1, .int .i64 0, .int .i64 0, .int .i64 o.C, .int .i64 o.D, .int .i64 o.I, .int .i64 o.M, .int .i64 o.K, .int .i64 o.U, .string o.s]) n3 ⟨1, 0, 0, o⟩ := hE.set ⟨1, 0, 0, o⟩ _ rfl
    have hR3 := hR2.row n3 #[.int .i64 1, .int .i64 0, .int .i64 0, .int .i64 o.C, .int .i64 o.D, .int .i64 o.I, .int .i64 o.M, .int .i64 o.K, .int .i64 o.U, .string o.s] (by omega)
    have hZ3 := hZ1.rowN n3 #[.int .i64 1, .int .i64 0, .int .i64 0, .int .i64 o.C, .int .i64 o.D, .int .i64 o.I, .int .i64 o.M, .int .i64 o.K, .int .i64 o.U, .string o.s] (by omega)
    have hG3 := by_setRow hG1 n3 #[.int .i64 1, .int .i64 0, .int .i64 0, .int .i64 o.C, .int .i64 o.D, .int .i64 o.I, .int .i64 o.M, .int .i64 o.K, .int .i64 o.U, .string o.s] hwn
    have hos : o.s.size ≤ 9223372036854775807 := by
      rcases st2 with ⟨h, _⟩ | ⟨_, h, _⟩
      · have := (opB_wide (op_bytes h).1).2.2.1; omega
      · rw [h]; exact Nat.zero_le _
    clear hR2 hZ1 hG1
    cases b2
    · obtain ⟨g1, g2⟩ := ent_op_good st1 st2
      have HG := Lib.hid g1
      have CR := Lib.hid (fun wx => (by
        have h := entRight_any ⟨1, 0, 0, o⟩ wx hos
        rw [g2] at h
        exact h : Calls Try.prog 43 #[.agg #[.int .i64 1, .int .i64 0, .int .i64 0, .int .i64 o.C, .int .i64 o.D, .int .i64 o.I, .int .i64 o.M, .int .i64 o.K, .int .i64 o.U, .string o.s]] wx fun r w' => r = .returned (.bool true) ∧ Below wx.heap.size wx w'))
      clear st1 st2 g1 g2
      obtain ⟨p0, p1, p2, p3, p4, p5, p6, p7, p8, p9⟩ := enIn10 hS3
      obtain ⟨r0, r1, r2⟩ := hR3.cells
      dsimp only at p0 p1 p2 p3 p4 p5 p6 p7 p8 p9
      go_wp2_with (first | (refine wpList_store_enOp rfl _ _ rfl n3 ⟨1, 0, 0, zeroMv⟩ o rfl rfl hE ?_) | fail)
      clear p0 p1 p2 p3 p4 p5 p6 p7 p8 p9 r0 r1 r2 hE
      generalize w2.setRow n3 #[.int .i64 1, .int .i64 0, .int .i64 0, .int .i64 o.C, .int .i64 o.D, .int .i64 o.I, .int .i64 o.M, .int .i64 o.K, .int .i64 o.U, .string o.s] = W3 at *
      refine (CR.out _).mono ?_
      rintro e w4 ⟨rfl, hb4⟩
      replace hS3 := hS3.below hb4
      replace hR3 := hR3.below hb4
      replace hZ3 := hZ3.below hb4
      replace hG3 := by_trans hG3 (by_below hb4 _)
      clear hb4 CR
      go_wp2_with (first | (refine El.load enRow rfl _ rfl n3 0 rfl ⟨1, 0, 0, o⟩ hS3.at #[.int .i64 1, .int .i64 0, .int .i64 0, .int .i64 o.C, .int .i64 o.D, .int .i64 o.I, .int .i64 o.M, .int .i64 o.K, .int .i64 o.U, .string o.s] rfl ?_) | (refine El.store enRow rfl _ _ rfl n2 ⟨1, 0, 0, o⟩ #[.int .i64 1, .int .i64 0, .int .i64 0, .int .i64 o.C, .int .i64 o.D, .int .i64 o.I, .int .i64 o.M, .int .i64 o.K, .int .i64 o.U, .string o.s] rfl rfl rfl zeroEn hZ3 ?_) | fail)
      refine El.ret1 enRow (hZ3.set ⟨1, 0, 0, o⟩ _ rfl) rfl rfl rfl #[.int .i64 1, .int .i64 0, .int .i64 0, .int .i64 o.C, .int .i64 o.D, .int .i64 o.I, .int .i64 o.M, .int .i64 o.K, .int .i64 o.U, .string o.s] rfl ?_
      exact ⟨⟨1, 0, 0, o⟩, q2, false, rfl, hR3.row n2 _ e2, q2s, by_setRow hG3 n2 _ hn2, Or.inl ⟨HG.out, rfl⟩⟩
    · have HG := Lib.hid (ent_op_ill st1 st2)
      clear st1 st2
      obtain ⟨r0, r1, r2⟩ := hR3.cells
      have rf := hR3.frozen
      go_wp2_with (first | (refine wpList_store_enOp rfl _ _ rfl n3 ⟨1, 0, 0, zeroMv⟩ o rfl rfl hE ?_) | (refine El.store enRow rfl _ _ rfl n2 zeroEn #[.int .i64 0, .int .i64 0, .int .i64 0, .int .i64 0, .int .i64 0, .int .i64 0, .int .i64 0, .int .i64 0, .int .i64 0, .string ⟨#[]⟩] rfl rfl rfl zeroEn (hZ3.other b 2 (.bool true) e2.symm) ?_) | fail)
      refine El.ret1 enRow ((hZ3.other b 2 (.bool true) e2.symm).set zeroEn _ rfl) rfl rfl rfl #[.int .i64 0, .int .i64 0, .int .i64 0, .int .i64 0, .int .i64 0, .int .i64 0, .int .i64 0, .int .i64 0, .int .i64 0, .string ⟨#[]⟩] rfl ?_
      exact ⟨zeroEn, q2, true, rfl, (hR3.setBad).row n2 _ e2, q2s, by_setRow (by_set hG3 2 (.bool true)) n2 _ hn2, Or.inr ⟨HG.out, rfl, rfl⟩⟩
  · have e1 : (k == 1) = false := beq_eq_false_iff_ne.2 hk
    go_wp2_with fail
    clear kc kf e1
    generalize w1.setCell ⟨n3, 0, none⟩ (.int .i64 k) = W1 at *
    refine (num_uni hs q1s hR1).mono ?_
    rintro e w2 ⟨d, q2, b2, rfl, hR2, q2s, hg2, st2⟩
    replace hE := hE.keep hg2 i3
    replace hZ1 := hZ1.keep hg2 i2
    replace hG1 := by_trans hG1 hg2
    clear hg2 hR1
    have hE2 := hE.put ⟨k, d, 0, zeroMv⟩ 1 (.int .i64 d) rfl
    have hZ2 := hZ1.other n3 1 (.int .i64 d) e4
    have hR3 := hR2.other n3 1 (.int .i64 d) e3
    have hG2 := by_setNew hG1 n3 1 (.int .i64 d) hwn
    have kc := hE.cell 1
    have kf := hE.frozen
    replace kc : w2.cell? ⟨n3, 1, none⟩ = some (.int .i64 0) := kc
    clear hE hZ1 hR2 hG1
    go_wp2_with fail
    clear kc kf
    generalize w2.setCell ⟨n3, 1, none⟩ (.int .i64 d) = W2 at *
    refine (num_uni hs q2s hR3).mono ?_
    rintro e w3 ⟨i, q3, b3, rfl, hR4, q3s, hg3, st3⟩
    replace hE2 := hE2.keep hg3 i3
    replace hZ2 := hZ2.keep hg3 i2
    replace hG2 := by_trans hG2 hg3
    clear hg3 hR3
    have hE3 := hE2.put ⟨k, d, i, zeroMv⟩ 2 (.int .i64 i) rfl
    have hZ3 := hZ2.other n3 2 (.int .i64 i) e4
    have hR5 := hR4.other n3 2 (.int .i64 i) e3
    have hG3 := by_setNew hG2 n3 2 (.int .i64 i) hwn
    have kc := hE2.cell 2
    have kf := hE2.frozen
    replace kc : w3.cell? ⟨n3, 2, none⟩ = some (.int .i64 0) := kc
    clear hE2 hZ2 hR4 hG2
    cases b3
    · have HG := Lib.hid (ent_two_good hk st1 st2 st3)
      have CR := Lib.hid (fun wx => entRight_any ⟨k, d, i, zeroMv⟩ wx (Nat.zero_le _))
      clear st1 st2 st3
      obtain ⟨p0, p1, p2, p3, p4, p5, p6, p7, p8, p9⟩ := enIn10 hE3
      obtain ⟨r0, r1, r2⟩ := hR5.cells
      dsimp only [zeroMv] at p0 p1 p2 p3 p4 p5 p6 p7 p8 p9
      go_wp2_with fail
      clear p0 p1 p2 p3 p4 p5 p6 p7 p8 p9 r0 r1 r2 kc kf
      generalize w3.setCell ⟨n3, 2, none⟩ (.int .i64 i) = W3 at *
      refine (CR.out _).mono ?_
      rintro e w4 ⟨rfl, hb4⟩
      replace hE3 := hE3.below hb4
      replace hR5 := hR5.below hb4
      replace hZ3 := hZ3.below hb4
      replace hG3 := by_trans hG3 (by_below hb4 _)
      clear hb4 CR
      obtain ⟨eb, heb⟩ : ∃ eb, entB ⟨k, d, i, zeroMv⟩ = eb := ⟨_, rfl⟩
      have HG2 := Lib.hid (show isEnt s p bad = if eb = true then some (⟨k, d, i, zeroMv⟩, q3) else none by rw [HG.out, heb])
      rw [heb]
      clear HG heb
      cases eb
      · obtain ⟨r0, r1, r2⟩ := hR5.cells
        have rf := hR5.frozen
        go_wp2_with (first | (refine El.store enRow rfl _ _ rfl n2 zeroEn #[.int .i64 0, .int .i64 0, .int .i64 0, .int .i64 0, .int .i64 0, .int .i64 0, .int .i64 0, .int .i64 0, .int .i64 0, .string ⟨#[]⟩] rfl rfl rfl zeroEn (hZ3.other b 2 (.bool true) e2.symm) ?_) | fail)
        refine El.ret1 enRow ((hZ3.other b 2 (.bool true) e2.symm).set zeroEn _ rfl) rfl rfl rfl #[.int .i64 0, .int .i64 0, .int .i64 0, .int .i64 0, .int .i64 0, .int .i64 0, .int .i64 0, .int .i64 0, .int .i64 0, .string ⟨#[]⟩] rfl ?_
        exact ⟨zeroEn, q3, true, rfl, (hR5.setBad).row n2 _ e2, q3s, by_setRow (by_set hG3 2 (.bool true)) n2 _ hn2, Or.inr ⟨by rw [HG2.out, if_neg (by decide)], rfl, rfl⟩⟩
      · go_wp2_with (first | (refine El.load enRow rfl _ rfl n3 0 rfl ⟨k, d, i, zeroMv⟩ hE3.at #[.int .i64 k, .int .i64 d, .int .i64 i, .int .i64 0, .int .i64 0, .int .i64 0, .int .i64 0, .int .i64 0, .int .i64 0, .string ⟨#[]⟩] rfl ?_) | (refine El.store enRow rfl _ _ rfl n2 ⟨k, d, i, zeroMv⟩ #[.int .i64 k, .int .i64 d, .int .i64 i, .int .i64 0, .int .i64 0, .int .i64 0, .int .i64 0, .int .i64 0, .int .i64 0, .string ⟨#[]⟩] rfl rfl rfl zeroEn hZ3 ?_) | fail)
        refine El.ret1 enRow (hZ3.set ⟨k, d, i, zeroMv⟩ _ rfl) rfl rfl rfl #[.int .i64 k, .int .i64 d, .int .i64 i, .int .i64 0, .int .i64 0, .int .i64 0, .int .i64 0, .int .i64 0, .int .i64 0, .string ⟨#[]⟩] rfl ?_
        exact ⟨⟨k, d, i, zeroMv⟩, q3, false, rfl, hR5.row n2 _ e2, q3s, by_setRow hG3 n2 _ hn2, Or.inl ⟨by simpa using HG2.out, rfl⟩⟩
    · have HG := Lib.hid (ent_two_ill hk st1 st2 st3)
      clear st1 st2 st3 hE3
      obtain ⟨r0, r1, r2⟩ := hR5.cells
      have rf := hR5.frozen
      go_wp2_with (first | (refine El.store enRow rfl _ _ rfl n2 zeroEn #[.int .i64 0, .int .i64 0, .int .i64 0, .int .i64 0, .int .i64 0, .int .i64 0, .int .i64 0, .int .i64 0, .int .i64 0, .string ⟨#[]⟩] rfl rfl rfl zeroEn (hZ3.other b 2 (.bool true) e2.symm) ?_) | fail)
      refine El.ret1 enRow ((hZ3.other b 2 (.bool true) e2.symm).set zeroEn _ rfl) rfl rfl rfl #[.int .i64 0, .int .i64 0, .int .i64 0, .int .i64 0, .int .i64 0, .int .i64 0, .int .i64 0, .int .i64 0, .int .i64 0, .string ⟨#[]⟩] rfl ?_
      exact ⟨zeroEn, q3, true, rfl, (hR5.setBad).row n2 _ e2, q3s, by_setRow (by_set hG3 2 (.bool true)) n2 _ hn2, Or.inr ⟨HG.out, rfl, rfl⟩⟩

end Go.Proofs.Ytbfebcifmneliaa

/- StreamBack, given the program's calls: a stream is read from its bytes as it was; bytes that are read are those of what is read. -/
namespace Go.Proofs.Ytbfebcifmneliaa
open Go.ChangeShapes Go.WideShapes Go.ChangeAt Go.RowKit Go.Deep Nam Cod

def stmStep (s : ByteArray) (p : Nat) (bad : Bool) (x : Sm) (q : Nat) (bad' : Bool) : Prop := (isStm s p bad = some (x, q) ∧ bad' = false) ∨ (isStm s p bad = none ∧ bad' = true)
/-- What the program's Read shall answer. -/
structure StreamBoth : Prop where
  calls : StreamCalls
  read : ∀ (w : World) (b p : Nat) (s : ByteArray) (bad : Bool), s.size ≤ 1000000 → p ≤ s.size → Rd 51 w b s p bad → Calls Try.prog 23 #[.pointer (some ⟨b, 0, none⟩)] w fun r w' => ∃ (y : Sw) (q : Nat) (bad' : Bool), r = .returned (.agg #[.int .i64 y.x.s, .int .i64 y.x.t, .int .i64 y.x.p, .slice y.A y.x.es.length y.c]) ∧ y.ok w' ∧ Rd 51 w' b s q bad' ∧ q ≤ s.size ∧ w.grownBy w' (some b) ∧ stmStep s p bad y.x q bad'
theorem SlV.lt {w : World} {A : Option Addr} {c : Nat} {l : List En} (h : SlV enE w A c l) : 0 < l.length → ∀ a, A = some a → a.block < w.heap.size := fun h0 a e => by
  obtain ⟨b, off, e2, hb, _⟩ := h.1 h0
  rw [e] at e2; cases e2
  exact hb
theorem Sw.ok.grown {y : Sw} {w0 w w' : World} {n : Nat} (h0 : 0 < y.x.es.length → ∀ a, y.A = some a → a.block < n) (h : y.ok w) (hg : w.grownBy w' (some n)) : y.ok w' :=
  SlV.keepN h hg fun hl a e e2 => by
    have h1 := h0 hl a e
    have h2 := Option.some.inj e2
    omega
theorem stm_first {s : ByteArray} {x : Sm} {q : Nat} (hq : q ≤ s.size) (h : isStm s 0 false = some (x, q)) : s.extract 0 q = stmBytes x := by
  obtain ⟨_, _, h3⟩ := stm_bytes h
  rw [List.drop_zero] at h3
  have hn : (L s).length = s.size := by simp [L]
  have hl := congrArg List.length h3
  rw [List.length_append, List.length_drop, hn] at hl
  apply L_inj
  have e : L (s.extract 0 q) = ((L s).drop 0).take (q - 0) := by
    unfold L
    simp [ByteArray.data_extract, List.extract_eq_take_drop]
  rw [e, List.drop_zero, Nat.sub_zero, h3, List.take_append_of_le_length (by omega), List.take_of_length_le (by omega)]
theorem stmBytes_le {x : Sm} (h : SmR x) (hl : x.es.length ≤ 4096) : (stmBytes x).size ≤ 1000000 := by
  have h0 := h.s0
  have h1 := h.t0
  have h2 := h.tm
  have h3 := h.sp
  have h4 := h.pm
  have e1 := bytesOf_le10 (n := x.s) (i64_of (by omega))
  have e2 := bytesOf_le10 (n := x.t) (i64_of (by omega))
  have e3 := bytesOf_le10 (n := x.p) (i64_of (by omega))
  have e4 := ecat_le x.es h.ok
  unfold stmBytes
  simp only [ByteArray.size_append]
  omega

set_option maxRecDepth 100000 in
theorem back12_no (H : StreamBoth) (A : Option Addr) (c : Nat) (l : List Aw) (s : ByteArray) (w : World) (hL : AcsV w A l) (h : ¬ (fineL (acts l) ∧ s.size ≤ 2000)) : Calls Try.prog 4 #[.slice A l.length c, .string s] w fun e w' => e = .returned (.bool true) ∧ Below w.heap.size w w' := by
  have H := H.calls
  by_cases hf : fineL (acts l)
  · have CF := Lib.hid (fine12_any A c l w hL true ⟨fun _ => hf, fun _ => rfl⟩)
    have hs : 2000 < s.size := Nat.lt_of_not_le fun h2 => h ⟨hf, h2⟩
    clear h hf
    go_enter Try.func4, Try.ntmps4
    go_wp2_with fail
    refine CF.out.mono ?_
    rintro r w1 ⟨rfl, hN⟩
    go_wp2_with fail
    refine (awake12_any H _).mono ?_
    rintro r w2 ⟨rfl, hb2⟩
    go_wp2_with fail
    go_ret
    exact ⟨rfl, below_then hN hb2⟩
  · have CF := Lib.hid (fine12_any A c l w hL false ⟨(fun h => by cases h), fun h => absurd h hf⟩)
    clear h hf
    go_enter Try.func4, Try.ntmps4
    go_wp2_with fail
    refine CF.out.mono ?_
    rintro r w1 ⟨rfl, hN⟩
    go_wp2_with fail
    refine (awake12_any H _).mono ?_
    rintro r w2 ⟨rfl, hb2⟩
    go_wp2_with fail
    go_ret
    exact ⟨rfl, below_then hN hb2⟩

set_option maxRecDepth 100000 in
set_option maxHeartbeats 4000000 in
theorem back12_yes (HB : StreamBoth) (A : Option Addr) (c : Nat) (l : List Aw) (s : ByteArray) (w : World) (hL : AcsV w A l) (hf : fineL (acts l)) (hs : s.size ≤ 2000) : Calls Try.prog 4 #[.slice A l.length c, .string s] w fun e w' => e = .returned (.bool true) ∧ Below w.heap.size w w' := by
  have H := HB.calls
  have HRD := HB.read
  have CF := Lib.hid (fine12_any A c l w hL true ⟨fun _ => hf, fun _ => rfl⟩)
  have HF := Lib.hid hf
  have HL := Lib.hid hL
  have h60 : l.length ≤ 60 := by have := hf.1; rw [acts_len] at this; exact this
  clear hf hL HB
  go_enter Try.func4, Try.ntmps4
  go_wp2_with fail
  refine CF.out.mono ?_
  rintro r w1 ⟨rfl, hN⟩
  clear CF
  go_wp2_with fail
  have hZ : smE.In (w1.alloc (.cells #[.int .i64 0, .int .i64 0, .int .i64 0, .slice none 0 0] 27)) w1.heap.size zeroSw := El.In.new (E := smE) w1 zeroSw #[.int .i64 0, .int .i64 0, .int .i64 0, .slice none 0 0] rfl
  have hN2 := below_then hN (below_alloc (Below.refl w1.heap.size w1) (.cells #[.int .i64 0, .int .i64 0, .int .i64 0, .slice none 0 0] 27))
  have hwn1 : w.heap.size ≤ w1.heap.size := hN.size
  clear hN
  generalize w1.alloc (.cells #[.int .i64 0, .int .i64 0, .int .i64 0, .slice none 0 0] 27) = W1 at *
  obtain ⟨n1, hn1⟩ : ∃ n, w1.heap.size = n := ⟨_, rfl⟩
  rw [hn1] at hZ hwn1 ⊢
  clear hn1
  go_loopw [6] (fun i wr => ∃ (k : Nat) (y : Sw), k ≤ l.length ∧ i = .int .i64 k ∧ Hid (y.x = playS ((acts l).take k)) ∧ y.ok wr ∧ smE.In wr n1 y ∧ Below w.heap.size w wr) (fun i _ => l.length - (intOf i).toNat)
  case atStart => exact ⟨0, zeroSw, Nat.zero_le _, rfl, Lib.hid rfl, SlV.nil enE W1, hZ, hN2⟩
  case round =>
    clear hZ hN2
    obtain ⟨k, y, hk, rfl, hy, ho, hP, hN⟩ := hrel
    by_cases hkl : k < l.length
    · skip
      obtain ⟨b, off, eA, hbw, hc⟩ := HL.out.1 (by omega)
      have hx := acIdxH (cap := c) eA hkl
      have hat : acE.At wr b (off + k * 4) l[k] := (hc k hkl).below hN hbw
      have hbr := Nat.lt_of_lt_of_le hbw hN.size
      have HV := Lib.hid (fun (wx : World) (hb : Below w.heap.size w wx) => (HL.out.2 l[k] (List.getElem_mem hkl)).1.below hb)
      have HS := Lib.hid (fun (wx : World) (ho : y.ok wx) (hv : (l[k]).ok wx) => play_step H HF.out hkl hy.out l[k] rfl wx ho hv)
      generalize l[k] = a at *
      clear hc eA
      go_wp2_with fail
      refine region_anyG (S := PLS n1 y b (off + k * 4) a) 6 (by kernel_rfl) ?_
      replace hP : smE.In wr.drew n1 y := hP
      replace hat : acE.At wr.drew b (off + k * 4) a := hat
      replace ho : y.ok wr.drew := ho
      replace hN := hN.drew
      replace hbr : b < wr.drew.heap.size := hbr
      generalize wr.drew = U at *
      have hS : PLS n1 y b (off + k * 4) a U := ⟨smIn4 hP, acAtH hat⟩
      refine anyG_take (i := 0) (v := .agg #[.int .i64 y.x.s, .int .i64 y.x.t, .int .i64 y.x.p, .slice y.A y.x.es.length y.c]) rfl (by kernel_rfl) (by kernel_rfl) (by kernel_rfl) (by kernel_rfl) (by kernel_rfl) (fun _ _ _ h => h) (Or.inl ⟨by rfl, fun w' hSw => by (obtain ⟨⟨m0, m1, m2, m3⟩, s0, s1, s2, s3⟩ := hSw; go_simp)⟩) hS ?_
      try simp only [Act.put, List.setIfInBounds_toArray, List.set_cons_zero, List.set_cons_succ]
      refine anyG_take (i := 1) (v := .slice A l.length c) rfl (by kernel_rfl) (by kernel_rfl) (by kernel_rfl) (by kernel_rfl) (by kernel_rfl) (fun _ _ _ h => h) (Or.inl ⟨by rfl, fun w' hSw => by (obtain ⟨⟨m0, m1, m2, m3⟩, s0, s1, s2, s3⟩ := hSw; go_simp)⟩) hS ?_
      try simp only [Act.put, List.setIfInBounds_toArray, List.set_cons_zero, List.set_cons_succ]
      refine anyG_take (i := 2) (v := .int .i64 k) rfl (by kernel_rfl) (by kernel_rfl) (by kernel_rfl) (by kernel_rfl) (by kernel_rfl) (fun _ _ _ h => h) (Or.inl ⟨by rfl, fun w' hSw => by (obtain ⟨⟨m0, m1, m2, m3⟩, s0, s1, s2, s3⟩ := hSw; go_simp)⟩) hS ?_
      try simp only [Act.put, List.setIfInBounds_toArray, List.set_cons_zero, List.set_cons_succ]
      refine anyG_take (i := 3) (v := .pointer (some ⟨b, off + k * 4, none⟩)) rfl (by kernel_rfl) (by kernel_rfl) (by kernel_rfl) (by kernel_rfl) (by kernel_rfl) (fun _ _ _ h => h) (Or.inl ⟨by rfl, fun w' hSw => by (obtain ⟨⟨m0, m1, m2, m3⟩, s0, s1, s2, s3⟩ := hSw; go_simp)⟩) hS ?_
      try simp only [Act.put, List.setIfInBounds_toArray, List.set_cons_zero, List.set_cons_succ]
      refine anyG_take (i := 4) (v := .agg #[.int .i64 a.v.k, .int .i64 a.v.a, .int .i64 a.v.b, .slice a.A a.v.es.length a.c]) rfl (by kernel_rfl) (by kernel_rfl) (by kernel_rfl) (by kernel_rfl) (by kernel_rfl) (fun _ _ _ h => h) (Or.inl ⟨by rfl, fun w' hSw => by (obtain ⟨⟨m0, m1, m2, m3⟩, s0, s1, s2, s3⟩ := hSw; go_simp)⟩) hS ?_
      try simp only [Act.put, List.setIfInBounds_toArray, List.set_cons_zero, List.set_cons_succ]
      refine anyG_step (rs := [5]) (by kernel_rfl) (by simp) ?_
      refine AllG.cons rfl (fun K hK => ?_) AllG.nil
      go_simp
      refine (HS.out U ho (HV.out U hN)).mono ?_
      rintro r w1 ⟨z, rfl, hz0, hzo, hb1⟩
      have hz := Lib.hid hz0
      clear hz0 hS
      replace hP := hP.below hb1
      replace hat := hat.below hb1 hbr
      replace hN := hN.trans (hb1.mono hN.size)
      clear ho hb1
      try go_wp2_with fail
      refine hK.out _ _ (⟨smIn4 hP, acAtH hat⟩ : PLS n1 y b (off + k * 4) a w1) ?_
      try simp only [Act.put, List.setIfInBounds_toArray, List.set_cons_zero, List.set_cons_succ]
      clear hK
      refine anyG_step (rs := [6]) (by kernel_rfl) (by simp) ?_
      refine AllG.last (n := 6) rfl (fun K hK => ?_)
      refine El.step_store smRow rfl _ _ rfl n1 z #[.int .i64 z.x.s, .int .i64 z.x.t, .int .i64 z.x.p, .slice z.A z.x.es.length z.c] rfl rfl rfl y hP ?_
      refine hK.out _ _ ?_
      clear hK
      refine anyG_done (by kernel_rfl) ?_ _
      have hP2 := hP.set z #[.int .i64 z.x.s, .int .i64 z.x.t, .int .i64 z.x.p, .slice z.A z.x.es.length z.c] rfl
      have hzo2 : z.ok (w1.setRow n1 #[.int .i64 z.x.s, .int .i64 z.x.t, .int .i64 z.x.p, .slice z.A z.x.es.length z.c]) := SlV.keepN hzo (by_row _ n1 _) (sm_off hzo.1 hP)
      have hN2 := below_setRow hN hwn1 #[.int .i64 z.x.s, .int .i64 z.x.t, .int .i64 z.x.p, .slice z.A z.x.es.length z.c]
      clear hP hat hzo hN
      go_wp2_with fail
      exact ⟨⟨k + 1, z, by omega, by go_num, hz, hzo2, hP2, hN2⟩, by simp [intOf]; omega⟩
    · obtain rfl : k = l.length := by omega
      obtain ⟨hR, hNN, hWD⟩ := playS_more HF.out (Nat.le_refl _) hy.out
      have hl4 : y.x.es.length ≤ 4096 := by
        have hK := playS_K HF.out l.length (by rw [acts_len]; exact Nat.le_refl _)
        rw [← hy.out] at hK
        have := hK.lk
        omega
      have hBs := stmBytes_le hR hl4
      have HSELF := Lib.hid (stm_self hR hl4)
      have CPR := Lib.hid (fun (wx : World) (ho : y.ok wx) => H.print y wx hNN ho hWD)
      have CSM := Lib.hid (fun (A2 : Option Addr) (c2 : Nat) (wx : World) (hz : y.ok wx) (ht : Sw.ok ⟨A2, c2, y.x⟩ wx) => (show Calls Try.prog 16 #[.agg #[.int .i64 y.x.s, .int .i64 y.x.t, .int .i64 y.x.p, .slice y.A y.x.es.length y.c], .agg #[.int .i64 y.x.s, .int .i64 y.x.t, .int .i64 y.x.p, .slice A2 y.x.es.length c2]] wx fun r w' => r = .returned (.bool true) ∧ Below wx.heap.size wx w' from refSameSm_any y ⟨A2, c2, y.x⟩ wx rfl hz ht (by omega)))
      generalize stmBytes y.x = BY at *
      clear hR hNN hWD hy HF HL hkl hk h60 hl4
      obtain ⟨p0, p1, p2, p3⟩ := smIn4 hP
      go_wp2_with fail
      refine (CPR.out _ ho).mono ?_
      rintro r w2 ⟨rfl, hb2⟩
      clear p0 p1 p2 p3 CPR
      replace hP := hP.below hb2
      replace ho := ho.below hb2
      replace hN := below_then hN hb2
      clear hb2
      have hr := Rd.new w2 51 BY 0 rfl
      have hal := below_alloc (Below.refl w2.heap.size w2) (.cells #[.string BY, .int .i64 0, .bool false] 51)
      have hA1 := SlV.lt ho
      have hn1r : n1 < w2.heap.size := hP.lt
      have hwr : w.heap.size ≤ w2.heap.size := hN.size
      replace hP := hP.below hal
      replace ho := ho.below hal
      replace hN := below_then hN hal
      clear hal
      go_wp2_with fail
      generalize w2.alloc (.cells #[.string BY, .int .i64 0, .bool false] 51) = W2 at *
      obtain ⟨nr, hnr⟩ : ∃ n, w2.heap.size = n := ⟨_, rfl⟩
      rw [hnr] at hr hn1r hwr hA1 ⊢
      clear hnr
      refine (HRD W2 nr 0 BY false hBs (Nat.zero_le _) hr).mono ?_
      rintro r w3 ⟨u, q1, bad1, rfl, huo, hr1, _, hg, hst⟩
      replace hP := hP.keep hg (fun e => by have := Option.some.inj e; omega)
      replace ho := Sw.ok.grown (w0 := W2) hA1 ho hg
      replace hN := below_by hN hg hwr
      clear hr hg
      obtain ⟨rfl, rfl, hux⟩ : q1 = BY.size ∧ bad1 = false ∧ u.x = y.x := by
        rcases hst with ⟨h, rfl⟩ | ⟨h, _⟩
        · rw [HSELF.out] at h; have h := Option.some.inj h; exact ⟨(congrArg Prod.snd h).symm, rfl, (congrArg Prod.fst h).symm⟩
        · rw [HSELF.out] at h; cases h
      clear hst HSELF
      obtain ⟨A2, c2, x2⟩ := u
      dsimp only at hux
      subst hux
      have hn12 : n1 < w3.heap.size := hP.lt
      have hwn2 : w.heap.size ≤ w3.heap.size := hN.size
      have hnr2 : nr < w3.heap.size := hr1.lt
      have hU : smE.In (w3.alloc (.cells #[.int .i64 y.x.s, .int .i64 y.x.t, .int .i64 y.x.p, .slice A2 y.x.es.length c2] 27)) w3.heap.size ⟨A2, c2, y.x⟩ := El.In.new (E := smE) w3 ⟨A2, c2, y.x⟩ _ rfl
      have hal := below_alloc (Below.refl w3.heap.size w3) (.cells #[.int .i64 y.x.s, .int .i64 y.x.t, .int .i64 y.x.p, .slice A2 y.x.es.length c2] 27)
      replace hP := hP.below hal
      replace ho := ho.below hal
      replace huo := huo.below hal
      replace hr1 := hr1.below hal
      replace hN := below_then hN hal
      clear hal
      dsimp only
      have hsz : (w3.alloc (.cells #[.int .i64 y.x.s, .int .i64 y.x.t, .int .i64 y.x.p, .slice A2 y.x.es.length c2] 27)).heap.size = w3.heap.size + 1 := alloc_size _ _
      go_wp2_with fail
      generalize w3.alloc (.cells #[.int .i64 y.x.s, .int .i64 y.x.t, .int .i64 y.x.p, .slice A2 y.x.es.length c2] 27) = W3 at *
      obtain ⟨n2, hn2⟩ : ∃ n, w3.heap.size = n := ⟨_, rfl⟩
      rw [hn2] at hU hn12 hwn2 hnr2 hsz ⊢
      clear hn2
      have hq := Rd.new W3 51 s 0 rfl
      have hal := below_alloc (Below.refl W3.heap.size W3) (.cells #[.string s, .int .i64 0, .bool false] 51)
      have hA1 := SlV.lt ho
      have hA2 := SlV.lt huo
      dsimp only at hA2
      rw [hsz] at hq hA1 hA2
      clear hsz
      replace hP := hP.below hal
      replace hU := hU.below hal
      replace ho := ho.below hal
      replace huo := huo.below hal
      replace hr1 := hr1.below hal
      replace hN := below_then hN hal
      clear hal
      go_wp2_with fail
      generalize W3.alloc (.cells #[.string s, .int .i64 0, .bool false] 51) = W4 at *
      obtain ⟨nq, hnq⟩ : ∃ n, n2 + 1 = n := ⟨_, rfl⟩
      have hq1 : n1 < nq := by omega
      have hq2 : n2 < nq := by omega
      have hq3 : nr < nq := by omega
      have hq4 : w.heap.size ≤ nq := by omega
      rw [hnq] at hq hA1 hA2 ⊢
      clear hnq
      refine (HRD W4 nq 0 s false (by omega) (Nat.zero_le _) hq).mono ?_
      clear hq
      rintro r w5 ⟨v, q2, bad2, rfl, hvo, hq, hq2s, hg, hst⟩
      replace hP := hP.keep hg (fun e => by have := Option.some.inj e; omega)
      replace hU := hU.keep hg (fun e => by have := Option.some.inj e; omega)
      replace hr1 := hr1.keep hg (fun e => by have := Option.some.inj e; omega)
      replace ho := Sw.ok.grown (w0 := W4) hA1 ho hg
      replace huo := Sw.ok.grown (w0 := W4) hA2 huo hg
      replace hN := below_by hN hg hq4
      have hn5 : n2 < w5.heap.size := hU.lt
      have hn6 : nq < w5.heap.size := hq.lt
      clear hg hA1 hA2
      have hV : smE.In (w5.alloc (.cells #[.int .i64 v.x.s, .int .i64 v.x.t, .int .i64 v.x.p, .slice v.A v.x.es.length v.c] 27)) w5.heap.size v := El.In.new (E := smE) w5 v _ rfl
      have hal := below_alloc (Below.refl w5.heap.size w5) (.cells #[.int .i64 v.x.s, .int .i64 v.x.t, .int .i64 v.x.p, .slice v.A v.x.es.length v.c] 27)
      replace hP := hP.below hal
      replace hU := hU.below hal
      replace ho := ho.below hal
      replace huo := huo.below hal
      replace hvo := hvo.below hal
      replace hr1 := hr1.below hal
      replace hq := hq.below hal
      replace hN := below_then hN hal
      clear hal
      go_wp2_with fail
      generalize w5.alloc (.cells #[.int .i64 v.x.s, .int .i64 v.x.t, .int .i64 v.x.p, .slice v.A v.x.es.length v.c] 27) = W5 at *
      obtain ⟨n3, hn3⟩ : ∃ n, w5.heap.size = n := ⟨_, rfl⟩
      rw [hn3] at hV hn5 hn6 ⊢
      clear hn3 hn5 hn6 hq1 hq2 hq3 hq4 hn12 hwn2 hnr2 hn1r hwr hwn1
      have CAW := Lib.hid (fun (wx : World) => awake12_any H wx)
      have CDN := Lib.hid (fun (wx : World) (hr : Rd 51 wx nr BY BY.size false) => (by
        have h := done_any (Nat.le_refl _) hr
        rw [show isDone BY BY.size false = true by unfold isDone; simp] at h
        exact h.mono (by
          rintro r w' ⟨h1, m, rfl⟩
          exact ⟨h1, below_drew (Below.refl _ _) m⟩) : Calls Try.prog 24 #[.pointer (some ⟨nr, 0, none⟩)] wx fun r w' => r = .returned (.bool true) ∧ Below wx.heap.size wx w'))
      rcases hst with ⟨h, rfl⟩ | ⟨_, rfl⟩
      · have hex := stm_first hq2s h
        obtain ⟨hR, hl4, _⟩ := stm_bytes h
        have hNN := hR.n (Nat.le_trans hl4 (by decide))
        have hWD : ∀ e ∈ v.x.es, EnW e ∧ e.o.s.size ≤ 16 := fun e he => ⟨ent12_wide (hR.ok e he), ent12_tiny (hR.ok e he)⟩
        have CRT := Lib.hid (fun (wx : World) (ho : v.ok wx) => H.right v wx hNN hR ho (fun e he => ⟨(hWD e he).1, Nat.le_trans (hWD e he).2 (by decide)⟩))
        have CPV := Lib.hid (fun (wx : World) (ho : v.ok wx) => (by
          have h := H.print v wx hNN ho (fun e he => ⟨(hWD e he).1, Nat.le_trans (hWD e he).2 (by decide)⟩)
          rw [← hex] at h
          exact h : Calls Try.prog 21 #[.agg #[.int .i64 v.x.s, .int .i64 v.x.t, .int .i64 v.x.p, .slice v.A v.x.es.length v.c]] wx fun r w' => r = .returned (.string (s.extract 0 q2)) ∧ Below wx.heap.size wx w'))
        clear hR hl4 hNN hWD hex h
        have hq2i : (q2 : Int) ≤ (s.size : Int) := by omega
        replace hP : smE.In W5.drew n1 y := hP
        replace hU : smE.In W5.drew n2 ⟨A2, c2, y.x⟩ := hU
        replace hV : smE.In W5.drew n3 v := hV
        replace hr1 : Rd 51 W5.drew nr BY BY.size false := hr1
        replace hq : Rd 51 W5.drew nq s q2 false := hq
        replace ho : y.ok W5.drew := ho
        replace huo : Sw.ok ⟨A2, c2, y.x⟩ W5.drew := huo
        replace hvo : v.ok W5.drew := hvo
        replace hN := hN.drew
        go_region_held3 (fun w' => (w'.cell? ⟨n1, 0, none⟩ = some (.int .i64 y.x.s) ∧ w'.cell? ⟨n1, 1, none⟩ = some (.int .i64 y.x.t) ∧ w'.cell? ⟨n1, 2, none⟩ = some (.int .i64 y.x.p) ∧ w'.cell? ⟨n1, 3, none⟩ = some (.slice y.A y.x.es.length y.c)) ∧ (w'.cell? ⟨n2, 0, none⟩ = some (.int .i64 y.x.s) ∧ w'.cell? ⟨n2, 1, none⟩ = some (.int .i64 y.x.t) ∧ w'.cell? ⟨n2, 2, none⟩ = some (.int .i64 y.x.p) ∧ w'.cell? ⟨n2, 3, none⟩ = some (.slice A2 y.x.es.length c2)) ∧ (w'.cell? ⟨n3, 0, none⟩ = some (.int .i64 v.x.s) ∧ w'.cell? ⟨n3, 1, none⟩ = some (.int .i64 v.x.t) ∧ w'.cell? ⟨n3, 2, none⟩ = some (.int .i64 v.x.p) ∧ w'.cell? ⟨n3, 3, none⟩ = some (.slice v.A v.x.es.length v.c)) ∧ (w'.cell? ⟨nq, 0, none⟩ = some (.string s) ∧ w'.cell? ⟨nq, 1, none⟩ = some (.int .i64 (q2 : Int)) ∧ w'.cell? ⟨nq, 2, none⟩ = some (.bool false))) (with_reducible exact ⟨smIn4 hP, smIn4' hU, smIn4 hV, hq.cells⟩) (first | (go_at_call 8; (with_reducible refine (CAW.out _).mono ?_); rintro r w6 ⟨rfl, hb6⟩; have hP := hP.below hb6; have hU := hU.below hb6; have hV := hV.below hb6; have hr1 := hr1.below hb6; have hq := hq.below hb6; have ho := ho.below hb6; have huo := huo.below hb6; have hvo := hvo.below hb6; have hN := below_then hN hb6) | (go_at_call 24; (with_reducible refine (CDN.out _ hr1).mono ?_); rintro r w6 ⟨rfl, hb6⟩; have hP := hP.below hb6; have hU := hU.below hb6; have hV := hV.below hb6; have hr1 := hr1.below hb6; have hq := hq.below hb6; have ho := ho.below hb6; have huo := huo.below hb6; have hvo := hvo.below hb6; have hN := below_then hN hb6) | (go_at_call 16; (with_reducible refine (CSM.out _ _ _ ho huo).mono ?_); rintro r w6 ⟨rfl, hb6⟩; have hP := hP.below hb6; have hU := hU.below hb6; have hV := hV.below hb6; have hr1 := hr1.below hb6; have hq := hq.below hb6; have ho := ho.below hb6; have huo := huo.below hb6; have hvo := hvo.below hb6; have hN := below_then hN hb6) | (go_at_call 20; (with_reducible refine (CRT.out _ hvo).mono ?_); rintro r w6 ⟨rfl, hb6⟩; have hP := hP.below hb6; have hU := hU.below hb6; have hV := hV.below hb6; have hr1 := hr1.below hb6; have hq := hq.below hb6; have ho := ho.below hb6; have huo := huo.below hb6; have hvo := hvo.below hb6; have hN := below_then hN hb6) | (go_at_call 21; (with_reducible refine (CPV.out _ hvo).mono ?_); rintro r w6 ⟨rfl, hb6⟩; have hP := hP.below hb6; have hU := hU.below hb6; have hV := hV.below hb6; have hr1 := hr1.below hb6; have hq := hq.below hb6; have ho := ho.below hb6; have huo := huo.below hb6; have hvo := hvo.below hb6; have hN := below_then hN hb6))
        go_wp2_with fail
        go_ret
        exact ⟨rfl, hN⟩
      · obtain ⟨p0, p1, p2, p3⟩ := smIn4 hP
        obtain ⟨u0, u1, u2, u3⟩ := smIn4' hU
        obtain ⟨_, _, q2⟩ := hq.cells
        have k0 := cell_regrown p0
        have k1 := cell_regrown p1
        have k2 := cell_regrown p2
        have k3 := cell_regrown p3
        have l0 := cell_regrown u0
        have l1 := cell_regrown u1
        have l2 := cell_regrown u2
        have l3 := cell_regrown u3
        have m0 := cell_regrown q2
        have d1 : ∀ c os, Calls Try.prog 8 #[] (Sort.grow (redrawn W5 c) os) fun e w'' => e = .returned (.bool true) ∧ ∃ p : Regrown, w'' = Sort.grow (redrawn W5 p.d) p.os := fun c os => Calls.regrown_of (CAW.out _)
        have d2 : ∀ c os, Calls Try.prog 24 #[.pointer (some ⟨nr, 0, none⟩)] (Sort.grow (redrawn W5 c) os) fun e w'' => e = .returned (.bool true) ∧ ∃ p : Regrown, w'' = Sort.grow (redrawn W5 p.d) p.os := fun c os => Calls.regrown_of (CDN.out _ (hr1.below (below_regrown W5 c os)))
        have d3 : ∀ c os, Calls Try.prog 16 #[.agg #[.int .i64 y.x.s, .int .i64 y.x.t, .int .i64 y.x.p, .slice y.A y.x.es.length y.c], .agg #[.int .i64 y.x.s, .int .i64 y.x.t, .int .i64 y.x.p, .slice A2 y.x.es.length c2]] (Sort.grow (redrawn W5 c) os) fun e w'' => e = .returned (.bool true) ∧ ∃ p : Regrown, w'' = Sort.grow (redrawn W5 p.d) p.os := fun c os => Calls.regrown_of (CSM.out _ _ _ (ho.below (below_regrown W5 c os)) (huo.below (below_regrown W5 c os)))
        clear p0 p1 p2 p3 u0 u1 u2 u3 q2 hP hU hV
        refine wp_region_quiet_below (by kernel_rfl) (by kernel_rfl) ?_
        repeat (go_big_quiet_step ((with_reducible (first | exact d1 _ _ | exact d2 _ _ | exact d3 _ _))))
        refine wpQuiet_nil ?_
        intro _ hw'
        obtain ⟨⟨dq, osq⟩, hw''⟩ := hw'
        subst hw''
        go_wp2
        go_ret
        exact ⟨rfl, below_then hN (below_regrown W5 dq osq)⟩
set_option maxRecDepth 100000 in
theorem back12_lifted (H0 : StreamBoth) (os : Os) (started : os.Started) (H : Type) (enc : TypeId × Value → H) :
    ReturnsInHanded {} Try.checked os 4 .any (Rows.streamBackSpec.pre6 enc Try.prog Try.f4 Rows.streamBackRow.domain false) (Rows.streamBackSpec.post enc Try.prog Try.f4 false true false false) := by
  refine returnsInHanded_of_change (C := Try.checked) own started (by kernel_rfl) Try.func4
    (ChangeSpec.witness6 (enc := enc) (C := Try.checked) false ⟨#[], #[.slice none 0 0, .string ⟨#[]⟩], []⟩ 8 (by kernel_rfl) (by kernel_rfl) (by kernel_rfl) (by kernel_rfl)) ?_
  intro W base args ds gs before hval0 hW _ _
  have hval : ∀ (j : Nat) t v, Try.f4.params[j]? = some t → args[j]? = some v → Value.okWide Try.prog W .any base t v := hval0
  have hW' := hW
  obtain ⟨p, q, hA0, hV, rfl, _, _⟩ := hW
  have hA : DataW.TrodAll enc Try.prog W 0 (fun _ => true) true Try.f4.params.toList args.toList ds p := hA0
  rw [Try.params4] at hA hval
  obtain ⟨v0, v1, d0, d1, p0, p1, rfl, rfl, rfl, h0, h1⟩ := trodAll_two hA
  obtain ⟨A, c, l, rfl, hL⟩ := open_acs (hval 0 22 v0 rfl rfl) h0
  obtain ⟨s, rfl, _⟩ := open_str (hval 1 9 v1 rfl rfl) h1
  have hc : Calls Try.prog 4 #[.slice A l.length c, .string s] W fun e w' => e = .returned (.bool true) ∧ Below W.heap.size W w' := by
    by_cases h : fineL (acts l) ∧ s.size ≤ 2000
    · exact back12_yes H0 A c l s W hL h.1 h.2
    · exact back12_no H0 A c l s W hL h
  refine hc.mono fun e W' ⟨he, hb⟩ => ?_
  subst he
  exact ⟨_, rfl, Frm.law_post (by kernel_rfl) (by kernel_rfl) (by kernel_rfl) Try.underlying4 rfl rfl hW' hb⟩

theorem back12_holds (H0 : StreamBoth) : Rows.StreamBackSaid :=
  OpenClaim.holds_of_wide 4 Try.f4 rfl rfl rfl rfl rfl rfl rfl ⟨rfl, rfl, rfl, rfl, rfl⟩ rfl rfl rfl rfl rfl (by kernel_rfl) Try.func4 (by kernel_rfl)
    (of_decide_eq_true (by kernel_rfl)) (by unfold Func.isWrapper; first | (rw [if_pos (by decide +kernel)]; kernel_rfl) | (rw [if_neg (by decide +kernel)]; exact ⟨rfl, rfl⟩))
    (fun os started H enc _ => back12_lifted H0 os started H enc)
end Go.Proofs.Ytbfebcifmneliaa

/- The program's streams: window, rightCount, rightEntries; Clone, Concat of entries; pushed. -/
namespace Go.Proofs.Ytbfebcifmneliaa
open Go.RowKit Nam Cod

set_option maxRecDepth 100000 in
theorem cloneEn_any (A : Option Addr) (c : Nat) (l : List En) (w : World) (hl : l.length ≤ 50000) (hT : SlV enE w A c l) :
    Calls Try.prog 30 #[.slice A l.length c] w fun e w' => ∃ A' c', e = .returned (.slice A' l.length c') ∧ SlV enE w' A' c' l ∧ Frs w.heap.size A' ∧ Below w.heap.size w w' := by
  obtain ⟨hT, hz, hlc⟩ := hT
  have q : ∀ (w : World) (a : Option Addr) (n c n' c' : Nat), (binOp .eql 25 (.slice a n c) (.slice none n' c')).run Try.prog w = .ok (.bool a.isNone) w := fun w a n c n' c' => Lib.run_eql_slice_nil w _ _ a n c n' c' Try.underlying25
  cases A with
  | none =>
    obtain rfl := hT.none_nil
    obtain rfl := hz rfl
    go_enter Try.func30, Try.ntmps30
    go_wp2
    go_ret
    exact ⟨none, 0, rfl, SlV.nil _ _, frs_nil _, Below.refl _ _⟩
  | some a =>
    go_enter Try.func30, Try.ntmps30
    have hE := El.Own.empty (E := enE) w w.heap.size (Nat.le_refl _)
    have hb0 := below_alloc (Below.refl w.heap.size w) (.cells #[] 37)
    go_wp2_with (at_builtin; refine El.wpList_app enInn rfl _ _ rfl w.heap.size _ [] l rfl hE (some a) _ c rfl rfl (hT.below hb0) (fun e => by cases e) (by simp; omega) (by simp) ?_; intro v' w2 hown hg _)
    obtain ⟨A', c', rfl, hS⟩ := SlV.own hown
    go_wp2
    go_ret
    exact ⟨A', c', rfl, hS, hown.frs, below_own hb0 hg (hE.rows)⟩

theorem infoEn : (Try.prog.info? 37).map (fun i => (i.zero, i.size, i.bytes)) = some (some (.agg #[.int .i64 0, .int .i64 0, .int .i64 0, .int .i64 0, .int .i64 0, .int .i64 0, .int .i64 0, .int .i64 0, .int .i64 0, .string ⟨#[]⟩]), 10, 88) := by kernel_rfl
set_option maxRecDepth 100000 in
theorem growEn_any (B n : Nat) (w : World) (hn : n ≤ 60000) (hB : B ≤ w.heap.size) :
    Calls Try.prog 60 #[.slice none 0 0, .int .i64 n] w fun e w' => ∃ v, e = .returned v ∧ enE.Own w' B v [] ∧ Below w.heap.size w w' := by
  by_cases h0 : n = 0
  · subst h0
    go_enter Try.func60, Try.ntmps60
    go_wp2
    go_ret
    exact ⟨_, rfl, El.Own.nil _ B, Below.refl _ _⟩
  · obtain ⟨i, hi, hz, hz1, hz2⟩ := info_parts infoEn
    have hr := fun ty => Lib.run_append_nil_zeros (P := Try.prog) w 25 3 ty 37 i _ .i64 .i64 Try.underlying25 Try.underlying3 hi hz n (by omega) (by omega) (by omega) (by rw [hz2]; omega)
    have hg1 : n ≤ grownCap w n 0 37 := grownCap_ge w n 0 _
    have hg2 : grownCap w n 0 37 ≤ maxLen := grownCap_le_maxLen w n 0 37 (by unfold maxLen; omega)
    have hown : enE.Own (w.drew.alloc (.cells (Builtin.zeroCells (Value.agg #[.int .i64 0, .int .i64 0, .int .i64 0, .int .i64 0, .int .i64 0, .int .i64 0, .int .i64 0, .int .i64 0, .int .i64 0, .string ⟨#[]⟩]).cells n ++ Builtin.zeroCells (Value.agg #[.int .i64 0, .int .i64 0, .int .i64 0, .int .i64 0, .int .i64 0, .int .i64 0, .int .i64 0, .int .i64 0, .int .i64 0, .string ⟨#[]⟩]).cells (grownCap w n 0 37 - n)) 37)) B (.slice (some ⟨w.heap.size, 0, none⟩) 0 (grownCap w n 0 37)) [] := by
      refine World.ownsRow_made w.drew _ (grownCap w n 0 37) hB hg2 ?_
      rw [Array.size_append, size_zeroCells, size_zeroCells]
      show n * 10 + (grownCap w n 0 37 - n) * 10 = _ * 10
      omega
    have hnx : Below w.heap.size w (w.drew.alloc (.cells (Builtin.zeroCells (Value.agg #[.int .i64 0, .int .i64 0, .int .i64 0, .int .i64 0, .int .i64 0, .int .i64 0, .int .i64 0, .int .i64 0, .int .i64 0, .string ⟨#[]⟩]).cells n ++ Builtin.zeroCells (Value.agg #[.int .i64 0, .int .i64 0, .int .i64 0, .int .i64 0, .int .i64 0, .int .i64 0, .int .i64 0, .int .i64 0, .int .i64 0, .string ⟨#[]⟩]).cells (grownCap w n 0 37 - n)) 37)) := below_alloc (Below.refl _ w).drew _
    generalize grownCap w n 0 37 = cap at *
    generalize w.drew.alloc (.cells (Builtin.zeroCells (Value.agg #[.int .i64 0, .int .i64 0, .int .i64 0, .int .i64 0, .int .i64 0, .int .i64 0, .int .i64 0, .int .i64 0, .int .i64 0, .string ⟨#[]⟩]).cells n ++ Builtin.zeroCells (Value.agg #[.int .i64 0, .int .i64 0, .int .i64 0, .int .i64 0, .int .i64 0, .int .i64 0, .int .i64 0, .int .i64 0, .int .i64 0, .string ⟨#[]⟩]).cells (cap - n)) 37) = W at *
    go_enter Try.func60, Try.ntmps60
    go_wp2_with (at_builtin; refine Lib.wpList_append_run _ rfl _ _ 25 3 rfl _ _ rfl rfl _ _ (hr _) ?_)
    go_wp2
    go_ret
    exact ⟨_, rfl, hown, hnx⟩

set_option maxRecDepth 100000 in
theorem concatEn_any (sb : Nat) (F : Nat → List En) (A : Nat → Option Addr) (C : Nat → Nat) (w : World) (hcell : ∀ j, j < 2 → w.cell? ⟨sb, j, none⟩ = some (.slice (A j) (F j).length (C j)))
    (hT : ∀ j, j < 2 → enE.Sl w (A j) (F j)) (hc : ∀ j, j < 2 → A j = none → C j = 0) (hl : (catE F 2).length ≤ 60000) (hsb : sb < w.heap.size) :
    Calls Try.prog 50 #[.slice (some ⟨sb, 0, none⟩) 2 2] w fun e w' => ∃ A' cap', e = .returned (.slice A' (catE F 2).length cap') ∧ SlV enE w' A' cap' (catE F 2) ∧ Frs w.heap.size A' ∧ Below w.heap.size w w' := by
  have CG := fun n hn => growEn_any w.heap.size n w hn (Nat.le_refl _)
  have hle := fun k h => catE_le F k 2 h
  have HCL := Lib.hid hcell
  have HTT := Lib.hid hT
  have HCC := Lib.hid hc
  clear hcell hT hc
  go_enter Try.func50, Try.ntmps50
  go_wp2
  go_loop [3, 11] (fun x y => ∃ k : Nat, k ≤ 2 ∧ y = .int .i64 k ∧ x = .int .i64 (catE F k).length) (fun _ y => 2 - (intOf y).toNat)
  case atStart => exact ⟨0, Nat.zero_le _, rfl, rfl⟩
  case round =>
    obtain ⟨k, hk, rfl, rfl⟩ := hrel
    by_cases hlt : k < 2
    · have h1 := HCL.out k hlt
      have h2 := hle (k + 1) hlt
      have h3 : (catE F (k + 1)).length = (catE F k).length + (F k).length := by rw [catE, List.length_append]
      have H3 := Lib.hid h3
      have h4 : (catE F k).length + (F k).length ≤ 60000 := by omega
      generalize (catE F k).length = n at *
      generalize (F k).length = m at *
      clear h3
      go_wp2
      go_round
      case rel => exact ⟨k + 1, by omega, by go_num, by rw [H3.out]; go_num⟩
      case measure => simp [intOf]; omega
    · obtain rfl : k = 2 := by omega
      have CG := CG _ hl
      go_wp2_with fail
      refine CG.mono ?_
      rintro e w1 ⟨v, rfl, hown, hb1⟩
      clear CG
      go_wp2
      go_loopw [6, 27] (fun x y wr => ∃ (k : Nat) (v : Value), k ≤ 2 ∧ y = .int .i64 k ∧ x = v ∧ enE.Own wr w.heap.size v (catE F k) ∧ Below w.heap.size w wr) (fun _ y _ => 2 - (intOf y).toNat)
      case atStart => exact ⟨0, v, Nat.zero_le _, rfl, rfl, hown, hb1⟩
      case round =>
        clear hown hb1
        obtain ⟨k, v, hk, rfl, rfl, hown, hnx⟩ := hrel
        by_cases hlt : k < 2
        · have h1 := HCL.out k hlt
          rw [← (bcell hnx).1 _ _ hsb] at h1
          have h2 := hle (k + 1) hlt
          have h3 : (catE F (k + 1)).length = (catE F k).length + (F k).length := by rw [catE, List.length_append]
          have hTk := (HTT.out k hlt).below hnx
          have hck := HCC.out k hlt
          have hB := hnx.size
          go_wp2_with (at_builtin; refine El.wpList_app enInn rfl _ _ rfl w.heap.size _ (catE F k) (F k) rfl hown (A k) _ (C k) rfl rfl hTk hck (by omega) hB ?_; intro v' w2 hown2 hg2 _)
          go_roundw
          case rel => exact ⟨k + 1, v', by omega, by go_num, rfl, hown2, hnx.grown hg2 hB (fun j hj => (hown).rows j hj)⟩
          case measure => simp [intOf]; omega
        · obtain rfl : k = 2 := by omega
          obtain ⟨A', cap', rfl, hS⟩ := SlV.own hown
          go_wp2
          go_ret
          exact ⟨A', cap', rfl, hS, hown.frs, hnx⟩
def pickT {α : Type} (a b : α) : Nat → α
  | 0 => a
  | _ => b

def winL (l : List En) (i : Int) : List En := if i < 0 ∨ (l.length : Int) < i then [] else l.drop i.toNat
theorem winL_le (l : List En) (i : Int) : (winL l i).length ≤ l.length := by
  unfold winL
  split
  · exact Nat.zero_le _
  · rw [List.length_drop]; omega

set_option maxRecDepth 100000 in
set_option maxHeartbeats 2000000 in
theorem window_any (A : Option Addr) (cap : Nat) (l : List En) (i : Int) (w : World) (hT : SlV enE w A cap l) :
    Calls Try.prog 29 #[.slice A l.length cap, .int .i64 i] w fun r w' => ∃ A' c', r = .returned (.slice A' (winL l i).length c') ∧ SlV enE w A' c' (winL l i) ∧ w' = w := by
  obtain ⟨hT, hz, hlc⟩ := hT
  rcases Int.lt_or_le i 0 with h0 | h0
  · have HV := Lib.hid (show winL l i = [] by unfold winL; rw [if_pos (Or.inl h0)])
    clear hT hz hlc
    go_enter Try.func29, Try.ntmps29
    go_wp2_with fail
    go_ret
    exact ⟨none, 0, by rw [HV.out]; rfl, by rw [HV.out]; exact SlV.nil enE _, rfl⟩
  · rcases Int.lt_or_le l.length i with h1 | h1
    · have HV := Lib.hid (show winL l i = [] by unfold winL; rw [if_pos (Or.inr h1)])
      have f1 : decide (i < 0) = false := decide_eq_false (by omega)
      clear hT hz hlc
      go_enter Try.func29, Try.ntmps29
      go_wp2_with fail
      go_ret
      exact ⟨none, 0, by rw [HV.out]; rfl, by rw [HV.out]; exact SlV.nil enE _, rfl⟩
    · obtain ⟨k, rfl⟩ : ∃ k : Nat, i = k := ⟨i.toNat, by omega⟩
      have HV := Lib.hid (show winL l k = l.drop k by unfold winL; rw [if_neg (by omega)]; rfl)
      have HL := Lib.hid (show (l.drop k).length = l.length - k from List.length_drop)
      obtain ⟨A3, hA3⟩ : ∃ A3, (if cap = k then A else Option.map (fun x => x.add (k * 10)) A) = A3 := ⟨_, rfl⟩
      have hT3 := hT.drop hlc hA3
      have hz3 := El.drop_none hz hA3
      have f1 : decide ((k : Int) < 0) = false := decide_eq_false (by omega)
      have f2 : decide ((l.length : Int) < (k : Int)) = false := decide_eq_false (by omega)
      have f3 : decide (l.length < k) = false := decide_eq_false (by omega)
      have g1 : (k : Int) ≤ (cap : Int) := by omega
      have g2 : (k : Int) ≤ (l.length : Int) := by omega
      have HC := Lib.hid (show l.length - k ≤ cap - k by omega)
      clear hT hz
      go_enter Try.func29, Try.ntmps29
      go_wp2_with fail
      go_ret
      exact ⟨A3, cap - k, by rw [HV.out, HL.out]; rfl, by rw [HV.out]; exact ⟨hT3, hz3, by rw [HL.out]; exact HC.out⟩, rfl⟩

set_option maxRecDepth 100000 in
theorem rightCount_yes (n : Int) (w : World) (h : 0 ≤ n ∧ n ≤ 1099511627776) : Calls Try.prog 31 #[.int .i64 n] w fun r w' => r = .returned (.bool true) ∧ w' = w := by
  have f1 : decide (0 ≤ n) = true := decide_eq_true h.1
  have f2 : decide (n ≤ 1099511627776) = true := decide_eq_true h.2
  go_enter Try.func31, Try.ntmps31
  go_wp2_with fail
  go_ret
  exact ⟨rfl, rfl⟩

set_option maxRecDepth 100000 in
set_option maxHeartbeats 2000000 in
theorem rightEntries_yes (A : Option Addr) (cap : Nat) (l : List En) (w : World) (hT : enE.Sl w A l) (hl : l.length ≤ 100000) (hr : ∀ e ∈ l, entB e = true) (hw : ∀ e ∈ l, e.o.s.size ≤ 1000000) :
    Calls Try.prog 32 #[.slice A l.length cap] w fun r w' => r = .returned (.bool true) ∧ Below w.heap.size w w' := by
  have HR := Lib.hid hr
  have HW := Lib.hid hw
  have hB := Below.refl w.heap.size w
  clear hr hw
  go_enter Try.func32, Try.ntmps32
  go_wp2_with fail
  go_loopw [7] (fun y wr => ∃ k : Nat, k ≤ l.length ∧ y = .int .i64 k ∧ Below w.heap.size w wr) (fun y _ => l.length - (intOf y).toNat)
  case atStart => exact ⟨0, Nat.zero_le _, rfl, hB⟩
  case round =>
    clear hB
    obtain ⟨k, hk, rfl, hB⟩ := hrel
    by_cases hkl : k < l.length
    · obtain ⟨b, off, eA, hbw, hc⟩ := hT (by omega)
      have hx := enIdxH (cap := cap) eA hkl
      have hat : enE.At wr b (off + k * 10) l[k] := (hc k hkl).below hB hbw
      have hxr := HR.out l[k] (List.getElem_mem _)
      have hxw := HW.out l[k] (List.getElem_mem _)
      generalize l[k] = x at *
      have C := Lib.hid (fun wx => (by
        have h := entRight_any x wx (by omega)
        rw [hxr] at h
        exact h : Calls Try.prog 43 #[.agg #[.int .i64 x.k, .int .i64 x.d, .int .i64 x.i, .int .i64 x.o.C, .int .i64 x.o.D, .int .i64 x.o.I, .int .i64 x.o.M, .int .i64 x.o.K, .int .i64 x.o.U, .string x.o.s]] wx fun r w' => r = .returned (.bool true) ∧ Below wx.heap.size wx w'))
      clear hxr hxw
      have hal := below_alloc (Below.refl wr.heap.size wr) (.cells #[.int .i64 x.k, .int .i64 x.d, .int .i64 x.i, .int .i64 x.o.C, .int .i64 x.o.D, .int .i64 x.o.I, .int .i64 x.o.M, .int .i64 x.o.K, .int .i64 x.o.U, .string x.o.s] 37)
      have hE : enE.In (wr.alloc (.cells #[.int .i64 x.k, .int .i64 x.d, .int .i64 x.i, .int .i64 x.o.C, .int .i64 x.o.D, .int .i64 x.o.I, .int .i64 x.o.M, .int .i64 x.o.K, .int .i64 x.o.U, .string x.o.s] 37)) wr.heap.size x := El.In.new (E := enE) wr x _ rfl
      replace hB := hB.trans (hal.mono hB.size)
      clear hc eA hal
      go_wp2_with (first | (refine El.load enRow rfl _ rfl b (off + k * 10) rfl x hat #[.int .i64 x.k, .int .i64 x.d, .int .i64 x.i, .int .i64 x.o.C, .int .i64 x.o.D, .int .i64 x.o.I, .int .i64 x.o.M, .int .i64 x.o.K, .int .i64 x.o.U, .string x.o.s] rfl ?_) | (refine El.load enRow rfl _ rfl wr.heap.size 0 rfl x hE.at #[.int .i64 x.k, .int .i64 x.d, .int .i64 x.i, .int .i64 x.o.C, .int .i64 x.o.D, .int .i64 x.o.I, .int .i64 x.o.M, .int .i64 x.o.K, .int .i64 x.o.U, .string x.o.s] rfl ?_) | fail)
      refine (C.out _).mono ?_
      rintro r w2 ⟨rfl, hb2⟩
      replace hB := below_then hB hb2
      clear hb2 C hE hat
      go_wp2_with fail
      exact ⟨⟨k + 1, by omega, by go_num, hB⟩, by simp [intOf]; omega⟩
    · obtain rfl : k = l.length := by omega
      go_wp2_with fail
      go_ret
      exact ⟨rfl, hB⟩
end Go.Proofs.Ytbfebcifmneliaa

/- The program's streams: pushed, Push, Take. -/
namespace Go.Proofs.Ytbfebcifmneliaa
open Go.RowKit Nam Cod

def SmS (n1 : Nat) (y : Sw) (w : World) : Prop := w.cell? ⟨n1, 0, none⟩ = some (.int .i64 y.x.s) ∧ w.cell? ⟨n1, 1, none⟩ = some (.int .i64 y.x.t) ∧ w.cell? ⟨n1, 2, none⟩ = some (.int .i64 y.x.p) ∧ w.cell? ⟨n1, 3, none⟩ = some (.slice y.A y.x.es.length y.c)
set_option maxRecDepth 100000 in
set_option maxHeartbeats 4000000 in
theorem pushed_any (y : Sw) (A : Option Addr) (c : Nat) (l : List En) (w : World) (hp : -4611686018427387904 ≤ y.x.p ∧ y.x.p ≤ 4611686018427387904) (hlen : y.x.es.length + l.length ≤ 60000) (hok : y.ok w) (hT : SlV enE w A c l) :
    Calls Try.prog 41 #[.agg #[.int .i64 y.x.s, .int .i64 y.x.t, .int .i64 y.x.p, .slice y.A y.x.es.length y.c], .slice A l.length c] w fun r w' => ∃ z : Sw, r = .returned (.agg #[.int .i64 z.x.s, .int .i64 z.x.t, .int .i64 z.x.p, .slice z.A z.x.es.length z.c]) ∧ z.x = ⟨y.x.s, y.x.t, y.x.p + l.length, y.x.es ++ l⟩ ∧ z.ok w' ∧ Below w.heap.size w w' := by
  have hP : smE.In ((w.alloc (.cells #[.int .i64 y.x.s, .int .i64 y.x.t, .int .i64 y.x.p, .slice y.A y.x.es.length y.c] 27)).alloc (.cells #[.int .i64 0, .int .i64 0, .int .i64 0, .slice none 0 0] 27)) w.heap.size y := (El.In.new (E := smE) w y _ rfl).alloc _
  have hZ := two_boxes w #[.int .i64 y.x.s, .int .i64 y.x.t, .int .i64 y.x.p, .slice y.A y.x.es.length y.c] #[.int .i64 0, .int .i64 0, .int .i64 0, .slice none 0 0] zeroSw rfl
  have hB := below_alloc (below_alloc (Below.refl w.heap.size w) (.cells #[.int .i64 y.x.s, .int .i64 y.x.t, .int .i64 y.x.p, .slice y.A y.x.es.length y.c] 27)) (.cells #[.int .i64 0, .int .i64 0, .int .i64 0, .slice none 0 0] 27)
  replace hok := hok.below hB
  replace hT := hT.below hB
  have hw : IntKind.i64.wrap (y.x.p + (l.length : Int)) = y.x.p + (l.length : Int) := by rw [IntKind.wrap_i64]; omega
  go_enter Try.func41, Try.ntmps41
  go_wp2_with fail
  generalize (w.alloc (.cells #[.int .i64 y.x.s, .int .i64 y.x.t, .int .i64 y.x.p, .slice y.A y.x.es.length y.c] 27)).alloc (.cells #[.int .i64 0, .int .i64 0, .int .i64 0, .slice none 0 0] 27) = V at *
  obtain ⟨n3, h3⟩ : ∃ n, w.heap.size + 1 = n := ⟨_, rfl⟩
  obtain ⟨n1, h1⟩ : ∃ n, w.heap.size = n := ⟨_, rfl⟩
  rw [h3] at hZ ⊢
  rw [h1] at hP ⊢
  have hwn1 : w.heap.size ≤ n1 := by omega
  have hwn3 : w.heap.size ≤ n3 := by omega
  have hn13 : n1 < n3 := by omega
  clear h1 h3
  refine region_anyG (S := SmS n1 y) 15 (by kernel_rfl) ?_
  replace hP : smE.In V.drew n1 y := hP
  replace hZ : smE.In V.drew n3 zeroSw := hZ
  replace hok : y.ok V.drew := hok
  replace hT : SlV enE V.drew A c l := hT
  replace hB := hB.drew
  generalize V.drew = U at *
  have hS : SmS n1 y U := smIn4 hP
  refine anyG_take (i := 0) (v := .pointer (some ⟨n1, 0, none⟩)) rfl (by kernel_rfl) (by kernel_rfl) (by kernel_rfl) (by kernel_rfl) (by kernel_rfl) (fun _ _ _ h => h) (Or.inl ⟨by rfl, fun w' hSw => by (obtain ⟨s0, s1, s2, s3⟩ := hSw; go_simp)⟩) hS ?_
  try simp only [Act.put, List.setIfInBounds_toArray, List.set_cons_zero, List.set_cons_succ]
  refine anyG_take (i := 1) (v := .int .i64 y.x.s) rfl (by kernel_rfl) (by kernel_rfl) (by kernel_rfl) (by kernel_rfl) (by kernel_rfl) (fun _ _ _ h => h) (Or.inl ⟨by rfl, fun w' hSw => by (obtain ⟨s0, s1, s2, s3⟩ := hSw; go_simp)⟩) hS ?_
  try simp only [Act.put, List.setIfInBounds_toArray, List.set_cons_zero, List.set_cons_succ]
  refine anyG_take (i := 2) (v := .pointer (some ⟨n1, 1, none⟩)) rfl (by kernel_rfl) (by kernel_rfl) (by kernel_rfl) (by kernel_rfl) (by kernel_rfl) (fun _ _ _ h => h) (Or.inl ⟨by rfl, fun w' hSw => by (obtain ⟨s0, s1, s2, s3⟩ := hSw; go_simp)⟩) hS ?_
  try simp only [Act.put, List.setIfInBounds_toArray, List.set_cons_zero, List.set_cons_succ]
  refine anyG_take (i := 3) (v := .int .i64 y.x.t) rfl (by kernel_rfl) (by kernel_rfl) (by kernel_rfl) (by kernel_rfl) (by kernel_rfl) (fun _ _ _ h => h) (Or.inl ⟨by rfl, fun w' hSw => by (obtain ⟨s0, s1, s2, s3⟩ := hSw; go_simp)⟩) hS ?_
  try simp only [Act.put, List.setIfInBounds_toArray, List.set_cons_zero, List.set_cons_succ]
  refine anyG_take (i := 4) (v := .pointer (some ⟨n1, 2, none⟩)) rfl (by kernel_rfl) (by kernel_rfl) (by kernel_rfl) (by kernel_rfl) (by kernel_rfl) (fun _ _ _ h => h) (Or.inl ⟨by rfl, fun w' hSw => by (obtain ⟨s0, s1, s2, s3⟩ := hSw; go_simp)⟩) hS ?_
  try simp only [Act.put, List.setIfInBounds_toArray, List.set_cons_zero, List.set_cons_succ]
  refine anyG_take (i := 5) (v := .int .i64 y.x.p) rfl (by kernel_rfl) (by kernel_rfl) (by kernel_rfl) (by kernel_rfl) (by kernel_rfl) (fun _ _ _ h => h) (Or.inl ⟨by rfl, fun w' hSw => by (obtain ⟨s0, s1, s2, s3⟩ := hSw; go_simp)⟩) hS ?_
  try simp only [Act.put, List.setIfInBounds_toArray, List.set_cons_zero, List.set_cons_succ]
  refine anyG_take (i := 6) (v := .slice A l.length c) rfl (by kernel_rfl) (by kernel_rfl) (by kernel_rfl) (by kernel_rfl) (by kernel_rfl) (fun _ _ _ h => h) (Or.inl ⟨by rfl, fun w' hSw => by (obtain ⟨s0, s1, s2, s3⟩ := hSw; go_simp)⟩) hS ?_
  try simp only [Act.put, List.setIfInBounds_toArray, List.set_cons_zero, List.set_cons_succ]
  refine anyG_take (i := 7) (v := .int .i64 l.length) rfl (by kernel_rfl) (by kernel_rfl) (by kernel_rfl) (by kernel_rfl) (by kernel_rfl) (fun _ _ _ h => h) (Or.inl ⟨by rfl, fun w' hSw => by (obtain ⟨s0, s1, s2, s3⟩ := hSw; go_simp)⟩) hS ?_
  try simp only [Act.put, List.setIfInBounds_toArray, List.set_cons_zero, List.set_cons_succ]
  refine anyG_take (i := 8) (v := .int .i64 (y.x.p + (l.length : Int))) rfl (by kernel_rfl) (by kernel_rfl) (by kernel_rfl) (by kernel_rfl) (by kernel_rfl) (fun _ _ _ h => h) (Or.inl ⟨by rfl, fun w' hSw => by (obtain ⟨s0, s1, s2, s3⟩ := hSw; go_simp)⟩) hS ?_
  try simp only [Act.put, List.setIfInBounds_toArray, List.set_cons_zero, List.set_cons_succ]
  refine anyG_take (i := 9) (v := .pointer (some ⟨n1, 3, none⟩)) rfl (by kernel_rfl) (by kernel_rfl) (by kernel_rfl) (by kernel_rfl) (by kernel_rfl) (fun _ _ _ h => h) (Or.inl ⟨by rfl, fun w' hSw => by (obtain ⟨s0, s1, s2, s3⟩ := hSw; go_simp)⟩) hS ?_
  try simp only [Act.put, List.setIfInBounds_toArray, List.set_cons_zero, List.set_cons_succ]
  refine anyG_take (i := 10) (v := .slice y.A y.x.es.length y.c) rfl (by kernel_rfl) (by kernel_rfl) (by kernel_rfl) (by kernel_rfl) (by kernel_rfl) (fun _ _ _ h => h) (Or.inl ⟨by rfl, fun w' hSw => by (obtain ⟨s0, s1, s2, s3⟩ := hSw; go_simp)⟩) hS ?_
  try simp only [Act.put, List.setIfInBounds_toArray, List.set_cons_zero, List.set_cons_succ]
  refine anyG_take (i := 11) (v := .slice A l.length c) rfl (by kernel_rfl) (by kernel_rfl) (by kernel_rfl) (by kernel_rfl) (by kernel_rfl) (fun _ _ _ h => h) (Or.inl ⟨by rfl, fun w' hSw => by (obtain ⟨s0, s1, s2, s3⟩ := hSw; go_simp)⟩) hS ?_
  try simp only [Act.put, List.setIfInBounds_toArray, List.set_cons_zero, List.set_cons_succ]
  clear hw hp
  have hal := below_alloc (Below.refl U.heap.size U) (.cells #[.slice y.A y.x.es.length y.c, .slice A l.length c] 25)
  have hcells : ∀ j, j < 2 → (U.alloc (.cells #[.slice y.A y.x.es.length y.c, .slice A l.length c] 25)).cell? ⟨U.heap.size, j, none⟩ = some (.slice (pickT y.A A j) (pickT y.x.es l j).length (pickT y.c c j)) := fun j hj => by
    match j, hj with
    | 0, _ => show _ = some (Value.slice y.A y.x.es.length y.c); go_simp
    | 1, _ => show _ = some (Value.slice A l.length c); go_simp
  have hsz : U.heap.size < (U.alloc (.cells #[.slice y.A y.x.es.length y.c, .slice A l.length c] 25)).heap.size := by rw [alloc_size]; omega
  replace hP := hP.below hal
  replace hZ := hZ.below hal
  replace hok := hok.below hal
  replace hT := hT.below hal
  replace hB := below_then hB hal
  clear hal hS
  refine anyG_step (rs := [12]) (by kernel_rfl) (by simp) ?_
  refine AllG.cons rfl (fun K hK => ?_) AllG.nil
  go_simp
  refine hK.out _ _ (smIn4 hP : SmS n1 y _) ?_
  try simp only [Act.put, List.setIfInBounds_toArray, List.set_cons_zero, List.set_cons_succ]
  clear hK
  generalize U.alloc (.cells #[.slice y.A y.x.es.length y.c, .slice A l.length c] 25) = U1 at *
  have hcat : catE (pickT y.x.es l) 2 = y.x.es ++ l := by
    show ([] ++ y.x.es) ++ l = _
    rw [List.nil_append]
  have CC := concatEn_any U.heap.size (pickT y.x.es l) (pickT y.A A) (pickT y.c c) U1 hcells
    (fun j hj => by
      match j, hj with
      | 0, _ => exact hok.1
      | 1, _ => exact hT.1)
    (fun j hj => by
      match j, hj with
      | 0, _ => exact hok.2.1
      | 1, _ => exact hT.2.1)
    (by rw [hcat, List.length_append]; omega) hsz
  rw [hcat] at CC
  generalize U.heap.size = n0 at *
  clear hcells hcat hsz hok hT
  obtain ⟨L2, hL2⟩ : ∃ L2, y.x.es ++ l = L2 := ⟨_, rfl⟩
  rw [hL2] at CC
  have HL2 := Lib.hid hL2
  clear hL2
  refine anyG_step (rs := [13]) (by kernel_rfl) (by simp) ?_
  refine AllG.cons rfl (fun K hK => ?_) AllG.nil
  go_simp
  refine CC.mono ?_
  rintro r U2 ⟨A', c', rfl, hS', _, hb2⟩
  replace hP := hP.below hb2
  replace hZ := hZ.below hb2
  replace hB := below_then hB hb2
  clear hb2 CC
  try go_wp2_with fail
  have hS : SmS n1 y U2 := smIn4 hP
  refine hK.out _ _ hS ?_
  try simp only [Act.put, List.setIfInBounds_toArray, List.set_cons_zero, List.set_cons_succ]
  clear hK
  refine anyG_take (i := 14) (v := .agg #[.int .i64 y.x.s, .int .i64 y.x.t, .int .i64 (y.x.p + (l.length : Int)), .slice A' L2.length c']) rfl (by kernel_rfl) (by kernel_rfl) (by kernel_rfl) (by kernel_rfl) (by kernel_rfl) (fun _ _ _ h => h) (Or.inl ⟨by rfl, fun w' hSw => by (obtain ⟨s0, s1, s2, s3⟩ := hSw; go_simp)⟩) hS ?_
  try simp only [Act.put, List.setIfInBounds_toArray, List.set_cons_zero, List.set_cons_succ]
  refine anyG_step (rs := [15]) (by kernel_rfl) (by simp) ?_
  refine AllG.last (n := 15) rfl (fun K hK => ?_)
  refine El.step_store smRow rfl _ _ rfl n3 ⟨A', c', ⟨y.x.s, y.x.t, y.x.p + (l.length : Int), L2⟩⟩ #[.int .i64 y.x.s, .int .i64 y.x.t, .int .i64 (y.x.p + (l.length : Int)), .slice A' L2.length c'] rfl rfl rfl zeroSw hZ ?_
  refine hK.out _ _ ?_
  clear hK hS
  refine anyG_done (by kernel_rfl) ?_ _
  go_wp2_with fail
  refine El.ret1 smRow (hZ.set ⟨A', c', ⟨y.x.s, y.x.t, y.x.p + (l.length : Int), L2⟩⟩ _ rfl) rfl rfl rfl _ rfl ?_
  exact ⟨⟨A', c', ⟨y.x.s, y.x.t, y.x.p + (l.length : Int), L2⟩⟩, rfl, by rw [HL2.out], SlV.keepN hS' (by_row _ n3 _) (sm_off hS'.1 hZ), below_setRow hB hwn3 _⟩

set_option maxRecDepth 100000 in
set_option maxHeartbeats 4000000 in
theorem smPush_any (y : Sw) (e : En) (w : World) (hp : -4611686018427387904 ≤ y.x.p ∧ y.x.p ≤ 4611686018427387904) (hl : y.x.es.length ≤ 50000) (hok : y.ok w) :
    Calls Try.prog 28 #[.agg #[.int .i64 y.x.s, .int .i64 y.x.t, .int .i64 y.x.p, .slice y.A y.x.es.length y.c], .agg #[.int .i64 e.k, .int .i64 e.d, .int .i64 e.i, .int .i64 e.o.C, .int .i64 e.o.D, .int .i64 e.o.I, .int .i64 e.o.M, .int .i64 e.o.K, .int .i64 e.o.U, .string e.o.s]] w fun r w' => ∃ z : Sw, r = .returned (.agg #[.int .i64 z.x.s, .int .i64 z.x.t, .int .i64 z.x.p, .slice z.A z.x.es.length z.c]) ∧ z.x = pushS y.x e ∧ z.ok w' ∧ Below w.heap.size w w' := by
  have hP : smE.In (((w.alloc (.cells #[.int .i64 y.x.s, .int .i64 y.x.t, .int .i64 y.x.p, .slice y.A y.x.es.length y.c] 27)).alloc (.cells #[.int .i64 e.k, .int .i64 e.d, .int .i64 e.i, .int .i64 e.o.C, .int .i64 e.o.D, .int .i64 e.o.I, .int .i64 e.o.M, .int .i64 e.o.K, .int .i64 e.o.U, .string e.o.s] 37)).alloc (.cells #[.int .i64 0, .int .i64 0, .int .i64 0, .slice none 0 0] 27)) w.heap.size y := ((El.In.new (E := smE) w y _ rfl).alloc _).alloc _
  have hE : enE.In (((w.alloc (.cells #[.int .i64 y.x.s, .int .i64 y.x.t, .int .i64 y.x.p, .slice y.A y.x.es.length y.c] 27)).alloc (.cells #[.int .i64 e.k, .int .i64 e.d, .int .i64 e.i, .int .i64 e.o.C, .int .i64 e.o.D, .int .i64 e.o.I, .int .i64 e.o.M, .int .i64 e.o.K, .int .i64 e.o.U, .string e.o.s] 37)).alloc (.cells #[.int .i64 0, .int .i64 0, .int .i64 0, .slice none 0 0] 27)) (w.alloc (.cells #[.int .i64 y.x.s, .int .i64 y.x.t, .int .i64 y.x.p, .slice y.A y.x.es.length y.c] 27)).heap.size e := (El.In.new (E := enE) (w.alloc (.cells #[.int .i64 y.x.s, .int .i64 y.x.t, .int .i64 y.x.p, .slice y.A y.x.es.length y.c] 27)) e _ rfl).alloc _
  have hZ : smE.In (((w.alloc (.cells #[.int .i64 y.x.s, .int .i64 y.x.t, .int .i64 y.x.p, .slice y.A y.x.es.length y.c] 27)).alloc (.cells #[.int .i64 e.k, .int .i64 e.d, .int .i64 e.i, .int .i64 e.o.C, .int .i64 e.o.D, .int .i64 e.o.I, .int .i64 e.o.M, .int .i64 e.o.K, .int .i64 e.o.U, .string e.o.s] 37)).alloc (.cells #[.int .i64 0, .int .i64 0, .int .i64 0, .slice none 0 0] 27)) ((w.alloc (.cells #[.int .i64 y.x.s, .int .i64 y.x.t, .int .i64 y.x.p, .slice y.A y.x.es.length y.c] 27)).alloc (.cells #[.int .i64 e.k, .int .i64 e.d, .int .i64 e.i, .int .i64 e.o.C, .int .i64 e.o.D, .int .i64 e.o.I, .int .i64 e.o.M, .int .i64 e.o.K, .int .i64 e.o.U, .string e.o.s] 37)).heap.size zeroSw := El.In.new (E := smE) ((w.alloc (.cells #[.int .i64 y.x.s, .int .i64 y.x.t, .int .i64 y.x.p, .slice y.A y.x.es.length y.c] 27)).alloc (.cells #[.int .i64 e.k, .int .i64 e.d, .int .i64 e.i, .int .i64 e.o.C, .int .i64 e.o.D, .int .i64 e.o.I, .int .i64 e.o.M, .int .i64 e.o.K, .int .i64 e.o.U, .string e.o.s] 37)) zeroSw _ rfl
  rw [alloc_size] at hE
  rw [alloc_size, alloc_size] at hZ
  have hB := below_alloc (below_alloc (below_alloc (Below.refl w.heap.size w) (.cells #[.int .i64 y.x.s, .int .i64 y.x.t, .int .i64 y.x.p, .slice y.A y.x.es.length y.c] 27)) (.cells #[.int .i64 e.k, .int .i64 e.d, .int .i64 e.i, .int .i64 e.o.C, .int .i64 e.o.D, .int .i64 e.o.I, .int .i64 e.o.M, .int .i64 e.o.K, .int .i64 e.o.U, .string e.o.s] 37)) (.cells #[.int .i64 0, .int .i64 0, .int .i64 0, .slice none 0 0] 27)
  replace hok := hok.below hB
  have hVs : (((w.alloc (.cells #[.int .i64 y.x.s, .int .i64 y.x.t, .int .i64 y.x.p, .slice y.A y.x.es.length y.c] 27)).alloc (.cells #[.int .i64 e.k, .int .i64 e.d, .int .i64 e.i, .int .i64 e.o.C, .int .i64 e.o.D, .int .i64 e.o.I, .int .i64 e.o.M, .int .i64 e.o.K, .int .i64 e.o.U, .string e.o.s] 37)).alloc (.cells #[.int .i64 0, .int .i64 0, .int .i64 0, .slice none 0 0] 27)).heap.size = w.heap.size + 1 + 1 + 1 := by rw [alloc_size, alloc_size, alloc_size]
  go_enter Try.func28, Try.ntmps28
  go_wp2_with fail
  generalize ((w.alloc (.cells #[.int .i64 y.x.s, .int .i64 y.x.t, .int .i64 y.x.p, .slice y.A y.x.es.length y.c] 27)).alloc (.cells #[.int .i64 e.k, .int .i64 e.d, .int .i64 e.i, .int .i64 e.o.C, .int .i64 e.o.D, .int .i64 e.o.I, .int .i64 e.o.M, .int .i64 e.o.K, .int .i64 e.o.U, .string e.o.s] 37)).alloc (.cells #[.int .i64 0, .int .i64 0, .int .i64 0, .slice none 0 0] 27) = V at *
  obtain ⟨n3, h3⟩ : ∃ n, w.heap.size + 1 + 1 = n := ⟨_, rfl⟩
  obtain ⟨n2, h2⟩ : ∃ n, w.heap.size + 1 = n := ⟨_, rfl⟩
  obtain ⟨n1, h1⟩ : ∃ n, w.heap.size = n := ⟨_, rfl⟩
  rw [h3] at hZ hVs ⊢
  rw [h2] at hE ⊢
  rw [h1] at hP ⊢
  have hwn3 : w.heap.size ≤ n3 := by omega
  clear h1 h2 h3
  have hal := below_alloc (Below.refl V.heap.size V) (.cells #[.int .i64 e.k, .int .i64 e.d, .int .i64 e.i, .int .i64 e.o.C, .int .i64 e.o.D, .int .i64 e.o.I, .int .i64 e.o.M, .int .i64 e.o.K, .int .i64 e.o.U, .string e.o.s] 37)
  have hT : enE.Sl (V.alloc (.cells #[.int .i64 e.k, .int .i64 e.d, .int .i64 e.i, .int .i64 e.o.C, .int .i64 e.o.D, .int .i64 e.o.I, .int .i64 e.o.M, .int .i64 e.o.K, .int .i64 e.o.U, .string e.o.s] 37)) (some ⟨V.heap.size, 0, none⟩) [e] := (El.In.new (E := enE) V e _ rfl).sl
  have C := (pushed_any y (some ⟨V.heap.size, 0, none⟩) 1 [e] (V.alloc (.cells #[.int .i64 e.k, .int .i64 e.d, .int .i64 e.i, .int .i64 e.o.C, .int .i64 e.o.D, .int .i64 e.o.I, .int .i64 e.o.M, .int .i64 e.o.K, .int .i64 e.o.U, .string e.o.s] 37)) hp (by rw [List.length_singleton]; omega) (hok.below hal) ⟨hT, (fun e => by cases e), Nat.le_refl _⟩)
  rw [List.length_singleton, hVs] at C
  clear hVs
  replace C := Lib.hid C
  have hZ1 := hZ.below hal
  have hB1 := below_then hB hal
  clear hal hT hok hZ hB
  go_wp2_with (first | (refine El.load smRow rfl _ rfl n1 0 rfl y hP.at #[.int .i64 y.x.s, .int .i64 y.x.t, .int .i64 y.x.p, .slice y.A y.x.es.length y.c] rfl ?_) | (refine El.load enRow rfl _ rfl n2 0 rfl e hE.at #[.int .i64 e.k, .int .i64 e.d, .int .i64 e.i, .int .i64 e.o.C, .int .i64 e.o.D, .int .i64 e.o.I, .int .i64 e.o.M, .int .i64 e.o.K, .int .i64 e.o.U, .string e.o.s] rfl ?_) | fail)
  refine C.out.mono ?_
  rintro r w2 ⟨z, rfl, hz0, ho, hb2⟩
  have hz := Lib.hid (show z.x = pushS y.x e from hz0)
  clear hz0
  replace hZ1 := hZ1.below hb2
  replace hB1 := below_then hB1 hb2
  clear hb2 C
  go_wp2_with (first | (refine El.store smRow rfl _ _ rfl n3 z #[.int .i64 z.x.s, .int .i64 z.x.t, .int .i64 z.x.p, .slice z.A z.x.es.length z.c] rfl rfl rfl zeroSw hZ1 ?_) | fail)
  refine El.ret1 smRow (hZ1.set z _ rfl) rfl rfl rfl _ rfl ?_
  exact ⟨z, rfl, hz.out, SlV.keepN ho (by_row _ n3 _) (sm_off ho.1 hZ1), below_setRow hB1 hwn3 _⟩

theorem takeS_win (x : Sm) (st : Int) (l : List En) : takeS x st l = ⟨x.s, x.t, x.p + ((winL l (x.p + 1 - st)).length : Int), x.es ++ winL l (x.p + 1 - st)⟩ := by
  rw [takeS_eq]
  obtain ⟨s, t, p, es⟩ := x
  dsimp only
  unfold winL
  by_cases c : st ≤ p + 1
  · rw [if_pos c]
    by_cases c2 : (l.length : Int) < p + 1 - st
    · rw [if_pos (Or.inr c2), List.drop_eq_nil_of_le (by omega)]
      congr 1
      rw [List.length_nil]; omega
    · rw [if_neg (by omega)]
      congr 1
      rw [List.length_drop]; omega
  · rw [if_neg c, if_pos (Or.inl (by omega)), List.append_nil]
    congr 1
    rw [List.length_nil]; omega

set_option maxRecDepth 100000 in
set_option maxHeartbeats 4000000 in
theorem smTake_any (y : Sw) (st : Int) (A : Option Addr) (c : Nat) (l : List En) (w : World) (hn : SmN y.x) (hst : -1000000000000000 ≤ st ∧ st ≤ 1000000000000000) (hl : l.length ≤ 5000) (hok : y.ok w) (hT : SlV enE w A c l) :
    Calls Try.prog 26 #[.agg #[.int .i64 y.x.s, .int .i64 y.x.t, .int .i64 y.x.p, .slice y.A y.x.es.length y.c], .int .i64 st, .slice A l.length c] w fun r w' => ∃ z : Sw, r = .returned (.agg #[.int .i64 z.x.s, .int .i64 z.x.t, .int .i64 z.x.p, .slice z.A z.x.es.length z.c]) ∧ z.x = takeS y.x st l ∧ z.ok w' ∧ Below w.heap.size w w' := by
  have hP : smE.In ((w.alloc (.cells #[.int .i64 y.x.s, .int .i64 y.x.t, .int .i64 y.x.p, .slice y.A y.x.es.length y.c] 27)).alloc (.cells #[.int .i64 0, .int .i64 0, .int .i64 0, .slice none 0 0] 27)) w.heap.size y := (El.In.new (E := smE) w y _ rfl).alloc _
  have hZ := two_boxes w #[.int .i64 y.x.s, .int .i64 y.x.t, .int .i64 y.x.p, .slice y.A y.x.es.length y.c] #[.int .i64 0, .int .i64 0, .int .i64 0, .slice none 0 0] zeroSw rfl
  have hB := below_alloc (below_alloc (Below.refl w.heap.size w) (.cells #[.int .i64 y.x.s, .int .i64 y.x.t, .int .i64 y.x.p, .slice y.A y.x.es.length y.c] 27)) (.cells #[.int .i64 0, .int .i64 0, .int .i64 0, .slice none 0 0] 27)
  replace hok := hok.below hB
  replace hT := hT.below hB
  have hp := hn.p
  have hl0 := hn.l
  have w1 : IntKind.i64.wrap (y.x.p + 1) = y.x.p + 1 := by rw [IntKind.wrap_i64]; omega
  have w2 : IntKind.i64.wrap (y.x.p + 1 - st) = y.x.p + 1 - st := by rw [IntKind.wrap_i64]; omega
  go_enter Try.func26, Try.ntmps26
  go_wp2_with fail
  generalize (w.alloc (.cells #[.int .i64 y.x.s, .int .i64 y.x.t, .int .i64 y.x.p, .slice y.A y.x.es.length y.c] 27)).alloc (.cells #[.int .i64 0, .int .i64 0, .int .i64 0, .slice none 0 0] 27) = V at *
  obtain ⟨n3, h3⟩ : ∃ n, w.heap.size + 1 = n := ⟨_, rfl⟩
  obtain ⟨n1, h1⟩ : ∃ n, w.heap.size = n := ⟨_, rfl⟩
  rw [h3] at hZ ⊢
  rw [h1] at hP ⊢
  have hwn1 : w.heap.size ≤ n1 := by omega
  have hwn3 : w.heap.size ≤ n3 := by omega
  have hn13 : n1 < n3 := by omega
  clear h1 h3
  refine region_anyG (S := SmS n1 y) 9 (by kernel_rfl) ?_
  replace hP : smE.In V.drew n1 y := hP
  replace hZ : smE.In V.drew n3 zeroSw := hZ
  replace hok : y.ok V.drew := hok
  replace hT : SlV enE V.drew A c l := hT
  replace hB := hB.drew
  generalize V.drew = U at *
  have hS : SmS n1 y U := smIn4 hP
  refine anyG_take (i := 0) (v := .agg #[.int .i64 y.x.s, .int .i64 y.x.t, .int .i64 y.x.p, .slice y.A y.x.es.length y.c]) rfl (by kernel_rfl) (by kernel_rfl) (by kernel_rfl) (by kernel_rfl) (by kernel_rfl) (fun _ _ _ h => h) (Or.inl ⟨by rfl, fun w' hSw => by (obtain ⟨s0, s1, s2, s3⟩ := hSw; go_simp)⟩) hS ?_
  try simp only [Act.put, List.setIfInBounds_toArray, List.set_cons_zero, List.set_cons_succ]
  refine anyG_take (i := 1) (v := .slice A l.length c) rfl (by kernel_rfl) (by kernel_rfl) (by kernel_rfl) (by kernel_rfl) (by kernel_rfl) (fun _ _ _ h => h) (Or.inl ⟨by rfl, fun w' hSw => by (obtain ⟨s0, s1, s2, s3⟩ := hSw; go_simp)⟩) hS ?_
  try simp only [Act.put, List.setIfInBounds_toArray, List.set_cons_zero, List.set_cons_succ]
  refine anyG_take (i := 2) (v := .pointer (some ⟨n1, 2, none⟩)) rfl (by kernel_rfl) (by kernel_rfl) (by kernel_rfl) (by kernel_rfl) (by kernel_rfl) (fun _ _ _ h => h) (Or.inl ⟨by rfl, fun w' hSw => by (obtain ⟨s0, s1, s2, s3⟩ := hSw; go_simp)⟩) hS ?_
  try simp only [Act.put, List.setIfInBounds_toArray, List.set_cons_zero, List.set_cons_succ]
  refine anyG_take (i := 3) (v := .int .i64 y.x.p) rfl (by kernel_rfl) (by kernel_rfl) (by kernel_rfl) (by kernel_rfl) (by kernel_rfl) (fun _ _ _ h => h) (Or.inl ⟨by rfl, fun w' hSw => by (obtain ⟨s0, s1, s2, s3⟩ := hSw; go_simp)⟩) hS ?_
  try simp only [Act.put, List.setIfInBounds_toArray, List.set_cons_zero, List.set_cons_succ]
  refine anyG_take (i := 4) (v := .int .i64 (y.x.p + 1)) rfl (by kernel_rfl) (by kernel_rfl) (by kernel_rfl) (by kernel_rfl) (by kernel_rfl) (fun _ _ _ h => h) (Or.inl ⟨by rfl, fun w' hSw => by (obtain ⟨s0, s1, s2, s3⟩ := hSw; go_simp)⟩) hS ?_
  try simp only [Act.put, List.setIfInBounds_toArray, List.set_cons_zero, List.set_cons_succ]
  refine anyG_take (i := 5) (v := .int .i64 st) rfl (by kernel_rfl) (by kernel_rfl) (by kernel_rfl) (by kernel_rfl) (by kernel_rfl) (fun _ _ _ h => h) (Or.inl ⟨by rfl, fun w' hSw => by (obtain ⟨s0, s1, s2, s3⟩ := hSw; go_simp)⟩) hS ?_
  try simp only [Act.put, List.setIfInBounds_toArray, List.set_cons_zero, List.set_cons_succ]
  refine anyG_take (i := 6) (v := .int .i64 (y.x.p + 1 - st)) rfl (by kernel_rfl) (by kernel_rfl) (by kernel_rfl) (by kernel_rfl) (by kernel_rfl) (fun _ _ _ h => h) (Or.inl ⟨by rfl, fun w' hSw => by (obtain ⟨s0, s1, s2, s3⟩ := hSw; go_simp)⟩) hS ?_
  try simp only [Act.put, List.setIfInBounds_toArray, List.set_cons_zero, List.set_cons_succ]
  have CW := window_any A c l (y.x.p + 1 - st) U hT
  have HTS := Lib.hid (takeS_win y.x st l)
  have hwl := winL_le l (y.x.p + 1 - st)
  generalize winL l (y.x.p + 1 - st) = W at *
  clear w1 w2 hn hst
  refine anyG_step (rs := [7]) (by kernel_rfl) (by simp) ?_
  refine AllG.cons rfl (fun K hK => ?_) AllG.nil
  go_simp
  refine CW.mono ?_
  rintro r U1 ⟨A1, c1, rfl, hT1, rfl⟩
  have CP := pushed_any y A1 c1 W U1 (by omega) (by omega) hok hT1
  clear CW hT hT1
  try go_wp2_with fail
  refine hK.out _ _ hS ?_
  try simp only [Act.put, List.setIfInBounds_toArray, List.set_cons_zero, List.set_cons_succ]
  clear hK
  refine anyG_step (rs := [8]) (by kernel_rfl) (by simp) ?_
  refine AllG.cons rfl (fun K hK => ?_) AllG.nil
  go_simp
  refine CP.mono ?_
  rintro r U2 ⟨z, rfl, hz0, ho, hb2⟩
  have hz := Lib.hid hz0
  clear hz0
  replace hP := hP.below hb2
  replace hZ := hZ.below hb2
  replace hB := below_then hB hb2
  clear hb2 CP hS
  try go_wp2_with fail
  refine hK.out _ _ (smIn4 hP : SmS n1 y U2) ?_
  try simp only [Act.put, List.setIfInBounds_toArray, List.set_cons_zero, List.set_cons_succ]
  clear hK
  refine anyG_step (rs := [9]) (by kernel_rfl) (by simp) ?_
  refine AllG.last (n := 9) rfl (fun K hK => ?_)
  refine El.step_store smRow rfl _ _ rfl n3 z #[.int .i64 z.x.s, .int .i64 z.x.t, .int .i64 z.x.p, .slice z.A z.x.es.length z.c] rfl rfl rfl zeroSw hZ ?_
  refine hK.out _ _ ?_
  clear hK
  refine anyG_done (by kernel_rfl) ?_ _
  go_wp2_with fail
  refine El.ret1 smRow (hZ.set z _ rfl) rfl rfl rfl _ rfl ?_
  exact ⟨z, rfl, by rw [hz.out, HTS.out], SlV.keepN ho (by_row _ n3 _) (sm_off ho.1 hZ), below_setRow hB hwn3 _⟩
end Go.Proofs.Ytbfebcifmneliaa

/- The program's streams: Settle, From. -/
namespace Go.Proofs.Ytbfebcifmneliaa
open Go.RowKit Nam Cod

theorem settleS_win {x : Sm} (h : SmR x) (place t : Int) : settleS x place t = ⟨max place x.s, max x.t t, max x.p place, winL x.es (max place x.s - x.s)⟩ := by
  have h1 := h.sp
  have h2 := h.len
  obtain ⟨s, tt, p, es⟩ := x
  dsimp only at h1 h2
  unfold settleS winL
  dsimp only
  by_cases c : place ≤ s
  · have e1 : max place s = s := by omega
    have e2 : max p place = p := by omega
    have e3 : s - s = 0 := by omega
    rw [if_pos c, e1, e2, e3, if_neg (by omega)]
    rfl
  · have e1 : max place s = place := by omega
    rw [if_neg c, e1]
    by_cases c2 : p ≤ place
    · have e2 : max p place = place := by omega
      rw [if_pos c2, e2]
      congr 1
      by_cases c3 : (es.length : Int) < place - s
      · rw [if_pos (Or.inr c3)]
      · rw [if_neg (by omega), List.drop_eq_nil_of_le (by omega)]
    · have e2 : max p place = p := by omega
      rw [if_neg c2, e2, if_neg (by omega)]

set_option maxRecDepth 100000 in
set_option maxHeartbeats 4000000 in
theorem smSettle_any (y : Sw) (place t : Int) (w : World) (hn : SmN y.x) (hR : SmR y.x) (hpl : -1000000000000000 ≤ place ∧ place ≤ 1000000000000000) (hok : y.ok w) :
    Calls Try.prog 25 #[.agg #[.int .i64 y.x.s, .int .i64 y.x.t, .int .i64 y.x.p, .slice y.A y.x.es.length y.c], .int .i64 place, .int .i64 t] w fun r w' => ∃ z : Sw, r = .returned (.agg #[.int .i64 z.x.s, .int .i64 z.x.t, .int .i64 z.x.p, .slice z.A z.x.es.length z.c]) ∧ z.x = settleS y.x place t ∧ z.ok w' ∧ Below w.heap.size w w' := by
  have hs := hn.s
  have hp := hn.p
  have hsp := hR.sp
  have HWL := Lib.hid (show (winL y.x.es (max place y.x.s - y.x.s)).length ≤ 50000 from Nat.le_trans (winL_le _ _) hn.l)
  have hv := settleS_win hR place t
  clear hn hR
  obtain ⟨q, hq⟩ : ∃ q, max place y.x.s = q := ⟨_, rfl⟩
  obtain ⟨T, hT⟩ : ∃ T, max y.x.t t = T := ⟨_, rfl⟩
  obtain ⟨P, hPP⟩ : ∃ P, max y.x.p place = P := ⟨_, rfl⟩
  obtain ⟨d, hd⟩ : ∃ d, q - y.x.s = d := ⟨_, rfl⟩
  rw [hq, hd] at HWL
  rw [hq, hT, hPP, hd] at hv
  have HV := Lib.hid hv
  have f1 : IntKind.i64.wrap (q - y.x.s) = d := by rw [IntKind.wrap_i64]; omega
  clear hv
  rcases Int.lt_or_le y.x.t t with hmt | hmt
  · obtain rfl : t = T := by omega
    rcases Int.lt_or_le place y.x.s with hmp | hmp
    · obtain rfl : y.x.s = q := by omega
      obtain rfl : y.x.p = P := by omega
      obtain rfl : 0 = d := by omega
      have hmq : place ≤ y.x.p := by omega
      have hPQ : max y.x.p y.x.s = y.x.p := by omega
      clear hd f1
      have CW := Lib.hid (fun (wx : World) (h : y.ok wx) => window_any y.A y.c y.x.es (0) wx h)
      generalize winL y.x.es (0) = W at *
      have hP : smE.In ((w.alloc (.cells #[.int .i64 y.x.s, .int .i64 t, .int .i64 y.x.p, .slice y.A y.x.es.length y.c] 27)).alloc (.cells #[.int .i64 0, .int .i64 0, .int .i64 0, .slice none 0 0] 27)) w.heap.size ⟨y.A, y.c, ⟨y.x.s, t, y.x.p, y.x.es⟩⟩ := (El.In.new (E := smE) w ⟨y.A, y.c, ⟨y.x.s, t, y.x.p, y.x.es⟩⟩ _ rfl).alloc _
      have hZ := two_boxes w #[.int .i64 y.x.s, .int .i64 t, .int .i64 y.x.p, .slice y.A y.x.es.length y.c] #[.int .i64 0, .int .i64 0, .int .i64 0, .slice none 0 0] zeroSw rfl
      have hB1 := below_alloc (below_alloc (Below.refl w.heap.size w) (.cells #[.int .i64 y.x.s, .int .i64 t, .int .i64 y.x.p, .slice y.A y.x.es.length y.c] 27)) (.cells #[.int .i64 0, .int .i64 0, .int .i64 0, .slice none 0 0] 27)
      have hok1 := hok.below hB1
      go_enter Try.func25, Try.ntmps25
      go_wp2_with fail
      generalize (w.alloc (.cells #[.int .i64 y.x.s, .int .i64 t, .int .i64 y.x.p, .slice y.A y.x.es.length y.c] 27)).alloc (.cells #[.int .i64 0, .int .i64 0, .int .i64 0, .slice none 0 0] 27) = V1 at *
      obtain ⟨n3, h3⟩ : ∃ n, w.heap.size + 1 = n := ⟨_, rfl⟩
      obtain ⟨n1, h1⟩ : ∃ n, w.heap.size = n := ⟨_, rfl⟩
      rw [h3] at hZ ⊢
      rw [h1] at hP ⊢
      have hwn1 : w.heap.size ≤ n1 := by omega
      have hwn3 : w.heap.size ≤ n3 := by omega
      have hn13 : n1 < n3 := by omega
      clear h1 h3
      have hP1 := hP
      have hZ1 := hZ
      clear hP hZ hok
      obtain ⟨p0, p1, p2, p3⟩ := smIn4 hP1
      refine (CW.out _ hok1).mono ?_
      rintro r V1 ⟨A1, c1, rfl, hT1, rfl⟩
      clear CW hok1
      have CC := Lib.hid (cloneEn_any A1 c1 W V1 HWL.out hT1)
      clear hT1
      go_wp2_with fail
      refine CC.out.mono ?_
      rintro r w2 ⟨A', c', rfl, hS, hf, hb2⟩
      have hn1w : n1 < V1.heap.size := hP1.lt
      clear CC p0 p1 p2 p3
      have hP2 := hP1.below hb2
      have hZ2 := hZ1.below hb2
      have hB2 := below_then hB1 hb2
      clear hP1 hZ1 hB1 hb2
      obtain ⟨p0, p1, p2, p3⟩ := smIn4 hP2
      have pf := hP2.frozen
      have hfr1 : ∀ a, A' = some a → some a.block ≠ some n1 := fun a e e2 => by have := hf a e; have := Option.some.inj e2; omega
      have g1 := by_cell w2 n1 3 (.slice A' W.length c')
      have hS1 := SlV.keepN hS g1 (fun _ => hfr1)
      have hB3 := hB2.grown g1 hB2.size (fun k e => by have := Option.some.inj e; omega)
      have g2 := by_cell (w2.setCell ⟨n1, 3, none⟩ (.slice A' W.length c')) n1 0 (.int .i64 y.x.s)
      have hS2 := SlV.keepN hS1 g2 (fun _ => hfr1)
      have hB4 := hB3.grown g2 hB3.size (fun k e => by have := Option.some.inj e; omega)
      have g3 := by_cell ((w2.setCell ⟨n1, 3, none⟩ (.slice A' W.length c')).setCell ⟨n1, 0, none⟩ (.int .i64 y.x.s)) n1 2 (.int .i64 y.x.p)
      have hS3 := SlV.keepN hS2 g3 (fun _ => hfr1)
      have hB5 := hB4.grown g3 hB4.size (fun k e => by have := Option.some.inj e; omega)
      have hP3 := ((hP2.put ⟨A', c', ⟨y.x.s, t, y.x.p, W⟩⟩ 3 (.slice A' W.length c') rfl).put ⟨A', c', ⟨y.x.s, t, y.x.p, W⟩⟩ 0 (.int .i64 y.x.s) rfl).put ⟨A', c', ⟨y.x.s, t, y.x.p, W⟩⟩ 2 (.int .i64 y.x.p) rfl
      have hZ3 := ((hZ2.other n1 3 (.slice A' W.length c') (by omega)).other n1 0 (.int .i64 y.x.s) (by omega)).other n1 2 (.int .i64 y.x.p) (by omega)
      clear g1 g2 g3 hS hS1 hS2 hB2 hB3 hB4 hP2 hZ2 hfr1
      go_upto_region 6 with fail
      clear p0 p1 p2 p3 pf
      generalize ((w2.setCell ⟨n1, 3, none⟩ (.slice A' W.length c')).setCell ⟨n1, 0, none⟩ (.int .i64 y.x.s)).setCell ⟨n1, 2, none⟩ (.int .i64 (y.x.p)) = W9 at *
      go_wp2_with (first | (refine El.load smRow rfl _ rfl n1 0 rfl ⟨A', c', ⟨y.x.s, t, y.x.p, W⟩⟩ hP3.at #[.int .i64 y.x.s, .int .i64 t, .int .i64 y.x.p, .slice A' W.length c'] rfl ?_) | (refine El.store smRow rfl _ _ rfl n3 ⟨A', c', ⟨y.x.s, t, y.x.p, W⟩⟩ #[.int .i64 y.x.s, .int .i64 t, .int .i64 y.x.p, .slice A' W.length c'] rfl rfl rfl zeroSw hZ3 ?_) | fail)
      refine El.ret1 smRow (hZ3.set ⟨A', c', ⟨y.x.s, t, y.x.p, W⟩⟩ _ rfl) rfl rfl rfl _ rfl ?_
      exact ⟨⟨A', c', ⟨y.x.s, t, y.x.p, W⟩⟩, rfl, HV.out.symm, SlV.keepN hS3 (by_row _ n3 _) (sm_off hS3.1 hZ3), below_setRow hB5 hwn3 _⟩
    · obtain rfl : place = q := by omega
      obtain rfl : place - y.x.s = d := by omega
      clear hd
      rcases Int.lt_or_le y.x.p place with hmq | hmq
      · obtain rfl : place = P := by omega
        skip
        have CW := Lib.hid (fun (wx : World) (h : y.ok wx) => window_any y.A y.c y.x.es (place - y.x.s) wx h)
        generalize winL y.x.es (place - y.x.s) = W at *
        have hP : smE.In ((w.alloc (.cells #[.int .i64 y.x.s, .int .i64 t, .int .i64 y.x.p, .slice y.A y.x.es.length y.c] 27)).alloc (.cells #[.int .i64 0, .int .i64 0, .int .i64 0, .slice none 0 0] 27)) w.heap.size ⟨y.A, y.c, ⟨y.x.s, t, y.x.p, y.x.es⟩⟩ := (El.In.new (E := smE) w ⟨y.A, y.c, ⟨y.x.s, t, y.x.p, y.x.es⟩⟩ _ rfl).alloc _
        have hZ := two_boxes w #[.int .i64 y.x.s, .int .i64 t, .int .i64 y.x.p, .slice y.A y.x.es.length y.c] #[.int .i64 0, .int .i64 0, .int .i64 0, .slice none 0 0] zeroSw rfl
        have hB1 := below_alloc (below_alloc (Below.refl w.heap.size w) (.cells #[.int .i64 y.x.s, .int .i64 t, .int .i64 y.x.p, .slice y.A y.x.es.length y.c] 27)) (.cells #[.int .i64 0, .int .i64 0, .int .i64 0, .slice none 0 0] 27)
        have hok1 := hok.below hB1
        go_enter Try.func25, Try.ntmps25
        go_wp2_with fail
        generalize (w.alloc (.cells #[.int .i64 y.x.s, .int .i64 t, .int .i64 y.x.p, .slice y.A y.x.es.length y.c] 27)).alloc (.cells #[.int .i64 0, .int .i64 0, .int .i64 0, .slice none 0 0] 27) = V1 at *
        obtain ⟨n3, h3⟩ : ∃ n, w.heap.size + 1 = n := ⟨_, rfl⟩
        obtain ⟨n1, h1⟩ : ∃ n, w.heap.size = n := ⟨_, rfl⟩
        rw [h3] at hZ ⊢
        rw [h1] at hP ⊢
        have hwn1 : w.heap.size ≤ n1 := by omega
        have hwn3 : w.heap.size ≤ n3 := by omega
        have hn13 : n1 < n3 := by omega
        clear h1 h3
        have hP1 := hP
        have hZ1 := hZ
        clear hP hZ hok
        obtain ⟨p0, p1, p2, p3⟩ := smIn4 hP1
        refine (CW.out _ hok1).mono ?_
        rintro r V1 ⟨A1, c1, rfl, hT1, rfl⟩
        clear CW hok1
        have CC := Lib.hid (cloneEn_any A1 c1 W V1 HWL.out hT1)
        clear hT1
        go_wp2_with fail
        refine CC.out.mono ?_
        rintro r w2 ⟨A', c', rfl, hS, hf, hb2⟩
        have hn1w : n1 < V1.heap.size := hP1.lt
        clear CC p0 p1 p2 p3
        have hP2 := hP1.below hb2
        have hZ2 := hZ1.below hb2
        have hB2 := below_then hB1 hb2
        clear hP1 hZ1 hB1 hb2
        obtain ⟨p0, p1, p2, p3⟩ := smIn4 hP2
        have pf := hP2.frozen
        have hfr1 : ∀ a, A' = some a → some a.block ≠ some n1 := fun a e e2 => by have := hf a e; have := Option.some.inj e2; omega
        have g1 := by_cell w2 n1 3 (.slice A' W.length c')
        have hS1 := SlV.keepN hS g1 (fun _ => hfr1)
        have hB3 := hB2.grown g1 hB2.size (fun k e => by have := Option.some.inj e; omega)
        have g2 := by_cell (w2.setCell ⟨n1, 3, none⟩ (.slice A' W.length c')) n1 0 (.int .i64 place)
        have hS2 := SlV.keepN hS1 g2 (fun _ => hfr1)
        have hB4 := hB3.grown g2 hB3.size (fun k e => by have := Option.some.inj e; omega)
        have g3 := by_cell ((w2.setCell ⟨n1, 3, none⟩ (.slice A' W.length c')).setCell ⟨n1, 0, none⟩ (.int .i64 place)) n1 2 (.int .i64 place)
        have hS3 := SlV.keepN hS2 g3 (fun _ => hfr1)
        have hB5 := hB4.grown g3 hB4.size (fun k e => by have := Option.some.inj e; omega)
        have hP3 := ((hP2.put ⟨A', c', ⟨y.x.s, t, y.x.p, W⟩⟩ 3 (.slice A' W.length c') rfl).put ⟨A', c', ⟨place, t, y.x.p, W⟩⟩ 0 (.int .i64 place) rfl).put ⟨A', c', ⟨place, t, place, W⟩⟩ 2 (.int .i64 place) rfl
        have hZ3 := ((hZ2.other n1 3 (.slice A' W.length c') (by omega)).other n1 0 (.int .i64 place) (by omega)).other n1 2 (.int .i64 place) (by omega)
        clear g1 g2 g3 hS hS1 hS2 hB2 hB3 hB4 hP2 hZ2 hfr1
        go_upto_region 6 with fail
        clear p0 p1 p2 p3 pf
        generalize ((w2.setCell ⟨n1, 3, none⟩ (.slice A' W.length c')).setCell ⟨n1, 0, none⟩ (.int .i64 place)).setCell ⟨n1, 2, none⟩ (.int .i64 (place)) = W9 at *
        go_wp2_with (first | (refine El.load smRow rfl _ rfl n1 0 rfl ⟨A', c', ⟨place, t, place, W⟩⟩ hP3.at #[.int .i64 place, .int .i64 t, .int .i64 place, .slice A' W.length c'] rfl ?_) | (refine El.store smRow rfl _ _ rfl n3 ⟨A', c', ⟨place, t, place, W⟩⟩ #[.int .i64 place, .int .i64 t, .int .i64 place, .slice A' W.length c'] rfl rfl rfl zeroSw hZ3 ?_) | fail)
        refine El.ret1 smRow (hZ3.set ⟨A', c', ⟨place, t, place, W⟩⟩ _ rfl) rfl rfl rfl _ rfl ?_
        exact ⟨⟨A', c', ⟨place, t, place, W⟩⟩, rfl, HV.out.symm, SlV.keepN hS3 (by_row _ n3 _) (sm_off hS3.1 hZ3), below_setRow hB5 hwn3 _⟩
      · obtain rfl : y.x.p = P := by omega
        skip
        have CW := Lib.hid (fun (wx : World) (h : y.ok wx) => window_any y.A y.c y.x.es (place - y.x.s) wx h)
        generalize winL y.x.es (place - y.x.s) = W at *
        have hP : smE.In ((w.alloc (.cells #[.int .i64 y.x.s, .int .i64 t, .int .i64 y.x.p, .slice y.A y.x.es.length y.c] 27)).alloc (.cells #[.int .i64 0, .int .i64 0, .int .i64 0, .slice none 0 0] 27)) w.heap.size ⟨y.A, y.c, ⟨y.x.s, t, y.x.p, y.x.es⟩⟩ := (El.In.new (E := smE) w ⟨y.A, y.c, ⟨y.x.s, t, y.x.p, y.x.es⟩⟩ _ rfl).alloc _
        have hZ := two_boxes w #[.int .i64 y.x.s, .int .i64 t, .int .i64 y.x.p, .slice y.A y.x.es.length y.c] #[.int .i64 0, .int .i64 0, .int .i64 0, .slice none 0 0] zeroSw rfl
        have hB1 := below_alloc (below_alloc (Below.refl w.heap.size w) (.cells #[.int .i64 y.x.s, .int .i64 t, .int .i64 y.x.p, .slice y.A y.x.es.length y.c] 27)) (.cells #[.int .i64 0, .int .i64 0, .int .i64 0, .slice none 0 0] 27)
        have hok1 := hok.below hB1
        go_enter Try.func25, Try.ntmps25
        go_wp2_with fail
        generalize (w.alloc (.cells #[.int .i64 y.x.s, .int .i64 t, .int .i64 y.x.p, .slice y.A y.x.es.length y.c] 27)).alloc (.cells #[.int .i64 0, .int .i64 0, .int .i64 0, .slice none 0 0] 27) = V1 at *
        obtain ⟨n3, h3⟩ : ∃ n, w.heap.size + 1 = n := ⟨_, rfl⟩
        obtain ⟨n1, h1⟩ : ∃ n, w.heap.size = n := ⟨_, rfl⟩
        rw [h3] at hZ ⊢
        rw [h1] at hP ⊢
        have hwn1 : w.heap.size ≤ n1 := by omega
        have hwn3 : w.heap.size ≤ n3 := by omega
        have hn13 : n1 < n3 := by omega
        clear h1 h3
        have hP1 := hP
        have hZ1 := hZ
        clear hP hZ hok
        obtain ⟨p0, p1, p2, p3⟩ := smIn4 hP1
        refine (CW.out _ hok1).mono ?_
        rintro r V1 ⟨A1, c1, rfl, hT1, rfl⟩
        clear CW hok1
        have CC := Lib.hid (cloneEn_any A1 c1 W V1 HWL.out hT1)
        clear hT1
        go_wp2_with fail
        refine CC.out.mono ?_
        rintro r w2 ⟨A', c', rfl, hS, hf, hb2⟩
        have hn1w : n1 < V1.heap.size := hP1.lt
        clear CC p0 p1 p2 p3
        have hP2 := hP1.below hb2
        have hZ2 := hZ1.below hb2
        have hB2 := below_then hB1 hb2
        clear hP1 hZ1 hB1 hb2
        obtain ⟨p0, p1, p2, p3⟩ := smIn4 hP2
        have pf := hP2.frozen
        have hfr1 : ∀ a, A' = some a → some a.block ≠ some n1 := fun a e e2 => by have := hf a e; have := Option.some.inj e2; omega
        have g1 := by_cell w2 n1 3 (.slice A' W.length c')
        have hS1 := SlV.keepN hS g1 (fun _ => hfr1)
        have hB3 := hB2.grown g1 hB2.size (fun k e => by have := Option.some.inj e; omega)
        have g2 := by_cell (w2.setCell ⟨n1, 3, none⟩ (.slice A' W.length c')) n1 0 (.int .i64 place)
        have hS2 := SlV.keepN hS1 g2 (fun _ => hfr1)
        have hB4 := hB3.grown g2 hB3.size (fun k e => by have := Option.some.inj e; omega)
        have g3 := by_cell ((w2.setCell ⟨n1, 3, none⟩ (.slice A' W.length c')).setCell ⟨n1, 0, none⟩ (.int .i64 place)) n1 2 (.int .i64 y.x.p)
        have hS3 := SlV.keepN hS2 g3 (fun _ => hfr1)
        have hB5 := hB4.grown g3 hB4.size (fun k e => by have := Option.some.inj e; omega)
        have hP3 := ((hP2.put ⟨A', c', ⟨y.x.s, t, y.x.p, W⟩⟩ 3 (.slice A' W.length c') rfl).put ⟨A', c', ⟨place, t, y.x.p, W⟩⟩ 0 (.int .i64 place) rfl).put ⟨A', c', ⟨place, t, y.x.p, W⟩⟩ 2 (.int .i64 y.x.p) rfl
        have hZ3 := ((hZ2.other n1 3 (.slice A' W.length c') (by omega)).other n1 0 (.int .i64 place) (by omega)).other n1 2 (.int .i64 y.x.p) (by omega)
        clear g1 g2 g3 hS hS1 hS2 hB2 hB3 hB4 hP2 hZ2 hfr1
        go_upto_region 6 with fail
        clear p0 p1 p2 p3 pf
        generalize ((w2.setCell ⟨n1, 3, none⟩ (.slice A' W.length c')).setCell ⟨n1, 0, none⟩ (.int .i64 place)).setCell ⟨n1, 2, none⟩ (.int .i64 (y.x.p)) = W9 at *
        go_wp2_with (first | (refine El.load smRow rfl _ rfl n1 0 rfl ⟨A', c', ⟨place, t, y.x.p, W⟩⟩ hP3.at #[.int .i64 place, .int .i64 t, .int .i64 y.x.p, .slice A' W.length c'] rfl ?_) | (refine El.store smRow rfl _ _ rfl n3 ⟨A', c', ⟨place, t, y.x.p, W⟩⟩ #[.int .i64 place, .int .i64 t, .int .i64 y.x.p, .slice A' W.length c'] rfl rfl rfl zeroSw hZ3 ?_) | fail)
        refine El.ret1 smRow (hZ3.set ⟨A', c', ⟨place, t, y.x.p, W⟩⟩ _ rfl) rfl rfl rfl _ rfl ?_
        exact ⟨⟨A', c', ⟨place, t, y.x.p, W⟩⟩, rfl, HV.out.symm, SlV.keepN hS3 (by_row _ n3 _) (sm_off hS3.1 hZ3), below_setRow hB5 hwn3 _⟩
  · obtain rfl : y.x.t = T := by omega
    rcases Int.lt_or_le place y.x.s with hmp | hmp
    · obtain rfl : y.x.s = q := by omega
      obtain rfl : y.x.p = P := by omega
      obtain rfl : 0 = d := by omega
      have hmq : place ≤ y.x.p := by omega
      have hPQ : max y.x.p y.x.s = y.x.p := by omega
      clear hd f1
      have CW := Lib.hid (fun (wx : World) (h : y.ok wx) => window_any y.A y.c y.x.es (0) wx h)
      generalize winL y.x.es (0) = W at *
      have hP : smE.In ((w.alloc (.cells #[.int .i64 y.x.s, .int .i64 y.x.t, .int .i64 y.x.p, .slice y.A y.x.es.length y.c] 27)).alloc (.cells #[.int .i64 0, .int .i64 0, .int .i64 0, .slice none 0 0] 27)) w.heap.size ⟨y.A, y.c, ⟨y.x.s, y.x.t, y.x.p, y.x.es⟩⟩ := (El.In.new (E := smE) w ⟨y.A, y.c, ⟨y.x.s, y.x.t, y.x.p, y.x.es⟩⟩ _ rfl).alloc _
      have hZ := two_boxes w #[.int .i64 y.x.s, .int .i64 y.x.t, .int .i64 y.x.p, .slice y.A y.x.es.length y.c] #[.int .i64 0, .int .i64 0, .int .i64 0, .slice none 0 0] zeroSw rfl
      have hB1 := below_alloc (below_alloc (Below.refl w.heap.size w) (.cells #[.int .i64 y.x.s, .int .i64 y.x.t, .int .i64 y.x.p, .slice y.A y.x.es.length y.c] 27)) (.cells #[.int .i64 0, .int .i64 0, .int .i64 0, .slice none 0 0] 27)
      have hok1 := hok.below hB1
      go_enter Try.func25, Try.ntmps25
      go_wp2_with fail
      generalize (w.alloc (.cells #[.int .i64 y.x.s, .int .i64 y.x.t, .int .i64 y.x.p, .slice y.A y.x.es.length y.c] 27)).alloc (.cells #[.int .i64 0, .int .i64 0, .int .i64 0, .slice none 0 0] 27) = V1 at *
      obtain ⟨n3, h3⟩ : ∃ n, w.heap.size + 1 = n := ⟨_, rfl⟩
      obtain ⟨n1, h1⟩ : ∃ n, w.heap.size = n := ⟨_, rfl⟩
      rw [h3] at hZ ⊢
      rw [h1] at hP ⊢
      have hwn1 : w.heap.size ≤ n1 := by omega
      have hwn3 : w.heap.size ≤ n3 := by omega
      have hn13 : n1 < n3 := by omega
      clear h1 h3
      have hP1 := hP
      have hZ1 := hZ
      clear hP hZ hok
      obtain ⟨p0, p1, p2, p3⟩ := smIn4 hP1
      refine (CW.out _ hok1).mono ?_
      rintro r V1 ⟨A1, c1, rfl, hT1, rfl⟩
      clear CW hok1
      have CC := Lib.hid (cloneEn_any A1 c1 W V1 HWL.out hT1)
      clear hT1
      go_wp2_with fail
      refine CC.out.mono ?_
      rintro r w2 ⟨A', c', rfl, hS, hf, hb2⟩
      have hn1w : n1 < V1.heap.size := hP1.lt
      clear CC p0 p1 p2 p3
      have hP2 := hP1.below hb2
      have hZ2 := hZ1.below hb2
      have hB2 := below_then hB1 hb2
      clear hP1 hZ1 hB1 hb2
      obtain ⟨p0, p1, p2, p3⟩ := smIn4 hP2
      have pf := hP2.frozen
      have hfr1 : ∀ a, A' = some a → some a.block ≠ some n1 := fun a e e2 => by have := hf a e; have := Option.some.inj e2; omega
      have g1 := by_cell w2 n1 3 (.slice A' W.length c')
      have hS1 := SlV.keepN hS g1 (fun _ => hfr1)
      have hB3 := hB2.grown g1 hB2.size (fun k e => by have := Option.some.inj e; omega)
      have g2 := by_cell (w2.setCell ⟨n1, 3, none⟩ (.slice A' W.length c')) n1 0 (.int .i64 y.x.s)
      have hS2 := SlV.keepN hS1 g2 (fun _ => hfr1)
      have hB4 := hB3.grown g2 hB3.size (fun k e => by have := Option.some.inj e; omega)
      have g3 := by_cell ((w2.setCell ⟨n1, 3, none⟩ (.slice A' W.length c')).setCell ⟨n1, 0, none⟩ (.int .i64 y.x.s)) n1 2 (.int .i64 y.x.p)
      have hS3 := SlV.keepN hS2 g3 (fun _ => hfr1)
      have hB5 := hB4.grown g3 hB4.size (fun k e => by have := Option.some.inj e; omega)
      have hP3 := ((hP2.put ⟨A', c', ⟨y.x.s, y.x.t, y.x.p, W⟩⟩ 3 (.slice A' W.length c') rfl).put ⟨A', c', ⟨y.x.s, y.x.t, y.x.p, W⟩⟩ 0 (.int .i64 y.x.s) rfl).put ⟨A', c', ⟨y.x.s, y.x.t, y.x.p, W⟩⟩ 2 (.int .i64 y.x.p) rfl
      have hZ3 := ((hZ2.other n1 3 (.slice A' W.length c') (by omega)).other n1 0 (.int .i64 y.x.s) (by omega)).other n1 2 (.int .i64 y.x.p) (by omega)
      clear g1 g2 g3 hS hS1 hS2 hB2 hB3 hB4 hP2 hZ2 hfr1
      go_upto_region 6 with fail
      clear p0 p1 p2 p3 pf
      generalize ((w2.setCell ⟨n1, 3, none⟩ (.slice A' W.length c')).setCell ⟨n1, 0, none⟩ (.int .i64 y.x.s)).setCell ⟨n1, 2, none⟩ (.int .i64 (y.x.p)) = W9 at *
      go_wp2_with (first | (refine El.load smRow rfl _ rfl n1 0 rfl ⟨A', c', ⟨y.x.s, y.x.t, y.x.p, W⟩⟩ hP3.at #[.int .i64 y.x.s, .int .i64 y.x.t, .int .i64 y.x.p, .slice A' W.length c'] rfl ?_) | (refine El.store smRow rfl _ _ rfl n3 ⟨A', c', ⟨y.x.s, y.x.t, y.x.p, W⟩⟩ #[.int .i64 y.x.s, .int .i64 y.x.t, .int .i64 y.x.p, .slice A' W.length c'] rfl rfl rfl zeroSw hZ3 ?_) | fail)
      refine El.ret1 smRow (hZ3.set ⟨A', c', ⟨y.x.s, y.x.t, y.x.p, W⟩⟩ _ rfl) rfl rfl rfl _ rfl ?_
      exact ⟨⟨A', c', ⟨y.x.s, y.x.t, y.x.p, W⟩⟩, rfl, HV.out.symm, SlV.keepN hS3 (by_row _ n3 _) (sm_off hS3.1 hZ3), below_setRow hB5 hwn3 _⟩
    · obtain rfl : place = q := by omega
      obtain rfl : place - y.x.s = d := by omega
      clear hd
      rcases Int.lt_or_le y.x.p place with hmq | hmq
      · obtain rfl : place = P := by omega
        skip
        have CW := Lib.hid (fun (wx : World) (h : y.ok wx) => window_any y.A y.c y.x.es (place - y.x.s) wx h)
        generalize winL y.x.es (place - y.x.s) = W at *
        have hP : smE.In ((w.alloc (.cells #[.int .i64 y.x.s, .int .i64 y.x.t, .int .i64 y.x.p, .slice y.A y.x.es.length y.c] 27)).alloc (.cells #[.int .i64 0, .int .i64 0, .int .i64 0, .slice none 0 0] 27)) w.heap.size ⟨y.A, y.c, ⟨y.x.s, y.x.t, y.x.p, y.x.es⟩⟩ := (El.In.new (E := smE) w ⟨y.A, y.c, ⟨y.x.s, y.x.t, y.x.p, y.x.es⟩⟩ _ rfl).alloc _
        have hZ := two_boxes w #[.int .i64 y.x.s, .int .i64 y.x.t, .int .i64 y.x.p, .slice y.A y.x.es.length y.c] #[.int .i64 0, .int .i64 0, .int .i64 0, .slice none 0 0] zeroSw rfl
        have hB1 := below_alloc (below_alloc (Below.refl w.heap.size w) (.cells #[.int .i64 y.x.s, .int .i64 y.x.t, .int .i64 y.x.p, .slice y.A y.x.es.length y.c] 27)) (.cells #[.int .i64 0, .int .i64 0, .int .i64 0, .slice none 0 0] 27)
        have hok1 := hok.below hB1
        go_enter Try.func25, Try.ntmps25
        go_wp2_with fail
        generalize (w.alloc (.cells #[.int .i64 y.x.s, .int .i64 y.x.t, .int .i64 y.x.p, .slice y.A y.x.es.length y.c] 27)).alloc (.cells #[.int .i64 0, .int .i64 0, .int .i64 0, .slice none 0 0] 27) = V1 at *
        obtain ⟨n3, h3⟩ : ∃ n, w.heap.size + 1 = n := ⟨_, rfl⟩
        obtain ⟨n1, h1⟩ : ∃ n, w.heap.size = n := ⟨_, rfl⟩
        rw [h3] at hZ ⊢
        rw [h1] at hP ⊢
        have hwn1 : w.heap.size ≤ n1 := by omega
        have hwn3 : w.heap.size ≤ n3 := by omega
        have hn13 : n1 < n3 := by omega
        clear h1 h3
        have hP1 := hP
        have hZ1 := hZ
        clear hP hZ hok
        obtain ⟨p0, p1, p2, p3⟩ := smIn4 hP1
        refine (CW.out _ hok1).mono ?_
        rintro r V1 ⟨A1, c1, rfl, hT1, rfl⟩
        clear CW hok1
        have CC := Lib.hid (cloneEn_any A1 c1 W V1 HWL.out hT1)
        clear hT1
        go_wp2_with fail
        refine CC.out.mono ?_
        rintro r w2 ⟨A', c', rfl, hS, hf, hb2⟩
        have hn1w : n1 < V1.heap.size := hP1.lt
        clear CC p0 p1 p2 p3
        have hP2 := hP1.below hb2
        have hZ2 := hZ1.below hb2
        have hB2 := below_then hB1 hb2
        clear hP1 hZ1 hB1 hb2
        obtain ⟨p0, p1, p2, p3⟩ := smIn4 hP2
        have pf := hP2.frozen
        have hfr1 : ∀ a, A' = some a → some a.block ≠ some n1 := fun a e e2 => by have := hf a e; have := Option.some.inj e2; omega
        have g1 := by_cell w2 n1 3 (.slice A' W.length c')
        have hS1 := SlV.keepN hS g1 (fun _ => hfr1)
        have hB3 := hB2.grown g1 hB2.size (fun k e => by have := Option.some.inj e; omega)
        have g2 := by_cell (w2.setCell ⟨n1, 3, none⟩ (.slice A' W.length c')) n1 0 (.int .i64 place)
        have hS2 := SlV.keepN hS1 g2 (fun _ => hfr1)
        have hB4 := hB3.grown g2 hB3.size (fun k e => by have := Option.some.inj e; omega)
        have g3 := by_cell ((w2.setCell ⟨n1, 3, none⟩ (.slice A' W.length c')).setCell ⟨n1, 0, none⟩ (.int .i64 place)) n1 2 (.int .i64 place)
        have hS3 := SlV.keepN hS2 g3 (fun _ => hfr1)
        have hB5 := hB4.grown g3 hB4.size (fun k e => by have := Option.some.inj e; omega)
        have hP3 := ((hP2.put ⟨A', c', ⟨y.x.s, y.x.t, y.x.p, W⟩⟩ 3 (.slice A' W.length c') rfl).put ⟨A', c', ⟨place, y.x.t, y.x.p, W⟩⟩ 0 (.int .i64 place) rfl).put ⟨A', c', ⟨place, y.x.t, place, W⟩⟩ 2 (.int .i64 place) rfl
        have hZ3 := ((hZ2.other n1 3 (.slice A' W.length c') (by omega)).other n1 0 (.int .i64 place) (by omega)).other n1 2 (.int .i64 place) (by omega)
        clear g1 g2 g3 hS hS1 hS2 hB2 hB3 hB4 hP2 hZ2 hfr1
        go_upto_region 6 with fail
        clear p0 p1 p2 p3 pf
        generalize ((w2.setCell ⟨n1, 3, none⟩ (.slice A' W.length c')).setCell ⟨n1, 0, none⟩ (.int .i64 place)).setCell ⟨n1, 2, none⟩ (.int .i64 (place)) = W9 at *
        go_wp2_with (first | (refine El.load smRow rfl _ rfl n1 0 rfl ⟨A', c', ⟨place, y.x.t, place, W⟩⟩ hP3.at #[.int .i64 place, .int .i64 y.x.t, .int .i64 place, .slice A' W.length c'] rfl ?_) | (refine El.store smRow rfl _ _ rfl n3 ⟨A', c', ⟨place, y.x.t, place, W⟩⟩ #[.int .i64 place, .int .i64 y.x.t, .int .i64 place, .slice A' W.length c'] rfl rfl rfl zeroSw hZ3 ?_) | fail)
        refine El.ret1 smRow (hZ3.set ⟨A', c', ⟨place, y.x.t, place, W⟩⟩ _ rfl) rfl rfl rfl _ rfl ?_
        exact ⟨⟨A', c', ⟨place, y.x.t, place, W⟩⟩, rfl, HV.out.symm, SlV.keepN hS3 (by_row _ n3 _) (sm_off hS3.1 hZ3), below_setRow hB5 hwn3 _⟩
      · obtain rfl : y.x.p = P := by omega
        skip
        have CW := Lib.hid (fun (wx : World) (h : y.ok wx) => window_any y.A y.c y.x.es (place - y.x.s) wx h)
        generalize winL y.x.es (place - y.x.s) = W at *
        have hP : smE.In ((w.alloc (.cells #[.int .i64 y.x.s, .int .i64 y.x.t, .int .i64 y.x.p, .slice y.A y.x.es.length y.c] 27)).alloc (.cells #[.int .i64 0, .int .i64 0, .int .i64 0, .slice none 0 0] 27)) w.heap.size ⟨y.A, y.c, ⟨y.x.s, y.x.t, y.x.p, y.x.es⟩⟩ := (El.In.new (E := smE) w ⟨y.A, y.c, ⟨y.x.s, y.x.t, y.x.p, y.x.es⟩⟩ _ rfl).alloc _
        have hZ := two_boxes w #[.int .i64 y.x.s, .int .i64 y.x.t, .int .i64 y.x.p, .slice y.A y.x.es.length y.c] #[.int .i64 0, .int .i64 0, .int .i64 0, .slice none 0 0] zeroSw rfl
        have hB1 := below_alloc (below_alloc (Below.refl w.heap.size w) (.cells #[.int .i64 y.x.s, .int .i64 y.x.t, .int .i64 y.x.p, .slice y.A y.x.es.length y.c] 27)) (.cells #[.int .i64 0, .int .i64 0, .int .i64 0, .slice none 0 0] 27)
        have hok1 := hok.below hB1
        go_enter Try.func25, Try.ntmps25
        go_wp2_with fail
        generalize (w.alloc (.cells #[.int .i64 y.x.s, .int .i64 y.x.t, .int .i64 y.x.p, .slice y.A y.x.es.length y.c] 27)).alloc (.cells #[.int .i64 0, .int .i64 0, .int .i64 0, .slice none 0 0] 27) = V1 at *
        obtain ⟨n3, h3⟩ : ∃ n, w.heap.size + 1 = n := ⟨_, rfl⟩
        obtain ⟨n1, h1⟩ : ∃ n, w.heap.size = n := ⟨_, rfl⟩
        rw [h3] at hZ ⊢
        rw [h1] at hP ⊢
        have hwn1 : w.heap.size ≤ n1 := by omega
        have hwn3 : w.heap.size ≤ n3 := by omega
        have hn13 : n1 < n3 := by omega
        clear h1 h3
        have hP1 := hP
        have hZ1 := hZ
        clear hP hZ hok
        obtain ⟨p0, p1, p2, p3⟩ := smIn4 hP1
        refine (CW.out _ hok1).mono ?_
        rintro r V1 ⟨A1, c1, rfl, hT1, rfl⟩
        clear CW hok1
        have CC := Lib.hid (cloneEn_any A1 c1 W V1 HWL.out hT1)
        clear hT1
        go_wp2_with fail
        refine CC.out.mono ?_
        rintro r w2 ⟨A', c', rfl, hS, hf, hb2⟩
        have hn1w : n1 < V1.heap.size := hP1.lt
        clear CC p0 p1 p2 p3
        have hP2 := hP1.below hb2
        have hZ2 := hZ1.below hb2
        have hB2 := below_then hB1 hb2
        clear hP1 hZ1 hB1 hb2
        obtain ⟨p0, p1, p2, p3⟩ := smIn4 hP2
        have pf := hP2.frozen
        have hfr1 : ∀ a, A' = some a → some a.block ≠ some n1 := fun a e e2 => by have := hf a e; have := Option.some.inj e2; omega
        have g1 := by_cell w2 n1 3 (.slice A' W.length c')
        have hS1 := SlV.keepN hS g1 (fun _ => hfr1)
        have hB3 := hB2.grown g1 hB2.size (fun k e => by have := Option.some.inj e; omega)
        have g2 := by_cell (w2.setCell ⟨n1, 3, none⟩ (.slice A' W.length c')) n1 0 (.int .i64 place)
        have hS2 := SlV.keepN hS1 g2 (fun _ => hfr1)
        have hB4 := hB3.grown g2 hB3.size (fun k e => by have := Option.some.inj e; omega)
        have g3 := by_cell ((w2.setCell ⟨n1, 3, none⟩ (.slice A' W.length c')).setCell ⟨n1, 0, none⟩ (.int .i64 place)) n1 2 (.int .i64 y.x.p)
        have hS3 := SlV.keepN hS2 g3 (fun _ => hfr1)
        have hB5 := hB4.grown g3 hB4.size (fun k e => by have := Option.some.inj e; omega)
        have hP3 := ((hP2.put ⟨A', c', ⟨y.x.s, y.x.t, y.x.p, W⟩⟩ 3 (.slice A' W.length c') rfl).put ⟨A', c', ⟨place, y.x.t, y.x.p, W⟩⟩ 0 (.int .i64 place) rfl).put ⟨A', c', ⟨place, y.x.t, y.x.p, W⟩⟩ 2 (.int .i64 y.x.p) rfl
        have hZ3 := ((hZ2.other n1 3 (.slice A' W.length c') (by omega)).other n1 0 (.int .i64 place) (by omega)).other n1 2 (.int .i64 y.x.p) (by omega)
        clear g1 g2 g3 hS hS1 hS2 hB2 hB3 hB4 hP2 hZ2 hfr1
        go_upto_region 6 with fail
        clear p0 p1 p2 p3 pf
        generalize ((w2.setCell ⟨n1, 3, none⟩ (.slice A' W.length c')).setCell ⟨n1, 0, none⟩ (.int .i64 place)).setCell ⟨n1, 2, none⟩ (.int .i64 (y.x.p)) = W9 at *
        go_wp2_with (first | (refine El.load smRow rfl _ rfl n1 0 rfl ⟨A', c', ⟨place, y.x.t, y.x.p, W⟩⟩ hP3.at #[.int .i64 place, .int .i64 y.x.t, .int .i64 y.x.p, .slice A' W.length c'] rfl ?_) | (refine El.store smRow rfl _ _ rfl n3 ⟨A', c', ⟨place, y.x.t, y.x.p, W⟩⟩ #[.int .i64 place, .int .i64 y.x.t, .int .i64 y.x.p, .slice A' W.length c'] rfl rfl rfl zeroSw hZ3 ?_) | fail)
        refine El.ret1 smRow (hZ3.set ⟨A', c', ⟨place, y.x.t, y.x.p, W⟩⟩ _ rfl) rfl rfl rfl _ rfl ?_
        exact ⟨⟨A', c', ⟨place, y.x.t, y.x.p, W⟩⟩, rfl, HV.out.symm, SlV.keepN hS3 (by_row _ n3 _) (sm_off hS3.1 hZ3), below_setRow hB5 hwn3 _⟩
end Go.Proofs.Ytbfebcifmneliaa

/- The program's streams: From, Lowest, Right. -/
namespace Go.Proofs.Ytbfebcifmneliaa
open Go.RowKit Nam Cod

theorem SlV.upTo {w : World} {A : Option Addr} {c : Nat} {l : List En} {m : Nat} (h : SlV enE w A c l) (hm : m ≤ l.length) : SlV enE w A c (l.take m) := ⟨h.1.take m, h.2.1, by rw [List.length_take]; have := h.2.2; omega⟩
theorem fromS_win {x : Sm} (place most : Int) : fromS x place most = (winL x.es (max place x.s - x.s)).take most.toNat := by
  unfold fromS winL
  by_cases c : (x.es.length : Int) < max place x.s - x.s
  · rw [if_pos (Or.inr c), List.drop_eq_nil_of_le (by omega)]
  · rw [if_neg (by omega)]
set_option maxRecDepth 100000 in
set_option maxHeartbeats 4000000 in
theorem smFrom_any (y : Sw) (place most : Int) (w : World) (hn : SmN y.x) (hpl : -1000000000000000 ≤ place ∧ place ≤ 1000000000000000) (hok : y.ok w) :
    Calls Try.prog 14 #[.agg #[.int .i64 y.x.s, .int .i64 y.x.t, .int .i64 y.x.p, .slice y.A y.x.es.length y.c], .int .i64 place, .int .i64 most] w fun r w' => ∃ (A : Option Addr) (c : Nat), r = .returned (.tuple #[.int .i64 (fromP y.x place), .slice A (fromS y.x place most).length c]) ∧ SlV enE w' A c (fromS y.x place most) ∧ Below w.heap.size w w' := by
  have hs := hn.s
  have HWL := Lib.hid (show (winL y.x.es (max place y.x.s - y.x.s)).length ≤ 50000 from Nat.le_trans (winL_le _ _) hn.l)
  have hv := fromS_win (x := y.x) place most
  clear hn
  obtain ⟨q, hq⟩ : ∃ q, max place y.x.s = q := ⟨_, rfl⟩
  obtain ⟨d, hd⟩ : ∃ d, q - y.x.s = d := ⟨_, rfl⟩
  rw [hq, hd] at HWL hv
  have HF := Lib.hid (show fromS y.x place most = (winL y.x.es d).take most.toNat ∧ fromP y.x place = q + 1 from ⟨hv, by unfold fromP; rw [hq]⟩)
  have f1 : IntKind.i64.wrap (q - y.x.s) = d := by rw [IntKind.wrap_i64]; omega
  clear hv
  rcases Int.lt_or_le place y.x.s with hmp | hmp
  · obtain rfl : y.x.s = q := by omega
    obtain rfl : 0 = d := by omega
    clear hd f1
    have CW := Lib.hid (fun (wx : World) (h : y.ok wx) => window_any y.A y.c y.x.es (0) wx h)
    generalize winL y.x.es (0) = W at *
    have hB1 := below_alloc (Below.refl w.heap.size w) (.cells #[.int .i64 y.x.s, .int .i64 y.x.t, .int .i64 y.x.p, .slice y.A y.x.es.length y.c] 27)
    have hok1 := hok.below hB1
    have hP : smE.In (w.alloc (.cells #[.int .i64 y.x.s, .int .i64 y.x.t, .int .i64 y.x.p, .slice y.A y.x.es.length y.c] 27)) w.heap.size y := El.In.new (E := smE) w y _ rfl
    have f2 : IntKind.i64.wrap (y.x.s + 1) = y.x.s + 1 := by rw [IntKind.wrap_i64]; omega
    clear hok
    go_enter Try.func14, Try.ntmps14
    go_wp2_with fail
    refine (CW.out _ hok1).mono ?_
    clear hok1 CW
    generalize w.alloc (.cells #[.int .i64 y.x.s, .int .i64 y.x.t, .int .i64 y.x.p, .slice y.A y.x.es.length y.c] 27) = V1 at *
    rintro r V1 ⟨A1, c1, rfl, hT1, rfl⟩
    have hlc := hT1.2.2
    rcases Int.lt_or_le most 0 with hm | hm
    · have hz : (0 : Int) ≤ (W.length : Int) := by omega
      have hz2 : (0 : Int) ≤ (c1 : Int) := by omega
      have m1 : max most 0 = 0 := by omega
      have m2 : min (0 : Int) (W.length : Int) = 0 := by omega
      obtain ⟨X, hX⟩ : ∃ X, W.take (0) = X := ⟨_, rfl⟩
      have hXl : X.length = 0 := by rw [← hX, List.length_take]; omega
      have hcut := hT1.upTo (m := 0) (by omega)
      rw [hX] at hcut
      have CC := cloneEn_any A1 c1 X V1 (by have := HWL.out; omega) hcut
      rw [hXl] at CC
      have HXL := Lib.hid hXl
      have HX := Lib.hid hX
      clear hXl hcut hT1 hX
      go_wp2_with fail
      refine CC.mono ?_
      rintro r w2 ⟨A', c', rfl, hS, _, hb2⟩
      replace hB1 := below_then hB1 hb2
      have HV := Lib.hid (show fromS y.x place (most) = X by rw [HF.out.1, ← HX.out, show most.toNat = 0 by omega])
      clear CC hb2
      go_wp2_with fail
      refine bodyPost_ret (results_tmp2 rfl _ _ _) rfl ?_
      exact ⟨A', c', by rw [HF.out.2, HV.out, HXL.out]; rfl, by rw [HV.out]; exact hS, hB1⟩
    · obtain ⟨M, rfl⟩ : ∃ M : Nat, most = M := ⟨most.toNat, by omega⟩
      have hM0 : (0 : Int) ≤ (M : Int) := hm
      rcases Nat.lt_or_ge W.length M with hW | hW
      · have hW2 : (W.length : Int) < (M : Int) := by omega
        have hW3 : (W.length : Int) ≤ (c1 : Int) := by omega
        have m1 : max (M : Int) 0 = (M : Int) := by omega
        have m2 : min (M : Int) (W.length : Int) = (W.length : Int) := by omega
        obtain ⟨X, hX⟩ : ∃ X, W.take (W.length) = X := ⟨_, rfl⟩
        have hXl : X.length = W.length := by rw [← hX, List.length_take]; omega
        have hcut := hT1.upTo (m := W.length) (by omega)
        rw [hX] at hcut
        have CC := cloneEn_any A1 c1 X V1 (by have := HWL.out; omega) hcut
        rw [hXl] at CC
        have HXL := Lib.hid hXl
        have HX := Lib.hid hX
        clear hXl hcut hT1 hX
        go_wp2_with fail
        refine CC.mono ?_
        rintro r w2 ⟨A', c', rfl, hS, _, hb2⟩
        replace hB1 := below_then hB1 hb2
        have HV := Lib.hid (show fromS y.x place (M) = X by rw [HF.out.1, ← HX.out, List.take_length, show (M : Int).toNat = M from rfl, List.take_of_length_le (Nat.le_of_lt hW)])
        clear CC hb2
        go_wp2_with fail
        refine bodyPost_ret (results_tmp2 rfl _ _ _) rfl ?_
        exact ⟨A', c', by rw [HF.out.2, HV.out, HXL.out]; rfl, by rw [HV.out]; exact hS, hB1⟩
      · have hW2 : (M : Int) ≤ (W.length : Int) := by omega
        have hW3 : (M : Int) ≤ (c1 : Int) := by omega
        have m1 : max (M : Int) 0 = (M : Int) := by omega
        have m2 : min (M : Int) (W.length : Int) = (M : Int) := by omega
        obtain ⟨X, hX⟩ : ∃ X, W.take (M) = X := ⟨_, rfl⟩
        have hXl : X.length = M := by rw [← hX, List.length_take]; omega
        have hcut := hT1.upTo (m := M) (by omega)
        rw [hX] at hcut
        have CC := cloneEn_any A1 c1 X V1 (by have := HWL.out; omega) hcut
        rw [hXl] at CC
        have HXL := Lib.hid hXl
        have HX := Lib.hid hX
        clear hXl hcut hT1 hX
        go_wp2_with fail
        refine CC.mono ?_
        rintro r w2 ⟨A', c', rfl, hS, _, hb2⟩
        replace hB1 := below_then hB1 hb2
        have HV := Lib.hid (show fromS y.x place (M) = X by rw [HF.out.1, ← HX.out, show (M : Int).toNat = M from rfl])
        clear CC hb2
        go_wp2_with fail
        refine bodyPost_ret (results_tmp2 rfl _ _ _) rfl ?_
        exact ⟨A', c', by rw [HF.out.2, HV.out, HXL.out]; rfl, by rw [HV.out]; exact hS, hB1⟩
  · obtain rfl : place = q := by omega
    obtain rfl : place - y.x.s = d := by omega
    clear hd
    have CW := Lib.hid (fun (wx : World) (h : y.ok wx) => window_any y.A y.c y.x.es (place - y.x.s) wx h)
    generalize winL y.x.es (place - y.x.s) = W at *
    have hB1 := below_alloc (Below.refl w.heap.size w) (.cells #[.int .i64 y.x.s, .int .i64 y.x.t, .int .i64 y.x.p, .slice y.A y.x.es.length y.c] 27)
    have hok1 := hok.below hB1
    have hP : smE.In (w.alloc (.cells #[.int .i64 y.x.s, .int .i64 y.x.t, .int .i64 y.x.p, .slice y.A y.x.es.length y.c] 27)) w.heap.size y := El.In.new (E := smE) w y _ rfl
    have f2 : IntKind.i64.wrap (place + 1) = place + 1 := by rw [IntKind.wrap_i64]; omega
    clear hok
    go_enter Try.func14, Try.ntmps14
    go_wp2_with fail
    refine (CW.out _ hok1).mono ?_
    clear hok1 CW
    generalize w.alloc (.cells #[.int .i64 y.x.s, .int .i64 y.x.t, .int .i64 y.x.p, .slice y.A y.x.es.length y.c] 27) = V1 at *
    rintro r V1 ⟨A1, c1, rfl, hT1, rfl⟩
    have hlc := hT1.2.2
    rcases Int.lt_or_le most 0 with hm | hm
    · have hz : (0 : Int) ≤ (W.length : Int) := by omega
      have hz2 : (0 : Int) ≤ (c1 : Int) := by omega
      have m1 : max most 0 = 0 := by omega
      have m2 : min (0 : Int) (W.length : Int) = 0 := by omega
      obtain ⟨X, hX⟩ : ∃ X, W.take (0) = X := ⟨_, rfl⟩
      have hXl : X.length = 0 := by rw [← hX, List.length_take]; omega
      have hcut := hT1.upTo (m := 0) (by omega)
      rw [hX] at hcut
      have CC := cloneEn_any A1 c1 X V1 (by have := HWL.out; omega) hcut
      rw [hXl] at CC
      have HXL := Lib.hid hXl
      have HX := Lib.hid hX
      clear hXl hcut hT1 hX
      go_wp2_with fail
      refine CC.mono ?_
      rintro r w2 ⟨A', c', rfl, hS, _, hb2⟩
      replace hB1 := below_then hB1 hb2
      have HV := Lib.hid (show fromS y.x place (most) = X by rw [HF.out.1, ← HX.out, show most.toNat = 0 by omega])
      clear CC hb2
      go_wp2_with fail
      refine bodyPost_ret (results_tmp2 rfl _ _ _) rfl ?_
      exact ⟨A', c', by rw [HF.out.2, HV.out, HXL.out]; rfl, by rw [HV.out]; exact hS, hB1⟩
    · obtain ⟨M, rfl⟩ : ∃ M : Nat, most = M := ⟨most.toNat, by omega⟩
      have hM0 : (0 : Int) ≤ (M : Int) := hm
      rcases Nat.lt_or_ge W.length M with hW | hW
      · have hW2 : (W.length : Int) < (M : Int) := by omega
        have hW3 : (W.length : Int) ≤ (c1 : Int) := by omega
        have m1 : max (M : Int) 0 = (M : Int) := by omega
        have m2 : min (M : Int) (W.length : Int) = (W.length : Int) := by omega
        obtain ⟨X, hX⟩ : ∃ X, W.take (W.length) = X := ⟨_, rfl⟩
        have hXl : X.length = W.length := by rw [← hX, List.length_take]; omega
        have hcut := hT1.upTo (m := W.length) (by omega)
        rw [hX] at hcut
        have CC := cloneEn_any A1 c1 X V1 (by have := HWL.out; omega) hcut
        rw [hXl] at CC
        have HXL := Lib.hid hXl
        have HX := Lib.hid hX
        clear hXl hcut hT1 hX
        go_wp2_with fail
        refine CC.mono ?_
        rintro r w2 ⟨A', c', rfl, hS, _, hb2⟩
        replace hB1 := below_then hB1 hb2
        have HV := Lib.hid (show fromS y.x place (M) = X by rw [HF.out.1, ← HX.out, List.take_length, show (M : Int).toNat = M from rfl, List.take_of_length_le (Nat.le_of_lt hW)])
        clear CC hb2
        go_wp2_with fail
        refine bodyPost_ret (results_tmp2 rfl _ _ _) rfl ?_
        exact ⟨A', c', by rw [HF.out.2, HV.out, HXL.out]; rfl, by rw [HV.out]; exact hS, hB1⟩
      · have hW2 : (M : Int) ≤ (W.length : Int) := by omega
        have hW3 : (M : Int) ≤ (c1 : Int) := by omega
        have m1 : max (M : Int) 0 = (M : Int) := by omega
        have m2 : min (M : Int) (W.length : Int) = (M : Int) := by omega
        obtain ⟨X, hX⟩ : ∃ X, W.take (M) = X := ⟨_, rfl⟩
        have hXl : X.length = M := by rw [← hX, List.length_take]; omega
        have hcut := hT1.upTo (m := M) (by omega)
        rw [hX] at hcut
        have CC := cloneEn_any A1 c1 X V1 (by have := HWL.out; omega) hcut
        rw [hXl] at CC
        have HXL := Lib.hid hXl
        have HX := Lib.hid hX
        clear hXl hcut hT1 hX
        go_wp2_with fail
        refine CC.mono ?_
        rintro r w2 ⟨A', c', rfl, hS, _, hb2⟩
        replace hB1 := below_then hB1 hb2
        have HV := Lib.hid (show fromS y.x place (M) = X by rw [HF.out.1, ← HX.out, show (M : Int).toNat = M from rfl])
        clear CC hb2
        go_wp2_with fail
        refine bodyPost_ret (results_tmp2 rfl _ _ _) rfl ?_
        exact ⟨A', c', by rw [HF.out.2, HV.out, HXL.out]; rfl, by rw [HV.out]; exact hS, hB1⟩
end Go.Proofs.Ytbfebcifmneliaa

/- The program's streams: Lowest, Right. -/
namespace Go.Proofs.Ytbfebcifmneliaa
open Go.RowKit Nam Cod

set_option maxRecDepth 100000 in
set_option maxHeartbeats 2000000 in
theorem smLowest_any (y : Sw) (w : World) (hy : y.ok w) (hl : y.x.es.length ≤ 100000) : Calls Try.prog 18 #[.agg #[.int .i64 y.x.s, .int .i64 y.x.t, .int .i64 y.x.p, .slice y.A y.x.es.length y.c]] w fun r w' => r = .returned (.int .i64 (lowS y.x)) ∧ Below w.heap.size w w' := by
  have hP : smE.In (w.alloc (.cells #[.int .i64 y.x.s, .int .i64 y.x.t, .int .i64 y.x.p, .slice y.A y.x.es.length y.c] 27)) w.heap.size y := El.In.new (E := smE) w y _ rfl
  have hB := below_alloc (Below.refl w.heap.size w) (.cells #[.int .i64 y.x.s, .int .i64 y.x.t, .int .i64 y.x.p, .slice y.A y.x.es.length y.c] 27)
  have HY := Lib.hid hy
  obtain ⟨p0, p1, p2, p3⟩ := smIn4 hP
  go_enter Try.func18, Try.ntmps18
  go_wp2_with fail
  clear p0 p1 p2 p3 hy hP
  generalize w.alloc (.cells #[.int .i64 y.x.s, .int .i64 y.x.t, .int .i64 y.x.p, .slice y.A y.x.es.length y.c] 27) = W0 at *
  go_loopw [3, 9] (fun v i wr => ∃ k : Nat, k ≤ y.x.es.length ∧ i = .int .i64 k ∧ v = .int .i64 ((y.x.es.take k).foldl lowF 1099511627777) ∧ Below w.heap.size w wr) (fun _ i _ => y.x.es.length - (intOf i).toNat)
  case atStart => exact ⟨0, Nat.zero_le _, rfl, rfl, hB⟩
  case round =>
    clear hB
    obtain ⟨k, hk, rfl, rfl, hB⟩ := hrel
    by_cases hkl : k < y.x.es.length
    · obtain ⟨b, off, eA, hbw, hc⟩ := HY.out.1 (by omega)
      have hx := enIdxH (cap := y.c) eA hkl
      have hat : enE.At wr b (off + k * 10) y.x.es[k] := (hc k hkl).below hB hbw
      have hn : (y.x.es.take (k + 1)).foldl lowF 1099511627777 = lowF ((y.x.es.take k).foldl lowF 1099511627777) y.x.es[k] := by
        rw [List.take_succ_eq_append_getElem hkl, List.foldl_append]; rfl
      generalize y.x.es[k] = x at *
      generalize (y.x.es.take k).foldl lowF 1099511627777 = m at *
      have HN := Lib.hid hn
      replace hB := below_alloc hB (.cells #[.int .i64 x.k, .int .i64 x.d, .int .i64 x.i, .int .i64 x.o.C, .int .i64 x.o.D, .int .i64 x.o.I, .int .i64 x.o.M, .int .i64 x.o.K, .int .i64 x.o.U, .string x.o.s] 37)
      clear hc eA hn
      by_cases h1 : x.k = 1
      · have e1 : (x.k == 1) = true := beq_iff_eq.2 h1
        have hv : lowF m x = min m x.o.C := by unfold lowF; rw [if_pos h1]
        have HV := Lib.hid hv
        clear hv h1
        rcases Int.lt_or_le x.o.C m with hmd | hmd
        · have hmm : min m x.o.C = x.o.C := by omega
          go_wp2_with (first | (refine El.load enRow rfl _ rfl b (off + k * 10) rfl x hat #[.int .i64 x.k, .int .i64 x.d, .int .i64 x.i, .int .i64 x.o.C, .int .i64 x.o.D, .int .i64 x.o.I, .int .i64 x.o.M, .int .i64 x.o.K, .int .i64 x.o.U, .string x.o.s] rfl ?_) | fail)
          exact ⟨⟨k + 1, by omega, by go_num, by rw [HN.out, HV.out, show min m x.o.C = x.o.C by omega], hB⟩, by simp [intOf]; omega⟩
        · have hmm : min m x.o.C = m := by omega
          go_wp2_with (first | (refine El.load enRow rfl _ rfl b (off + k * 10) rfl x hat #[.int .i64 x.k, .int .i64 x.d, .int .i64 x.i, .int .i64 x.o.C, .int .i64 x.o.D, .int .i64 x.o.I, .int .i64 x.o.M, .int .i64 x.o.K, .int .i64 x.o.U, .string x.o.s] rfl ?_) | fail)
          exact ⟨⟨k + 1, by omega, by go_num, by rw [HN.out, HV.out, show min m x.o.C = m by omega], hB⟩, by simp [intOf]; omega⟩
      · have e1 : (x.k == 1) = false := beq_eq_false_iff_ne.2 h1
        have hv : lowF m x = m := by unfold lowF; rw [if_neg h1]
        have HV := Lib.hid hv
        clear hv h1
        go_wp2_with (first | (refine El.load enRow rfl _ rfl b (off + k * 10) rfl x hat #[.int .i64 x.k, .int .i64 x.d, .int .i64 x.i, .int .i64 x.o.C, .int .i64 x.o.D, .int .i64 x.o.I, .int .i64 x.o.M, .int .i64 x.o.K, .int .i64 x.o.U, .string x.o.s] rfl ?_) | fail)
        exact ⟨⟨k + 1, by omega, by go_num, by rw [HN.out, HV.out], hB⟩, by simp [intOf]; omega⟩
    · obtain rfl : k = y.x.es.length := by omega
      have hv : (y.x.es.take y.x.es.length).foldl lowF 1099511627777 = lowS y.x := by rw [List.take_length]; rfl
      rw [hv]
      clear hv
      go_wp2_with fail
      go_ret
      exact ⟨rfl, hB⟩

set_option maxRecDepth 100000 in
set_option maxHeartbeats 2000000 in
theorem smRight_yes (y : Sw) (w : World) (hn : SmN y.x) (hR : SmR y.x) (hy : y.ok w) (hw : ∀ e ∈ y.x.es, EnW e ∧ e.o.s.size ≤ 1000000) : Calls Try.prog 20 #[.agg #[.int .i64 y.x.s, .int .i64 y.x.t, .int .i64 y.x.p, .slice y.A y.x.es.length y.c]] w fun r w' => r = .returned (.bool true) ∧ Below w.heap.size w w' := by
  have hP : smE.In (w.alloc (.cells #[.int .i64 y.x.s, .int .i64 y.x.t, .int .i64 y.x.p, .slice y.A y.x.es.length y.c] 27)) w.heap.size y := El.In.new (E := smE) w y _ rfl
  have hB := below_alloc (Below.refl w.heap.size w) (.cells #[.int .i64 y.x.s, .int .i64 y.x.t, .int .i64 y.x.p, .slice y.A y.x.es.length y.c] 27)
  replace hy := hy.below hB
  have h0 := hR.s0
  have h1 := hR.t0
  have h2 := hR.tm
  have h3 := hR.sp
  have h4 := hR.pm
  have h5 := hR.len
  have C1 := Lib.hid (fun (wx : World) => rightCount_yes y.x.s wx (by omega))
  have C2 := Lib.hid (fun (wx : World) => rightCount_yes y.x.t wx (by omega))
  have C3 := Lib.hid (fun (wx : World) => rightCount_yes y.x.p wx (by omega))
  have C4 := Lib.hid (fun (wx : World) (hT : y.ok wx) => rightEntries_yes y.A y.c y.x.es wx hT.1 (by have := hn.l; omega) hR.ok (fun e he => (hw e he).2))
  have f1 : IntKind.i64.wrap (y.x.p - y.x.s) = y.x.p - y.x.s := by rw [IntKind.wrap_i64]; omega
  have f2 : ((y.x.es.length : Int) == y.x.p - y.x.s) = true := beq_iff_eq.2 h5
  obtain ⟨p0, p1, p2, p3⟩ := smIn4 hP
  clear h0 h1 h2 h3 h4 h5 hn hR hw
  go_enter Try.func20, Try.ntmps20
  go_wp2_with (first | ((with_reducible first | refine (C1.out _).mono ?_ | refine (C2.out _).mono ?_ | refine (C3.out _).mono ?_); rintro r w1 ⟨rfl, rfl⟩) | fail)
  refine (C4.out _ hy).mono ?_
  rintro r w2 ⟨rfl, hb2⟩
  go_wp2_with fail
  go_ret
  exact ⟨rfl, below_then hB hb2⟩
end Go.Proofs.Ytbfebcifmneliaa

/- What may be a tree: of the program. -/
namespace Go.Proofs.Ytbfebcifmneliaa
open Go.RowKit Tre Nam Cod

theorem okPl_five {n u : Int} {P : Prop} (h1 : ¬ 2 ≤ n → P) (h2 : 2 ≤ n → ¬ n < 64 → P) (h3 : 2 ≤ n → n < 64 → ¬ 0 ≤ u → P) (h4 : 2 ≤ n → n < 64 → 0 ≤ u → ¬ u < 64 → P) (h5 : 2 ≤ n → n < 64 → 0 ≤ u → u < 64 → P) : P := by
  by_cases a : 2 ≤ n
  · by_cases b : n < 64
    · by_cases c : 0 ≤ u
      · by_cases d : u < 64
        · exact h5 a b c d
        · exact h4 a b c d
      · exact h3 a b c
    · exact h2 a b
  · exact h1 a
theorem okPl_false {p : Pl} (h : ¬ (2 ≤ p.n ∧ p.n < 64 ∧ 0 ≤ p.u ∧ p.u < 64)) : okPl p = false := by
  unfold okPl; rw [decide_eq_false h]; rfl
theorem okPl_name {p : Pl} (h : 2 ≤ p.n ∧ p.n < 64 ∧ 0 ≤ p.u ∧ p.u < 64) : okPl p = isName (L p.s) := by
  unfold okPl; rw [decide_eq_true h]; rfl

/-- The places ahead of i may be, and rise. -/
def GoodTo (l : List Pl) (i : Nat) : Prop := ∀ k (h : k < l.length), k < i → okPl l[k] = true ∧ ∀ (h0 : 0 < k), (l[k - 1]'(by omega)).n < l[k].n
theorem goodTo_next {l : List Pl} {i : Nat} (h : GoodTo l i) (hi : i < l.length) (h1 : okPl l[i] = true) (h2 : ∀ (h0 : 0 < i), (l[i - 1]'(by omega)).n < l[i].n) : GoodTo l (i + 1) := by
  intro k hk hlt
  by_cases e : k = i
  · subst e; exact ⟨h1, h2⟩
  · exact h k hk (by omega)
theorem rising_of : ∀ {l : List Pl}, (∀ k (h : k < l.length) (h0 : 0 < k), (l[k - 1]'(by omega)).n < l[k].n) → rising l = true
  | [], _ => rfl
  | [_], _ => rfl
  | p :: q :: l, h => by
    unfold rising
    rw [Bool.and_eq_true, decide_eq_true_iff]
    refine ⟨h 1 (by simp) (by omega), rising_of (l := q :: l) fun k hk h0 => ?_⟩
    have := h (k + 1) (by simpa using hk) (by omega)
    obtain ⟨m, rfl⟩ : ∃ m, k = m + 1 := ⟨k - 1, by omega⟩
    simpa using this
def riseB (l : List Pl) : Bool := l.all okPl && rising l
theorem goodTo_all {l : List Pl} (h : GoodTo l l.length) : riseB l = true := by
  unfold riseB
  rw [Bool.and_eq_true, List.all_eq_true]
  refine ⟨fun p hp => ?_, rising_of fun k hk h0 => (h k hk hk).2 h0⟩
  obtain ⟨k, hk, rfl⟩ := List.getElem_of_mem hp
  exact (h k hk hk).1
theorem goodTo_back {l : List Pl} (h : riseB l = true) : (∀ k (h : k < l.length), okPl l[k] = true) ∧ Sorted l := by
  unfold riseB at h
  rw [Bool.and_eq_true, List.all_eq_true] at h
  exact ⟨fun k hk => h.1 _ (List.getElem_mem hk), rising_sorted h.2⟩
theorem goodTo_bad {l : List Pl} {i : Nat} (hi : i < l.length) (h : ¬ (okPl l[i] = true ∧ ∀ (h0 : 0 < i), (l[i - 1]'(by omega)).n < l[i].n)) : riseB l = false := by
  rcases e : riseB l with _ | _
  · rfl
  · obtain ⟨h1, h2⟩ := goodTo_back e
    exact absurd ⟨h1 i hi, fun h0 => h2 _ _ (by omega) hi (by omega)⟩ h

end Go.Proofs.Ytbfebcifmneliaa

/- What may be a tree: Right of both. -/
namespace Go.Proofs.Ytbfebcifmneliaa
open Go.RowKit Tre Nam Cod

def ringless (l : List Pl) : Bool := l.all fun p => !above l p.n p.u
theorem treeB_two (l : List Pl) : treeB l = (riseB l && ringless l) := by unfold treeB riseB ringless; rw [Bool.and_assoc]
def FreeTo (l : List Pl) (i : Nat) : Prop := ∀ k (h : k < l.length), k < i → above l l[k].n l[k].u = false
theorem free_next {l : List Pl} {i : Nat} (h : FreeTo l i) (hi : i < l.length) (h1 : above l l[i].n l[i].u = false) : FreeTo l (i + 1) := by
  intro k hk hlt
  by_cases e : k = i
  · subst e; exact h1
  · exact h k hk (by omega)
theorem free_all {l : List Pl} (h : FreeTo l l.length) : ringless l = true := by
  unfold ringless
  rw [List.all_eq_true]
  intro p hp
  obtain ⟨k, hk, rfl⟩ := List.getElem_of_mem hp
  rw [h k hk hk]; rfl
theorem free_bad {l : List Pl} {i : Nat} (hi : i < l.length) (h : above l l[i].n l[i].u = true) : ringless l = false := by
  rcases e : ringless l with _ | _
  · rfl
  · unfold ringless at e
    rw [List.all_eq_true] at e
    have := e _ (List.getElem_mem hi)
    rw [h] at this; exact this.symm

end Go.Proofs.Ytbfebcifmneliaa

/- The library's contract of Builder.String, laid at this program's numbers. -/
namespace Go.Proofs.Ytbfebcifmneliaa
open Go.Shelf
def lays169_ren : Go.Shelf.Ren := ⟨fun | 169 => 36 | n => n, fun | 70 => 61 | 9 => 9 | 0 => 0 | 72 => 64 | 37 => 62 | 127 => 80 | 3 => 3 | 5 => 5 | n => n, fun | n => n⟩
theorem lays169 : Go.Proofs.Lays.n169 Try.prog lays169_ren := {
  mixed := by kernel_rfl
  f169 := Try.func36.trans (congrArg some (by kernel_rfl))
  t0 := Try.underlying0
  a0 := Try.isAgg0
  z0 := Try.sizeOf0
  v0 := Try.zeroValue0
  t3 := Try.underlying3
  a3 := Try.isAgg3
  z3 := Try.sizeOf3
  v3 := Try.zeroValue3
  t9 := Try.underlying9
  a9 := Try.isAgg9
  z9 := Try.sizeOf9
  v9 := Try.zeroValue9
  t37 := Try.underlying62
  a37 := Try.isAgg62
  z37 := Try.sizeOf62
  v37 := Try.zeroValue62
  t70 := Try.underlying61
  a70 := Try.isAgg61
  z70 := Try.sizeOf61
  v70 := Try.zeroValue61
  t72 := Try.underlying64
  a72 := Try.isAgg64
  z72 := Try.sizeOf64
  v72 := Try.zeroValue64
  t127 := Try.underlying80
  a127 := Try.isAgg80
  z127 := Try.sizeOf80
  v127 := Try.zeroValue80 }
theorem builder_Extra_169 : Builder.Extra Try.prog lays169_ren := {
  sizeBuilder := by kernel_rfl
  liesBuilder := by kernel_rfl
  t5 := Try.underlying5
  a5 := Try.isAgg5
  z5 := Try.sizeOf5
  v5 := Try.zeroValue5
  infoByte := by kernel_rfl
  cellsByte := by kernel_rfl
  sizeByte := by kernel_rfl
  neB5 := by decide }
open Go.RowKit in
theorem builder_String_any (B b : Nat) (l : List UInt8) (w : World) (h : Lib.IsBuilder 64 5 B b (Lib.byteCells l) w) (hBw : B ≤ w.heap.size) :
    Calls Try.prog 36 #[.pointer (some ⟨b, 0, none⟩)] w fun e w' => e = .returned (.string ⟨l.toArray⟩) ∧ Below B w w' := Any.Builder_String_any lays169 builder_Extra_169 B b l w h hBw
end Go.Proofs.Ytbfebcifmneliaa
