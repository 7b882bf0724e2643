/- What may be a tree: of the document. -/
import Derived.Test.YtfhonobaddkmhaaTd
namespace Go.Proofs.Ytfhonobaddkmhaa
open Go.RowKit Tre Nam Cod

set_option maxRecDepth 100000 in
set_option maxHeartbeats 4000000 in
theorem refRight_any (A : Option Addr) (cap : Nat) (l : List Pl) (w : World) (hl : l.length ≤ 1000) (hsz : ∀ p ∈ l, p.s.size ≤ 9223372036854775807) (hT : Tr w A l) :
    Calls Try.prog 10 #[.slice A l.length cap] w fun e w' => e = .returned (.bool (treeB l)) ∧ Below w.heap.size w w' := by
  have HZ := Lib.hid hsz
  have HT2 := Lib.hid (treeB_two l)
  clear hsz
  go_enter Try.func10, Try.ntmps10
  go_wp2
  go_loopw [3] (fun x wr => ∃ k : Nat, k ≤ l.length ∧ x = .int .i64 k ∧ GoodTo l k ∧ Below w.heap.size w wr) (fun x _ => l.length - (intOf x).toNat)
  case atStart => exact ⟨0, Nat.zero_le _, rfl, fun k h hk => by omega, Below.refl _ _⟩
  case round =>
    obtain ⟨k, hk, rfl, hgd, hnx⟩ := hrel
    by_cases hlt : k < l.length
    · obtain ⟨bb, off, hAe, hbw, hc⟩ := hT (by omega)
      have hbr := Nat.lt_of_lt_of_le hbw hnx.size
      have hat := (hc k hlt).below hnx hbw
      obtain ⟨p, hp⟩ : ∃ p, l[k] = p := ⟨_, rfl⟩
      have c := fun w => (nmRefRight_any p.s w (HZ.out p (hp ▸ List.getElem_mem hlt))).mono (fun e w' (h : _ ∧ w = w') => (⟨h.1, h.2 ▸ Below.refl _ _⟩ : e = .returned (.bool (isName (L p.s))) ∧ Below w.heap.size w w'))
      have hbad := goodTo_bad hlt
      have hnext := goodTo_next hgd hlt
      rw [hp] at hat hbad hnext
      have hprev : ∀ h0 : 0 < k, AtPl wr bb (off + (k - 1) * 3) (l[k - 1]'(by omega)) := fun h0 => (hc (k - 1) (by omega)).below hnx hbw
      obtain ⟨q0, q1, q2⟩ := hat
      have HG := Lib.hid hgd
      have HB := Lib.hid hbad
      have HN := Lib.hid hnext
      clear hgd hbad hnext hc
      subst hAe
      have hf : okPl p = false → riseB l = false := fun h => HB.out (fun h2 => by rw [h] at h2; exact absurd h2.1 (by simp))
      have HF := Lib.hid hf
      clear hf
      refine okPl_five (n := p.n) (u := p.u) ?_ ?_ ?_ ?_ ?_
      · intro h1
        have HR := Lib.hid (HF.out (okPl_false (by omega)))
        have e0 : decide (p.n < 2) = true := decide_eq_true (by omega)
        clear hprev hp c HF
        go_wp2
        have hO := PlIn.new wr p
        have hB0 := below_alloc hnx (.cells #[.int .i64 p.n, .int .i64 p.u, .string p.s] 24)
        generalize wr.alloc (.cells #[.int .i64 p.n, .int .i64 p.u, .string p.s] 24) = W at *
        obtain ⟨g0, g1, g2⟩ := hO.cells
        have k0 := cell_regrown g0
        have k1 := cell_regrown g1
        have k2 := cell_regrown g2
        clear g0 g1 g2 hO q0 q1 q2
        refine wp_region_quiet_below (by kernel_rfl) (by kernel_rfl) ?_
        repeat (go_big_quiet_step ((with_reducible (exact d1 _ _))))
        refine wpQuiet_nil ?_
        intro _ hw'
        obtain ⟨⟨dq, osq⟩, hw''⟩ := hw'
        subst hw''
        go_wp2
        go_ret
        exact ⟨by rw [HT2.out, HR.out]; rfl, below_then hB0 (below_regrown W dq osq)⟩
      · intro h1 h2
        have HR := Lib.hid (HF.out (okPl_false (by omega)))
        have e0 : decide (p.n < 2) = false := decide_eq_false (by omega)
        have e1 : decide (64 ≤ p.n) = true := decide_eq_true (by omega)
        clear hprev hp c HF
        go_wp2
        have hO := PlIn.new wr p
        have hB0 := below_alloc hnx (.cells #[.int .i64 p.n, .int .i64 p.u, .string p.s] 24)
        generalize wr.alloc (.cells #[.int .i64 p.n, .int .i64 p.u, .string p.s] 24) = W at *
        obtain ⟨g0, g1, g2⟩ := hO.cells
        have k0 := cell_regrown g0
        have k1 := cell_regrown g1
        have k2 := cell_regrown g2
        clear g0 g1 g2 hO q0 q1 q2
        refine wp_region_quiet_below (by kernel_rfl) (by kernel_rfl) ?_
        repeat (go_big_quiet_step ((with_reducible (exact d1 _ _))))
        refine wpQuiet_nil ?_
        intro _ hw'
        obtain ⟨⟨dq, osq⟩, hw''⟩ := hw'
        subst hw''
        go_wp2
        go_ret
        exact ⟨by rw [HT2.out, HR.out]; rfl, below_then hB0 (below_regrown W dq osq)⟩
      · intro h1 h2 h3
        have HR := Lib.hid (HF.out (okPl_false (by omega)))
        have e0 : decide (p.n < 2) = false := decide_eq_false (by omega)
        have e1 : decide (64 ≤ p.n) = false := decide_eq_false (by omega)
        have e2 : decide (p.u < 0) = true := decide_eq_true (by omega)
        clear hprev hp c HF
        go_wp2
        have hO := PlIn.new wr p
        have hB0 := below_alloc hnx (.cells #[.int .i64 p.n, .int .i64 p.u, .string p.s] 24)
        generalize wr.alloc (.cells #[.int .i64 p.n, .int .i64 p.u, .string p.s] 24) = W at *
        obtain ⟨g0, g1, g2⟩ := hO.cells
        have k0 := cell_regrown g0
        have k1 := cell_regrown g1
        have k2 := cell_regrown g2
        clear g0 g1 g2 hO q0 q1 q2
        refine wp_region_quiet_below (by kernel_rfl) (by kernel_rfl) ?_
        repeat (go_big_quiet_step ((with_reducible (exact d1 _ _))))
        refine wpQuiet_nil ?_
        intro _ hw'
        obtain ⟨⟨dq, osq⟩, hw''⟩ := hw'
        subst hw''
        go_wp2
        go_ret
        exact ⟨by rw [HT2.out, HR.out]; rfl, below_then hB0 (below_regrown W dq osq)⟩
      · intro h1 h2 h3 h4
        have HR := Lib.hid (HF.out (okPl_false (by omega)))
        have e0 : decide (p.n < 2) = false := decide_eq_false (by omega)
        have e1 : decide (64 ≤ p.n) = false := decide_eq_false (by omega)
        have e2 : decide (p.u < 0) = false := decide_eq_false (by omega)
        have e3 : decide (64 ≤ p.u) = true := decide_eq_true (by omega)
        clear hprev hp c HF
        go_wp2
        have hO := PlIn.new wr p
        have hB0 := below_alloc hnx (.cells #[.int .i64 p.n, .int .i64 p.u, .string p.s] 24)
        generalize wr.alloc (.cells #[.int .i64 p.n, .int .i64 p.u, .string p.s] 24) = W at *
        obtain ⟨g0, g1, g2⟩ := hO.cells
        have k0 := cell_regrown g0
        have k1 := cell_regrown g1
        have k2 := cell_regrown g2
        clear g0 g1 g2 hO q0 q1 q2
        refine wp_region_quiet_below (by kernel_rfl) (by kernel_rfl) ?_
        repeat (go_big_quiet_step ((with_reducible (exact d1 _ _))))
        refine wpQuiet_nil ?_
        intro _ hw'
        obtain ⟨⟨dq, osq⟩, hw''⟩ := hw'
        subst hw''
        go_wp2
        go_ret
        exact ⟨by rw [HT2.out, HR.out]; rfl, below_then hB0 (below_regrown W dq osq)⟩
      · intro h1 h2 h3 h4
        have e0 : decide (p.n < 2) = false := decide_eq_false (by omega)
        have e1 : decide (64 ≤ p.n) = false := decide_eq_false (by omega)
        have e2 : decide (p.u < 0) = false := decide_eq_false (by omega)
        have e3 : decide (64 ≤ p.u) = false := decide_eq_false (by omega)
        have hon := okPl_name (p := p) ⟨h1, h2, h3, h4⟩
        rw [← hon] at c
        clear hon
        cases hok : okPl p
        · rw [hok] at c
          have C := Lib.hid c
          have HR := Lib.hid (HF.out hok)
          clear c hok hprev hp HF
          go_wp2
          have hO := PlIn.new wr p
          have hB0 := below_alloc hnx (.cells #[.int .i64 p.n, .int .i64 p.u, .string p.s] 24)
          generalize wr.alloc (.cells #[.int .i64 p.n, .int .i64 p.u, .string p.s] 24) = W at *
          obtain ⟨g0, g1, g2⟩ := hO.cells
          have k0 := cell_regrown g0
          have k1 := cell_regrown g1
          have k2 := cell_regrown g2
          have d1 : ∀ d os, Calls Try.prog 29 #[.string p.s] (Sort.grow (redrawn W d) os) fun e w'' => e = .returned (.bool false) ∧ ∃ p : Regrown, w'' = Sort.grow (redrawn W p.d) p.os := fun d os => Calls.regrown_of (C.out _)
          clear g0 g1 g2 hO q0 q1 q2
          refine wp_region_quiet_below (by kernel_rfl) (by kernel_rfl) ?_
          repeat (go_big_quiet_step ((with_reducible (exact d1 _ _))))
          refine wpQuiet_nil ?_
          intro _ hw'
          obtain ⟨⟨dq, osq⟩, hw''⟩ := hw'
          subst hw''
          go_wp2
          go_ret
          exact ⟨by rw [HT2.out, HR.out]; rfl, below_then hB0 (below_regrown W dq osq)⟩
        · rw [hok] at c
          have C := Lib.hid c
          have hok := Lib.hid hok
          clear c
          by_cases h0 : 0 < k
          · obtain ⟨t0, t1, t2⟩ := hprev h0
            obtain ⟨q, hq⟩ : ∃ q, l[k - 1]'(by omega) = q := ⟨_, rfl⟩
            rw [hq] at t0 t1 t2
            have hix : ((k : Int) - 1).toNat = k - 1 := by omega
            by_cases hc2 : q.n < p.n
            · have HQ : ∀ h0 : 0 < k, (l[k - 1]'(by omega)).n < p.n := fun _ => by rw [hq]; exact hc2
              have HQ := Lib.hid HQ
              clear hq hp hprev
              go_wp2
              have hO := PlIn.new wr p
              have hB0 := below_alloc hnx (.cells #[.int .i64 p.n, .int .i64 p.u, .string p.s] 24)
              have hw0 := below_alloc (Below.refl _ wr) (.cells #[.int .i64 p.n, .int .i64 p.u, .string p.s] 24)
              rw [← (bcell hw0).1 _ _ hbr] at t0
              clear hw0
              generalize wr.alloc (.cells #[.int .i64 p.n, .int .i64 p.u, .string p.s] 24) = W at *
              obtain ⟨g0, g1, g2⟩ := hO.cells
              have k0 := cell_regrown g0
              have k1 := cell_regrown g1
              have k2 := cell_regrown g2
              have kt0 := cell_regrown t0
              clear t0 t1 t2
              have d1 : ∀ d os, Calls Try.prog 29 #[.string p.s] (Sort.grow (redrawn W d) os) fun e w'' => e = .returned (.bool true) ∧ ∃ p : Regrown, w'' = Sort.grow (redrawn W p.d) p.os := fun d os => Calls.regrown_of (C.out _)
              clear g0 g1 g2 hO q0 q1 q2
              refine wp_region_quiet_below (by kernel_rfl) (by kernel_rfl) ?_
              repeat (go_big_quiet_step ((with_reducible (exact d1 _ _))))
              refine wpQuiet_nil ?_
              intro _ hw'
              obtain ⟨⟨dq, osq⟩, hw''⟩ := hw'
              subst hw''
              go_wp2
              go_roundw
              case rel => exact ⟨k + 1, by omega, by go_num, HN.out hok.out fun h0 => HQ.out h0, below_then hB0 (below_regrown W dq osq)⟩
              case measure => simp [intOf]; omega
            · have HR := Lib.hid (HB.out (fun h => by have := h.2 h0; rw [hq] at this; exact hc2 this))
              clear hq hp hprev
              go_wp2
              have hO := PlIn.new wr p
              have hB0 := below_alloc hnx (.cells #[.int .i64 p.n, .int .i64 p.u, .string p.s] 24)
              have hw0 := below_alloc (Below.refl _ wr) (.cells #[.int .i64 p.n, .int .i64 p.u, .string p.s] 24)
              rw [← (bcell hw0).1 _ _ hbr] at t0
              clear hw0
              generalize wr.alloc (.cells #[.int .i64 p.n, .int .i64 p.u, .string p.s] 24) = W at *
              obtain ⟨g0, g1, g2⟩ := hO.cells
              have k0 := cell_regrown g0
              have k1 := cell_regrown g1
              have k2 := cell_regrown g2
              have kt0 := cell_regrown t0
              clear t0 t1 t2
              have d1 : ∀ d os, Calls Try.prog 29 #[.string p.s] (Sort.grow (redrawn W d) os) fun e w'' => e = .returned (.bool true) ∧ ∃ p : Regrown, w'' = Sort.grow (redrawn W p.d) p.os := fun d os => Calls.regrown_of (C.out _)
              clear g0 g1 g2 hO q0 q1 q2
              refine wp_region_quiet_below (by kernel_rfl) (by kernel_rfl) ?_
              repeat (go_big_quiet_step ((with_reducible (exact d1 _ _))))
              refine wpQuiet_nil ?_
              intro _ hw'
              obtain ⟨⟨dq, osq⟩, hw''⟩ := hw'
              subst hw''
              go_wp2
              go_ret
              exact ⟨by rw [HT2.out, HR.out]; rfl, below_then hB0 (below_regrown W dq osq)⟩
          · have hd : decide ((0 : Int) < (k : Int)) = false := decide_eq_false (by omega)
            have HK := Lib.hid h0
            clear hprev hp
            go_wp2
            have hO := PlIn.new wr p
            have hB0 := below_alloc hnx (.cells #[.int .i64 p.n, .int .i64 p.u, .string p.s] 24)
            generalize wr.alloc (.cells #[.int .i64 p.n, .int .i64 p.u, .string p.s] 24) = W at *
            obtain ⟨g0, g1, g2⟩ := hO.cells
            have k0 := cell_regrown g0
            have k1 := cell_regrown g1
            have k2 := cell_regrown g2
            have d1 : ∀ d os, Calls Try.prog 29 #[.string p.s] (Sort.grow (redrawn W d) os) fun e w'' => e = .returned (.bool true) ∧ ∃ p : Regrown, w'' = Sort.grow (redrawn W p.d) p.os := fun d os => Calls.regrown_of (C.out _)
            clear g0 g1 g2 hO q0 q1 q2
            refine wp_region_quiet_below (by kernel_rfl) (by kernel_rfl) ?_
            repeat (go_big_quiet_step ((with_reducible (exact d1 _ _))))
            refine wpQuiet_nil ?_
            intro _ hw'
            obtain ⟨⟨dq, osq⟩, hw''⟩ := hw'
            subst hw''
            go_wp2
            go_roundw
            case rel => exact ⟨k + 1, by omega, by go_num, HN.out hok.out fun h0 => absurd h0 HK.out, below_then hB0 (below_regrown W dq osq)⟩
            case measure => simp [intOf]; omega
    · obtain rfl : k = l.length := by omega
      have hr := goodTo_all hgd
      have HR := Lib.hid hr
      have hB1 := hnx
      have C := fun w a b (hT : Tr w A l) => refAbove_any A cap l a b w hl hT
      have C := Lib.hid C
      clear hgd hr
      go_wp2
      go_loopw [5] (fun x wr => ∃ k : Nat, k ≤ l.length ∧ x = .int .i64 k ∧ FreeTo l k ∧ Below w.heap.size w wr) (fun x _ => l.length - (intOf x).toNat)
      case atStart => exact ⟨0, Nat.zero_le _, rfl, fun k h hk => by omega, hB1⟩
      case round =>
        obtain ⟨j, hj, rfl, hgd, hnx⟩ := hrel
        by_cases hlt : j < l.length
        · obtain ⟨bb, off, hAe, hbw, hc⟩ := hT (by omega)
          have hbr := Nat.lt_of_lt_of_le hbw hnx.size
          have hat := (hc j hlt).below hnx hbw
          have hTr := hT.below hnx
          have hbad := free_bad hlt
          have hnext := free_next hgd hlt
          obtain ⟨p, hp⟩ : ∃ p, l[j] = p := ⟨_, rfl⟩
          rw [hp] at hat hbad hnext
          obtain ⟨q0, q1, q2⟩ := hat
          have C := fun w hT => C.out w p.n p.u hT
          have HB := Lib.hid hbad
          have HN := Lib.hid hnext
          clear hgd hbad hnext hc hp
          subst hAe
          have k0 := cell_regrown q0
          have k1 := cell_regrown q1
          clear q0 q1 q2
          cases hab : above l p.n p.u
          · rw [hab] at C
            have HN := Lib.hid (HN.out hab)
            have d1 : ∀ d os, Calls Try.prog 21 #[.slice (some ⟨bb, off, none⟩) l.length cap, .int .i64 p.n, .int .i64 p.u] (Sort.grow (redrawn wr d) os) fun e w'' => e = .returned (.bool false) ∧ ∃ p : Regrown, w'' = Sort.grow (redrawn wr p.d) p.os := fun d os => Calls.regrown_of (C _ (hTr.below (below_regrown wr d os)))
            clear hab C
            go_wp2
            refine wp_region_quiet_below (by kernel_rfl) (by kernel_rfl) ?_
            repeat (go_big_quiet_step ((with_reducible (exact d1 _ _))))
            refine wpQuiet_nil ?_
            intro _ hw'
            obtain ⟨⟨dq, osq⟩, hw''⟩ := hw'
            subst hw''
            go_wp2
            go_roundw
            case rel => exact ⟨j + 1, by omega, by go_num, HN.out, below_then hnx (below_regrown wr dq osq)⟩
            case measure => simp [intOf]; omega
          · rw [hab] at C
            have HF := Lib.hid (HB.out hab)
            have d1 : ∀ d os, Calls Try.prog 21 #[.slice (some ⟨bb, off, none⟩) l.length cap, .int .i64 p.n, .int .i64 p.u] (Sort.grow (redrawn wr d) os) fun e w'' => e = .returned (.bool true) ∧ ∃ p : Regrown, w'' = Sort.grow (redrawn wr p.d) p.os := fun d os => Calls.regrown_of (C _ (hTr.below (below_regrown wr d os)))
            clear hab C
            go_wp2
            refine wp_region_quiet_below (by kernel_rfl) (by kernel_rfl) ?_
            repeat (go_big_quiet_step ((with_reducible (exact d1 _ _))))
            refine wpQuiet_nil ?_
            intro _ hw'
            obtain ⟨⟨dq, osq⟩, hw''⟩ := hw'
            subst hw''
            go_wp2
            go_ret
            exact ⟨by rw [HT2.out, HR.out, HF.out]; rfl, below_then hnx (below_regrown wr dq osq)⟩
        · obtain rfl : j = l.length := by omega
          have HF := Lib.hid (free_all hgd)
          clear hgd
          go_wp2
          go_ret
          exact ⟨by rw [HT2.out, HR.out, HF.out]; rfl, hnx⟩
end Go.Proofs.Ytfhonobaddkmhaa
