/- Texts laid one behind the other: Dd, Dh, Im, In, Io, Ip, Wa, Iq, Ir, Tc, Td, Shf, Tf, Tg, Is, Dr. -/
import Derived.Test.YtjjjpifdmgpnjaaB03
import Derived.Lib.QuietBelow
import Derived.BigQuiet
import Derived.Deep.QuietTactic
import Derived.Deep.CutRange
import Derived.Shelf.Strings.Builder1
import Derived.Test.YtjjjpifdmgpnjaaChecked
import Derived.Lib.Builder
import Derived.Lib.AppendStr
import Derived.Deep.RegionHeld3
/- Members: the document's Right. -/
namespace Go.Proofs.Ytjjjpifdmgpnjaa
open Go.RowKit Cod

set_option maxRecDepth 100000 in
set_option maxHeartbeats 64000000 in
theorem refRight16_any (A : Option Addr) (c : Nat) (l : List Mb) (w : World) (hl : l.length ≤ 1000) (hT : mbE.Sl w A l) (hw : ∀ m ∈ l, m.f.size ≤ 1000000) : Calls Try.prog 11 #[.slice A l.length c] w fun e w' => e = .returned (.bool (mbsB l)) ∧ Below w.heap.size w w' := by
  have hB := Below.refl w.heap.size w
  have HT := Lib.hid hT
  have HW := Lib.hid hw
  have HC0 := Lib.hid (fun (j : Nat) (h : j < l.length) (hj : j < 0) => (absurd hj (Nat.not_lt_zero j) : mbB l[j] = true ∧ (0 < j → (l.getD (j - 1) zeroMb).d < l[j].d)))
  clear hT hw
  go_enter Try.func11, Try.ntmps11
  go_wp2_with fail
  go_loopw [3] (fun y wr => ∃ k : Nat, k ≤ l.length ∧ y = .int .i64 k ∧ Hid (goodM l k) ∧ Below w.heap.size w wr) (fun y _ => l.length - (intOf y).toNat)
  case atStart => exact ⟨0, Nat.zero_le _, rfl, HC0, hB⟩
  case round =>
    clear HC0 hB
    obtain ⟨k, hk, rfl, HK, hB⟩ := hrel
    by_cases hkl : k < l.length
    · obtain ⟨b, off, eA, hbw, hc⟩ := HT.out (by omega)
      have hx := mbIdx (cap := c) eA hkl
      have hat : mbE.At wr b (off + k * 16) l[k] := (hc k hkl).below hB hbw
      have HPV := Lib.hid (show 0 < k → mbE.At wr b (off + (k - 1) * 16) (l.getD (k - 1) zeroMb) from fun h0 => by
        have h := (hc (k - 1) (by omega)).below hB hbw
        rw [List.getD_eq_getElem?_getD, List.getElem?_eq_getElem (show k - 1 < l.length by omega)]
        exact h)
      have HX1 := Lib.hid (show 0 < k → _ from fun h0 => mbIdx (cap := c) (k := k - 1) (len := l.length) eA (by omega))
      have hsz := HW.out l[k] (List.getElem_mem _)
      have HNX := Lib.hid (fun h1 h2 => goodM_next HK.out hkl h1 h2)
      have HOUT := Lib.hid (mbsB_out hkl)
      generalize l[k] = x at *
      generalize l.getD (k - 1) zeroMb = y at *
      have HRR := Lib.hid (fun wx => refRpRight_any x.r wx)
      have HMB := Lib.hid (show mbB x = (decide (0 ≤ x.d ∧ x.d < 12 ∧ 1 ≤ x.i ∧ x.i ≤ 1099511627776 ∧ 0 ≤ x.n ∧ x.n ≤ 1099511627776 ∧ 0 ≤ x.l ∧ x.l ≤ 1099511627776 ∧ 0 ≤ x.o ∧ x.o ≤ 1099511627776 ∧ x.r.d = x.d ∧ x.f.size ≤ 65536) && rpB x.r) from rfl)
      have hE : mbE.In (wr.alloc (.cells #[.int .i64 x.d, .int .i64 x.i, .bool x.w, .int .i64 x.n, .int .i64 x.l, .int .i64 x.o, .int .i64 x.r.d, .int .i64 x.r.i, .int .i64 x.r.b, .int .i64 x.r.t, .int .i64 x.r.m, .int .i64 x.r.p, .int .i64 x.r.c, .int .i64 x.r.s, .int .i64 x.r.k, .string x.f] 39)) wr.heap.size x := El.In.new (E := mbE) wr x _ rfl
      have hal := below_alloc (Below.refl wr.heap.size wr) (.cells #[.int .i64 x.d, .int .i64 x.i, .bool x.w, .int .i64 x.n, .int .i64 x.l, .int .i64 x.o, .int .i64 x.r.d, .int .i64 x.r.i, .int .i64 x.r.b, .int .i64 x.r.t, .int .i64 x.r.m, .int .i64 x.r.p, .int .i64 x.r.c, .int .i64 x.r.s, .int .i64 x.r.k, .string x.f] 39)
      have hbr := Nat.lt_of_lt_of_le hbw hB.size
      replace HPV := Lib.hid (fun h0 => ((mbAt16 ((HPV.out h0).below hal hbr)).1))
      replace hB := below_then hB hal
      clear hc eA hal hbr
      go_upto_region 5 with (first | (refine El.load mbRow rfl _ rfl b (off + k * 16) rfl x hat #[.int .i64 x.d, .int .i64 x.i, .bool x.w, .int .i64 x.n, .int .i64 x.l, .int .i64 x.o, .int .i64 x.r.d, .int .i64 x.r.i, .int .i64 x.r.b, .int .i64 x.r.t, .int .i64 x.r.m, .int .i64 x.r.p, .int .i64 x.r.c, .int .i64 x.r.s, .int .i64 x.r.k, .string x.f] rfl ?_) | fail)
      clear hat hbw
      generalize wr.alloc (.cells #[.int .i64 x.d, .int .i64 x.i, .bool x.w, .int .i64 x.n, .int .i64 x.l, .int .i64 x.o, .int .i64 x.r.d, .int .i64 x.r.i, .int .i64 x.r.b, .int .i64 x.r.t, .int .i64 x.r.m, .int .i64 x.r.p, .int .i64 x.r.c, .int .i64 x.r.s, .int .i64 x.r.k, .string x.f] 39) = V at *
      generalize wr.heap.size = n at *
      go_cut [97] from 15 to 97 (fun v wx => v = .bool (!(mbB x && (decide (k = 0) || decide (y.d < x.d)))) ∧ Below w.heap.size w wx)
      case first =>
        simp only [List.append_eq, List.cons_append, List.nil_append]
        refine wp_region_quiet_below (by kernel_rfl) (by as_aux_lemma => kernel_rfl) ?_
        obtain ⟨g0, g1, g2, g3, g4, g5, g6, g7, g8, g9, g10, g11, g12, g13, g14, g15⟩ := mbIn16 hE
        have k0 := cell_regrown g0
        have k1 := cell_regrown g1
        have k2 := cell_regrown g2
        have k3 := cell_regrown g3
        have k4 := cell_regrown g4
        have k5 := cell_regrown g5
        have k6 := cell_regrown g6
        have k7 := cell_regrown g7
        have k8 := cell_regrown g8
        have k9 := cell_regrown g9
        have k10 := cell_regrown g10
        have k11 := cell_regrown g11
        have k12 := cell_regrown g12
        have k13 := cell_regrown g13
        have k14 := cell_regrown g14
        have k15 := cell_regrown g15
        clear g0 g1 g2 g3 g4 g5 g6 g7 g8 g9 g10 g11 g12 g13 g14 g15
        by_cases a0 : x.d < 0
        · have fa0b : decide (x.d < 0) = true := decide_eq_true (by omega)
          have HV := Lib.hid (show (!(mbB x && (decide (k = 0) || decide (y.d < x.d)))) = true from by rw [HMB.out, decide_eq_false (show ¬ (0 ≤ x.d ∧ x.d < 12 ∧ 1 ≤ x.i ∧ x.i ≤ 1099511627776 ∧ 0 ≤ x.n ∧ x.n ≤ 1099511627776 ∧ 0 ≤ x.l ∧ x.l ≤ 1099511627776 ∧ 0 ≤ x.o ∧ x.o ≤ 1099511627776 ∧ x.r.d = x.d ∧ x.f.size ≤ 65536) by omega)]; simp)
          clear a0
          repeat (go_big_quiet_step (fail))
          refine wpQuiet_nil ?_
          intro _ hw'
          obtain ⟨⟨dq, osq⟩, hw''⟩ := hw'
          subst hw''
          go_wp2_with fail
          go_meet
          exact ⟨by rw [HV.out], below_then hB (below_regrown V dq osq)⟩
        · have fa0b : decide (x.d < 0) = false := decide_eq_false (by omega)
          by_cases a1 : 12 ≤ x.d
          · have fa1b : decide ((12 : Int) ≤ x.d) = true := decide_eq_true (by omega)
            have HV := Lib.hid (show (!(mbB x && (decide (k = 0) || decide (y.d < x.d)))) = true from by rw [HMB.out, decide_eq_false (show ¬ (0 ≤ x.d ∧ x.d < 12 ∧ 1 ≤ x.i ∧ x.i ≤ 1099511627776 ∧ 0 ≤ x.n ∧ x.n ≤ 1099511627776 ∧ 0 ≤ x.l ∧ x.l ≤ 1099511627776 ∧ 0 ≤ x.o ∧ x.o ≤ 1099511627776 ∧ x.r.d = x.d ∧ x.f.size ≤ 65536) by omega)]; simp)
            clear a0 a1
            repeat (go_big_quiet_step (fail))
            refine wpQuiet_nil ?_
            intro _ hw'
            obtain ⟨⟨dq, osq⟩, hw''⟩ := hw'
            subst hw''
            go_wp2_with fail
            go_meet
            exact ⟨by rw [HV.out], below_then hB (below_regrown V dq osq)⟩
          · have fa1b : decide ((12 : Int) ≤ x.d) = false := decide_eq_false (by omega)
            by_cases hk0 : k = 0
            · have e1 : decide ((0 : Int) < (k : Int)) = false := decide_eq_false (by omega)
              have e2 : decide (0 < k) = false := decide_eq_false (by omega)
              by_cases a3 : x.i < 1
              · have fa3b : decide (x.i < 1) = true := decide_eq_true (by omega)
                have HV := Lib.hid (show (!(mbB x && (decide (k = 0) || decide (y.d < x.d)))) = true from by rw [HMB.out, decide_eq_false (show ¬ (0 ≤ x.d ∧ x.d < 12 ∧ 1 ≤ x.i ∧ x.i ≤ 1099511627776 ∧ 0 ≤ x.n ∧ x.n ≤ 1099511627776 ∧ 0 ≤ x.l ∧ x.l ≤ 1099511627776 ∧ 0 ≤ x.o ∧ x.o ≤ 1099511627776 ∧ x.r.d = x.d ∧ x.f.size ≤ 65536) by omega)]; simp)
                clear a0 a1 hk0 a3
                repeat (go_big_quiet_step (fail))
                refine wpQuiet_nil ?_
                intro _ hw'
                obtain ⟨⟨dq, osq⟩, hw''⟩ := hw'
                subst hw''
                go_wp2_with fail
                go_meet
                exact ⟨by rw [HV.out], below_then hB (below_regrown V dq osq)⟩
              · have fa3b : decide (x.i < 1) = false := decide_eq_false (by omega)
                by_cases a4 : 1099511627776 < x.i
                · have fa4b : decide ((1099511627776 : Int) < x.i) = true := decide_eq_true (by omega)
                  have HV := Lib.hid (show (!(mbB x && (decide (k = 0) || decide (y.d < x.d)))) = true from by rw [HMB.out, decide_eq_false (show ¬ (0 ≤ x.d ∧ x.d < 12 ∧ 1 ≤ x.i ∧ x.i ≤ 1099511627776 ∧ 0 ≤ x.n ∧ x.n ≤ 1099511627776 ∧ 0 ≤ x.l ∧ x.l ≤ 1099511627776 ∧ 0 ≤ x.o ∧ x.o ≤ 1099511627776 ∧ x.r.d = x.d ∧ x.f.size ≤ 65536) by omega)]; simp)
                  clear a0 a1 hk0 a3 a4
                  repeat (go_big_quiet_step (fail))
                  refine wpQuiet_nil ?_
                  intro _ hw'
                  obtain ⟨⟨dq, osq⟩, hw''⟩ := hw'
                  subst hw''
                  go_wp2_with fail
                  go_meet
                  exact ⟨by rw [HV.out], below_then hB (below_regrown V dq osq)⟩
                · have fa4b : decide ((1099511627776 : Int) < x.i) = false := decide_eq_false (by omega)
                  by_cases a5 : x.n < 0
                  · have fa5b : decide (x.n < 0) = true := decide_eq_true (by omega)
                    have HV := Lib.hid (show (!(mbB x && (decide (k = 0) || decide (y.d < x.d)))) = true from by rw [HMB.out, decide_eq_false (show ¬ (0 ≤ x.d ∧ x.d < 12 ∧ 1 ≤ x.i ∧ x.i ≤ 1099511627776 ∧ 0 ≤ x.n ∧ x.n ≤ 1099511627776 ∧ 0 ≤ x.l ∧ x.l ≤ 1099511627776 ∧ 0 ≤ x.o ∧ x.o ≤ 1099511627776 ∧ x.r.d = x.d ∧ x.f.size ≤ 65536) by omega)]; simp)
                    clear a0 a1 hk0 a3 a4 a5
                    repeat (go_big_quiet_step (fail))
                    refine wpQuiet_nil ?_
                    intro _ hw'
                    obtain ⟨⟨dq, osq⟩, hw''⟩ := hw'
                    subst hw''
                    go_wp2_with fail
                    go_meet
                    exact ⟨by rw [HV.out], below_then hB (below_regrown V dq osq)⟩
                  · have fa5b : decide (x.n < 0) = false := decide_eq_false (by omega)
                    by_cases a6 : 1099511627776 < x.n
                    · have fa6b : decide ((1099511627776 : Int) < x.n) = true := decide_eq_true (by omega)
                      have HV := Lib.hid (show (!(mbB x && (decide (k = 0) || decide (y.d < x.d)))) = true from by rw [HMB.out, decide_eq_false (show ¬ (0 ≤ x.d ∧ x.d < 12 ∧ 1 ≤ x.i ∧ x.i ≤ 1099511627776 ∧ 0 ≤ x.n ∧ x.n ≤ 1099511627776 ∧ 0 ≤ x.l ∧ x.l ≤ 1099511627776 ∧ 0 ≤ x.o ∧ x.o ≤ 1099511627776 ∧ x.r.d = x.d ∧ x.f.size ≤ 65536) by omega)]; simp)
                      clear a0 a1 hk0 a3 a4 a5 a6
                      repeat (go_big_quiet_step (fail))
                      refine wpQuiet_nil ?_
                      intro _ hw'
                      obtain ⟨⟨dq, osq⟩, hw''⟩ := hw'
                      subst hw''
                      go_wp2_with fail
                      go_meet
                      exact ⟨by rw [HV.out], below_then hB (below_regrown V dq osq)⟩
                    · have fa6b : decide ((1099511627776 : Int) < x.n) = false := decide_eq_false (by omega)
                      by_cases a7 : x.l < 0
                      · have fa7b : decide (x.l < 0) = true := decide_eq_true (by omega)
                        have HV := Lib.hid (show (!(mbB x && (decide (k = 0) || decide (y.d < x.d)))) = true from by rw [HMB.out, decide_eq_false (show ¬ (0 ≤ x.d ∧ x.d < 12 ∧ 1 ≤ x.i ∧ x.i ≤ 1099511627776 ∧ 0 ≤ x.n ∧ x.n ≤ 1099511627776 ∧ 0 ≤ x.l ∧ x.l ≤ 1099511627776 ∧ 0 ≤ x.o ∧ x.o ≤ 1099511627776 ∧ x.r.d = x.d ∧ x.f.size ≤ 65536) by omega)]; simp)
                        clear a0 a1 hk0 a3 a4 a5 a6 a7
                        repeat (go_big_quiet_step (fail))
                        refine wpQuiet_nil ?_
                        intro _ hw'
                        obtain ⟨⟨dq, osq⟩, hw''⟩ := hw'
                        subst hw''
                        go_wp2_with fail
                        go_meet
                        exact ⟨by rw [HV.out], below_then hB (below_regrown V dq osq)⟩
                      · have fa7b : decide (x.l < 0) = false := decide_eq_false (by omega)
                        by_cases a8 : 1099511627776 < x.l
                        · have fa8b : decide ((1099511627776 : Int) < x.l) = true := decide_eq_true (by omega)
                          have HV := Lib.hid (show (!(mbB x && (decide (k = 0) || decide (y.d < x.d)))) = true from by rw [HMB.out, decide_eq_false (show ¬ (0 ≤ x.d ∧ x.d < 12 ∧ 1 ≤ x.i ∧ x.i ≤ 1099511627776 ∧ 0 ≤ x.n ∧ x.n ≤ 1099511627776 ∧ 0 ≤ x.l ∧ x.l ≤ 1099511627776 ∧ 0 ≤ x.o ∧ x.o ≤ 1099511627776 ∧ x.r.d = x.d ∧ x.f.size ≤ 65536) by omega)]; simp)
                          clear a0 a1 hk0 a3 a4 a5 a6 a7 a8
                          repeat (go_big_quiet_step (fail))
                          refine wpQuiet_nil ?_
                          intro _ hw'
                          obtain ⟨⟨dq, osq⟩, hw''⟩ := hw'
                          subst hw''
                          go_wp2_with fail
                          go_meet
                          exact ⟨by rw [HV.out], below_then hB (below_regrown V dq osq)⟩
                        · have fa8b : decide ((1099511627776 : Int) < x.l) = false := decide_eq_false (by omega)
                          by_cases a9 : x.o < 0
                          · have fa9b : decide (x.o < 0) = true := decide_eq_true (by omega)
                            have HV := Lib.hid (show (!(mbB x && (decide (k = 0) || decide (y.d < x.d)))) = true from by rw [HMB.out, decide_eq_false (show ¬ (0 ≤ x.d ∧ x.d < 12 ∧ 1 ≤ x.i ∧ x.i ≤ 1099511627776 ∧ 0 ≤ x.n ∧ x.n ≤ 1099511627776 ∧ 0 ≤ x.l ∧ x.l ≤ 1099511627776 ∧ 0 ≤ x.o ∧ x.o ≤ 1099511627776 ∧ x.r.d = x.d ∧ x.f.size ≤ 65536) by omega)]; simp)
                            clear a0 a1 hk0 a3 a4 a5 a6 a7 a8 a9
                            repeat (go_big_quiet_step (fail))
                            refine wpQuiet_nil ?_
                            intro _ hw'
                            obtain ⟨⟨dq, osq⟩, hw''⟩ := hw'
                            subst hw''
                            go_wp2_with fail
                            go_meet
                            exact ⟨by rw [HV.out], below_then hB (below_regrown V dq osq)⟩
                          · have fa9b : decide (x.o < 0) = false := decide_eq_false (by omega)
                            by_cases a10 : 1099511627776 < x.o
                            · have fa10b : decide ((1099511627776 : Int) < x.o) = true := decide_eq_true (by omega)
                              have HV := Lib.hid (show (!(mbB x && (decide (k = 0) || decide (y.d < x.d)))) = true from by rw [HMB.out, decide_eq_false (show ¬ (0 ≤ x.d ∧ x.d < 12 ∧ 1 ≤ x.i ∧ x.i ≤ 1099511627776 ∧ 0 ≤ x.n ∧ x.n ≤ 1099511627776 ∧ 0 ≤ x.l ∧ x.l ≤ 1099511627776 ∧ 0 ≤ x.o ∧ x.o ≤ 1099511627776 ∧ x.r.d = x.d ∧ x.f.size ≤ 65536) by omega)]; simp)
                              clear a0 a1 hk0 a3 a4 a5 a6 a7 a8 a9 a10
                              repeat (go_big_quiet_step (fail))
                              refine wpQuiet_nil ?_
                              intro _ hw'
                              obtain ⟨⟨dq, osq⟩, hw''⟩ := hw'
                              subst hw''
                              go_wp2_with fail
                              go_meet
                              exact ⟨by rw [HV.out], below_then hB (below_regrown V dq osq)⟩
                            · have fa10b : decide ((1099511627776 : Int) < x.o) = false := decide_eq_false (by omega)
                              cases hR : rpB x.r with
                              | false =>
                                rw [hR] at HRR
                                have HV := Lib.hid (show (!(mbB x && (decide (k = 0) || decide (y.d < x.d)))) = true from by rw [HMB.out, hR]; simp)
                                clear a0 a1 hk0 a3 a4 a5 a6 a7 a8 a9 a10
                                have d1 : ∀ d os, Calls Try.prog 29 #[.agg #[.int .i64 x.r.d, .int .i64 x.r.i, .int .i64 x.r.b, .int .i64 x.r.t, .int .i64 x.r.m, .int .i64 x.r.p, .int .i64 x.r.c, .int .i64 x.r.s, .int .i64 x.r.k]] (Sort.grow (redrawn V d) os) fun e w'' => e = .returned (.bool false) ∧ ∃ p : Regrown, w'' = Sort.grow (redrawn V p.d) p.os := fun d os => Calls.regrown_of (HRR.out _)
                                repeat (go_big_quiet_step ((with_reducible (exact d1 _ _))))
                                refine wpQuiet_nil ?_
                                intro _ hw'
                                obtain ⟨⟨dq, osq⟩, hw''⟩ := hw'
                                subst hw''
                                go_wp2_with fail
                                go_meet
                                exact ⟨by rw [HV.out], below_then hB (below_regrown V dq osq)⟩
                              | true =>
                                rw [hR] at HRR
                                by_cases a12 : ¬ x.r.d = x.d
                                · have f12 : (x.r.d == x.d) = false := beq_eq_false_iff_ne.2 a12
                                  have f12b : (x.r.d != x.d) = true := by simp [a12]
                                  have HV := Lib.hid (show (!(mbB x && (decide (k = 0) || decide (y.d < x.d)))) = true from by rw [HMB.out, decide_eq_false (show ¬ (0 ≤ x.d ∧ x.d < 12 ∧ 1 ≤ x.i ∧ x.i ≤ 1099511627776 ∧ 0 ≤ x.n ∧ x.n ≤ 1099511627776 ∧ 0 ≤ x.l ∧ x.l ≤ 1099511627776 ∧ 0 ≤ x.o ∧ x.o ≤ 1099511627776 ∧ x.r.d = x.d ∧ x.f.size ≤ 65536) by omega)]; simp)
                                  clear a0 a1 hk0 a3 a4 a5 a6 a7 a8 a9 a10 a12
                                  have d1 : ∀ d os, Calls Try.prog 29 #[.agg #[.int .i64 x.r.d, .int .i64 x.r.i, .int .i64 x.r.b, .int .i64 x.r.t, .int .i64 x.r.m, .int .i64 x.r.p, .int .i64 x.r.c, .int .i64 x.r.s, .int .i64 x.r.k]] (Sort.grow (redrawn V d) os) fun e w'' => e = .returned (.bool true) ∧ ∃ p : Regrown, w'' = Sort.grow (redrawn V p.d) p.os := fun d os => Calls.regrown_of (HRR.out _)
                                  repeat (go_big_quiet_step ((with_reducible (exact d1 _ _))))
                                  refine wpQuiet_nil ?_
                                  intro _ hw'
                                  obtain ⟨⟨dq, osq⟩, hw''⟩ := hw'
                                  subst hw''
                                  go_wp2_with fail
                                  go_meet
                                  exact ⟨by rw [HV.out], below_then hB (below_regrown V dq osq)⟩
                                · have f12 : (x.r.d == x.d) = true := beq_iff_eq.2 (Classical.not_not.1 a12)
                                  have f12b : (x.r.d != x.d) = false := by simp [Classical.not_not.1 a12]
                                  by_cases a13 : 65536 < x.f.size
                                  · have fa13b : decide ((65536 : Int) < (x.f.size : Int)) = true := decide_eq_true (by omega)
                                    have fa13c : decide (65536 < x.f.size) = true := decide_eq_true (by omega)
                                    have HV := Lib.hid (show (!(mbB x && (decide (k = 0) || decide (y.d < x.d)))) = true from by rw [HMB.out, decide_eq_false (show ¬ (0 ≤ x.d ∧ x.d < 12 ∧ 1 ≤ x.i ∧ x.i ≤ 1099511627776 ∧ 0 ≤ x.n ∧ x.n ≤ 1099511627776 ∧ 0 ≤ x.l ∧ x.l ≤ 1099511627776 ∧ 0 ≤ x.o ∧ x.o ≤ 1099511627776 ∧ x.r.d = x.d ∧ x.f.size ≤ 65536) by omega)]; simp)
                                    clear a0 a1 hk0 a3 a4 a5 a6 a7 a8 a9 a10 a12 a13
                                    have d1 : ∀ d os, Calls Try.prog 29 #[.agg #[.int .i64 x.r.d, .int .i64 x.r.i, .int .i64 x.r.b, .int .i64 x.r.t, .int .i64 x.r.m, .int .i64 x.r.p, .int .i64 x.r.c, .int .i64 x.r.s, .int .i64 x.r.k]] (Sort.grow (redrawn V d) os) fun e w'' => e = .returned (.bool true) ∧ ∃ p : Regrown, w'' = Sort.grow (redrawn V p.d) p.os := fun d os => Calls.regrown_of (HRR.out _)
                                    repeat (go_big_quiet_step ((with_reducible (exact d1 _ _))))
                                    refine wpQuiet_nil ?_
                                    intro _ hw'
                                    obtain ⟨⟨dq, osq⟩, hw''⟩ := hw'
                                    subst hw''
                                    go_wp2_with fail
                                    go_meet
                                    exact ⟨by rw [HV.out], below_then hB (below_regrown V dq osq)⟩
                                  · have fa13b : decide ((65536 : Int) < (x.f.size : Int)) = false := decide_eq_false (by omega)
                                    have fa13c : decide (65536 < x.f.size) = false := decide_eq_false (by omega)
                                    have HV := Lib.hid (show (!(mbB x && (decide (k = 0) || decide (y.d < x.d)))) = false from by rw [HMB.out, hR, decide_eq_true (show 0 ≤ x.d ∧ x.d < 12 ∧ 1 ≤ x.i ∧ x.i ≤ 1099511627776 ∧ 0 ≤ x.n ∧ x.n ≤ 1099511627776 ∧ 0 ≤ x.l ∧ x.l ≤ 1099511627776 ∧ 0 ≤ x.o ∧ x.o ≤ 1099511627776 ∧ x.r.d = x.d ∧ x.f.size ≤ 65536 by omega), decide_eq_true hk0, Bool.true_or]; rfl)
                                    clear a0 a1 hk0 a3 a4 a5 a6 a7 a8 a9 a10 a12 a13
                                    have d1 : ∀ d os, Calls Try.prog 29 #[.agg #[.int .i64 x.r.d, .int .i64 x.r.i, .int .i64 x.r.b, .int .i64 x.r.t, .int .i64 x.r.m, .int .i64 x.r.p, .int .i64 x.r.c, .int .i64 x.r.s, .int .i64 x.r.k]] (Sort.grow (redrawn V d) os) fun e w'' => e = .returned (.bool true) ∧ ∃ p : Regrown, w'' = Sort.grow (redrawn V p.d) p.os := fun d os => Calls.regrown_of (HRR.out _)
                                    repeat (go_big_quiet_step ((with_reducible (exact d1 _ _))))
                                    refine wpQuiet_nil ?_
                                    intro _ hw'
                                    obtain ⟨⟨dq, osq⟩, hw''⟩ := hw'
                                    subst hw''
                                    go_wp2_with fail
                                    go_meet
                                    exact ⟨by rw [HV.out], below_then hB (below_regrown V dq osq)⟩
            · have e1 : decide ((0 : Int) < (k : Int)) = true := decide_eq_true (by omega)
              have e2 : decide (0 < k) = true := decide_eq_true (by omega)
              have e3 : IntKind.i64.wrap ((k : Int) - 1) = ((k - 1 : Nat) : Int) := by rw [IntKind.wrap_i64]; omega
              have hx1 := HX1.out (by omega)
              have kp := cell_regrown (HPV.out (by omega))
              by_cases hp : x.d ≤ y.d
              · have e4 : decide (x.d ≤ y.d) = true := decide_eq_true hp
                have HV := Lib.hid (show (!(mbB x && (decide (k = 0) || decide (y.d < x.d)))) = true from by rw [decide_eq_false hk0, decide_eq_false (show ¬ y.d < x.d by omega)]; simp)
                clear a0 a1 hk0 hp
                repeat (go_big_quiet_step (fail))
                refine wpQuiet_nil ?_
                intro _ hw'
                obtain ⟨⟨dq, osq⟩, hw''⟩ := hw'
                subst hw''
                go_wp2_with fail
                go_meet
                exact ⟨by rw [HV.out], below_then hB (below_regrown V dq osq)⟩
              · have e4 : decide (x.d ≤ y.d) = false := decide_eq_false hp
                by_cases a3 : x.i < 1
                · have fa3b : decide (x.i < 1) = true := decide_eq_true (by omega)
                  have HV := Lib.hid (show (!(mbB x && (decide (k = 0) || decide (y.d < x.d)))) = true from by rw [HMB.out, decide_eq_false (show ¬ (0 ≤ x.d ∧ x.d < 12 ∧ 1 ≤ x.i ∧ x.i ≤ 1099511627776 ∧ 0 ≤ x.n ∧ x.n ≤ 1099511627776 ∧ 0 ≤ x.l ∧ x.l ≤ 1099511627776 ∧ 0 ≤ x.o ∧ x.o ≤ 1099511627776 ∧ x.r.d = x.d ∧ x.f.size ≤ 65536) by omega)]; simp)
                  clear a0 a1 hk0 hp a3
                  repeat (go_big_quiet_step (fail))
                  refine wpQuiet_nil ?_
                  intro _ hw'
                  obtain ⟨⟨dq, osq⟩, hw''⟩ := hw'
                  subst hw''
                  go_wp2_with fail
                  go_meet
                  exact ⟨by rw [HV.out], below_then hB (below_regrown V dq osq)⟩
                · have fa3b : decide (x.i < 1) = false := decide_eq_false (by omega)
                  by_cases a4 : 1099511627776 < x.i
                  · have fa4b : decide ((1099511627776 : Int) < x.i) = true := decide_eq_true (by omega)
                    have HV := Lib.hid (show (!(mbB x && (decide (k = 0) || decide (y.d < x.d)))) = true from by rw [HMB.out, decide_eq_false (show ¬ (0 ≤ x.d ∧ x.d < 12 ∧ 1 ≤ x.i ∧ x.i ≤ 1099511627776 ∧ 0 ≤ x.n ∧ x.n ≤ 1099511627776 ∧ 0 ≤ x.l ∧ x.l ≤ 1099511627776 ∧ 0 ≤ x.o ∧ x.o ≤ 1099511627776 ∧ x.r.d = x.d ∧ x.f.size ≤ 65536) by omega)]; simp)
                    clear a0 a1 hk0 hp a3 a4
                    repeat (go_big_quiet_step (fail))
                    refine wpQuiet_nil ?_
                    intro _ hw'
                    obtain ⟨⟨dq, osq⟩, hw''⟩ := hw'
                    subst hw''
                    go_wp2_with fail
                    go_meet
                    exact ⟨by rw [HV.out], below_then hB (below_regrown V dq osq)⟩
                  · have fa4b : decide ((1099511627776 : Int) < x.i) = false := decide_eq_false (by omega)
                    by_cases a5 : x.n < 0
                    · have fa5b : decide (x.n < 0) = true := decide_eq_true (by omega)
                      have HV := Lib.hid (show (!(mbB x && (decide (k = 0) || decide (y.d < x.d)))) = true from by rw [HMB.out, decide_eq_false (show ¬ (0 ≤ x.d ∧ x.d < 12 ∧ 1 ≤ x.i ∧ x.i ≤ 1099511627776 ∧ 0 ≤ x.n ∧ x.n ≤ 1099511627776 ∧ 0 ≤ x.l ∧ x.l ≤ 1099511627776 ∧ 0 ≤ x.o ∧ x.o ≤ 1099511627776 ∧ x.r.d = x.d ∧ x.f.size ≤ 65536) by omega)]; simp)
                      clear a0 a1 hk0 hp a3 a4 a5
                      repeat (go_big_quiet_step (fail))
                      refine wpQuiet_nil ?_
                      intro _ hw'
                      obtain ⟨⟨dq, osq⟩, hw''⟩ := hw'
                      subst hw''
                      go_wp2_with fail
                      go_meet
                      exact ⟨by rw [HV.out], below_then hB (below_regrown V dq osq)⟩
                    · have fa5b : decide (x.n < 0) = false := decide_eq_false (by omega)
                      by_cases a6 : 1099511627776 < x.n
                      · have fa6b : decide ((1099511627776 : Int) < x.n) = true := decide_eq_true (by omega)
                        have HV := Lib.hid (show (!(mbB x && (decide (k = 0) || decide (y.d < x.d)))) = true from by rw [HMB.out, decide_eq_false (show ¬ (0 ≤ x.d ∧ x.d < 12 ∧ 1 ≤ x.i ∧ x.i ≤ 1099511627776 ∧ 0 ≤ x.n ∧ x.n ≤ 1099511627776 ∧ 0 ≤ x.l ∧ x.l ≤ 1099511627776 ∧ 0 ≤ x.o ∧ x.o ≤ 1099511627776 ∧ x.r.d = x.d ∧ x.f.size ≤ 65536) by omega)]; simp)
                        clear a0 a1 hk0 hp a3 a4 a5 a6
                        repeat (go_big_quiet_step (fail))
                        refine wpQuiet_nil ?_
                        intro _ hw'
                        obtain ⟨⟨dq, osq⟩, hw''⟩ := hw'
                        subst hw''
                        go_wp2_with fail
                        go_meet
                        exact ⟨by rw [HV.out], below_then hB (below_regrown V dq osq)⟩
                      · have fa6b : decide ((1099511627776 : Int) < x.n) = false := decide_eq_false (by omega)
                        by_cases a7 : x.l < 0
                        · have fa7b : decide (x.l < 0) = true := decide_eq_true (by omega)
                          have HV := Lib.hid (show (!(mbB x && (decide (k = 0) || decide (y.d < x.d)))) = true from by rw [HMB.out, decide_eq_false (show ¬ (0 ≤ x.d ∧ x.d < 12 ∧ 1 ≤ x.i ∧ x.i ≤ 1099511627776 ∧ 0 ≤ x.n ∧ x.n ≤ 1099511627776 ∧ 0 ≤ x.l ∧ x.l ≤ 1099511627776 ∧ 0 ≤ x.o ∧ x.o ≤ 1099511627776 ∧ x.r.d = x.d ∧ x.f.size ≤ 65536) by omega)]; simp)
                          clear a0 a1 hk0 hp a3 a4 a5 a6 a7
                          repeat (go_big_quiet_step (fail))
                          refine wpQuiet_nil ?_
                          intro _ hw'
                          obtain ⟨⟨dq, osq⟩, hw''⟩ := hw'
                          subst hw''
                          go_wp2_with fail
                          go_meet
                          exact ⟨by rw [HV.out], below_then hB (below_regrown V dq osq)⟩
                        · have fa7b : decide (x.l < 0) = false := decide_eq_false (by omega)
                          by_cases a8 : 1099511627776 < x.l
                          · have fa8b : decide ((1099511627776 : Int) < x.l) = true := decide_eq_true (by omega)
                            have HV := Lib.hid (show (!(mbB x && (decide (k = 0) || decide (y.d < x.d)))) = true from by rw [HMB.out, decide_eq_false (show ¬ (0 ≤ x.d ∧ x.d < 12 ∧ 1 ≤ x.i ∧ x.i ≤ 1099511627776 ∧ 0 ≤ x.n ∧ x.n ≤ 1099511627776 ∧ 0 ≤ x.l ∧ x.l ≤ 1099511627776 ∧ 0 ≤ x.o ∧ x.o ≤ 1099511627776 ∧ x.r.d = x.d ∧ x.f.size ≤ 65536) by omega)]; simp)
                            clear a0 a1 hk0 hp a3 a4 a5 a6 a7 a8
                            repeat (go_big_quiet_step (fail))
                            refine wpQuiet_nil ?_
                            intro _ hw'
                            obtain ⟨⟨dq, osq⟩, hw''⟩ := hw'
                            subst hw''
                            go_wp2_with fail
                            go_meet
                            exact ⟨by rw [HV.out], below_then hB (below_regrown V dq osq)⟩
                          · have fa8b : decide ((1099511627776 : Int) < x.l) = false := decide_eq_false (by omega)
                            by_cases a9 : x.o < 0
                            · have fa9b : decide (x.o < 0) = true := decide_eq_true (by omega)
                              have HV := Lib.hid (show (!(mbB x && (decide (k = 0) || decide (y.d < x.d)))) = true from by rw [HMB.out, decide_eq_false (show ¬ (0 ≤ x.d ∧ x.d < 12 ∧ 1 ≤ x.i ∧ x.i ≤ 1099511627776 ∧ 0 ≤ x.n ∧ x.n ≤ 1099511627776 ∧ 0 ≤ x.l ∧ x.l ≤ 1099511627776 ∧ 0 ≤ x.o ∧ x.o ≤ 1099511627776 ∧ x.r.d = x.d ∧ x.f.size ≤ 65536) by omega)]; simp)
                              clear a0 a1 hk0 hp a3 a4 a5 a6 a7 a8 a9
                              repeat (go_big_quiet_step (fail))
                              refine wpQuiet_nil ?_
                              intro _ hw'
                              obtain ⟨⟨dq, osq⟩, hw''⟩ := hw'
                              subst hw''
                              go_wp2_with fail
                              go_meet
                              exact ⟨by rw [HV.out], below_then hB (below_regrown V dq osq)⟩
                            · have fa9b : decide (x.o < 0) = false := decide_eq_false (by omega)
                              by_cases a10 : 1099511627776 < x.o
                              · have fa10b : decide ((1099511627776 : Int) < x.o) = true := decide_eq_true (by omega)
                                have HV := Lib.hid (show (!(mbB x && (decide (k = 0) || decide (y.d < x.d)))) = true from by rw [HMB.out, decide_eq_false (show ¬ (0 ≤ x.d ∧ x.d < 12 ∧ 1 ≤ x.i ∧ x.i ≤ 1099511627776 ∧ 0 ≤ x.n ∧ x.n ≤ 1099511627776 ∧ 0 ≤ x.l ∧ x.l ≤ 1099511627776 ∧ 0 ≤ x.o ∧ x.o ≤ 1099511627776 ∧ x.r.d = x.d ∧ x.f.size ≤ 65536) by omega)]; simp)
                                clear a0 a1 hk0 hp a3 a4 a5 a6 a7 a8 a9 a10
                                repeat (go_big_quiet_step (fail))
                                refine wpQuiet_nil ?_
                                intro _ hw'
                                obtain ⟨⟨dq, osq⟩, hw''⟩ := hw'
                                subst hw''
                                go_wp2_with fail
                                go_meet
                                exact ⟨by rw [HV.out], below_then hB (below_regrown V dq osq)⟩
                              · have fa10b : decide ((1099511627776 : Int) < x.o) = false := decide_eq_false (by omega)
                                cases hR : rpB x.r with
                                | false =>
                                  rw [hR] at HRR
                                  have HV := Lib.hid (show (!(mbB x && (decide (k = 0) || decide (y.d < x.d)))) = true from by rw [HMB.out, hR]; simp)
                                  clear a0 a1 hk0 hp a3 a4 a5 a6 a7 a8 a9 a10
                                  have d1 : ∀ d os, Calls Try.prog 29 #[.agg #[.int .i64 x.r.d, .int .i64 x.r.i, .int .i64 x.r.b, .int .i64 x.r.t, .int .i64 x.r.m, .int .i64 x.r.p, .int .i64 x.r.c, .int .i64 x.r.s, .int .i64 x.r.k]] (Sort.grow (redrawn V d) os) fun e w'' => e = .returned (.bool false) ∧ ∃ p : Regrown, w'' = Sort.grow (redrawn V p.d) p.os := fun d os => Calls.regrown_of (HRR.out _)
                                  repeat (go_big_quiet_step ((with_reducible (exact d1 _ _))))
                                  refine wpQuiet_nil ?_
                                  intro _ hw'
                                  obtain ⟨⟨dq, osq⟩, hw''⟩ := hw'
                                  subst hw''
                                  go_wp2_with fail
                                  go_meet
                                  exact ⟨by rw [HV.out], below_then hB (below_regrown V dq osq)⟩
                                | true =>
                                  rw [hR] at HRR
                                  by_cases a12 : ¬ x.r.d = x.d
                                  · have f12 : (x.r.d == x.d) = false := beq_eq_false_iff_ne.2 a12
                                    have f12b : (x.r.d != x.d) = true := by simp [a12]
                                    have HV := Lib.hid (show (!(mbB x && (decide (k = 0) || decide (y.d < x.d)))) = true from by rw [HMB.out, decide_eq_false (show ¬ (0 ≤ x.d ∧ x.d < 12 ∧ 1 ≤ x.i ∧ x.i ≤ 1099511627776 ∧ 0 ≤ x.n ∧ x.n ≤ 1099511627776 ∧ 0 ≤ x.l ∧ x.l ≤ 1099511627776 ∧ 0 ≤ x.o ∧ x.o ≤ 1099511627776 ∧ x.r.d = x.d ∧ x.f.size ≤ 65536) by omega)]; simp)
                                    clear a0 a1 hk0 hp a3 a4 a5 a6 a7 a8 a9 a10 a12
                                    have d1 : ∀ d os, Calls Try.prog 29 #[.agg #[.int .i64 x.r.d, .int .i64 x.r.i, .int .i64 x.r.b, .int .i64 x.r.t, .int .i64 x.r.m, .int .i64 x.r.p, .int .i64 x.r.c, .int .i64 x.r.s, .int .i64 x.r.k]] (Sort.grow (redrawn V d) os) fun e w'' => e = .returned (.bool true) ∧ ∃ p : Regrown, w'' = Sort.grow (redrawn V p.d) p.os := fun d os => Calls.regrown_of (HRR.out _)
                                    repeat (go_big_quiet_step ((with_reducible (exact d1 _ _))))
                                    refine wpQuiet_nil ?_
                                    intro _ hw'
                                    obtain ⟨⟨dq, osq⟩, hw''⟩ := hw'
                                    subst hw''
                                    go_wp2_with fail
                                    go_meet
                                    exact ⟨by rw [HV.out], below_then hB (below_regrown V dq osq)⟩
                                  · have f12 : (x.r.d == x.d) = true := beq_iff_eq.2 (Classical.not_not.1 a12)
                                    have f12b : (x.r.d != x.d) = false := by simp [Classical.not_not.1 a12]
                                    by_cases a13 : 65536 < x.f.size
                                    · have fa13b : decide ((65536 : Int) < (x.f.size : Int)) = true := decide_eq_true (by omega)
                                      have fa13c : decide (65536 < x.f.size) = true := decide_eq_true (by omega)
                                      have HV := Lib.hid (show (!(mbB x && (decide (k = 0) || decide (y.d < x.d)))) = true from by rw [HMB.out, decide_eq_false (show ¬ (0 ≤ x.d ∧ x.d < 12 ∧ 1 ≤ x.i ∧ x.i ≤ 1099511627776 ∧ 0 ≤ x.n ∧ x.n ≤ 1099511627776 ∧ 0 ≤ x.l ∧ x.l ≤ 1099511627776 ∧ 0 ≤ x.o ∧ x.o ≤ 1099511627776 ∧ x.r.d = x.d ∧ x.f.size ≤ 65536) by omega)]; simp)
                                      clear a0 a1 hk0 hp a3 a4 a5 a6 a7 a8 a9 a10 a12 a13
                                      have d1 : ∀ d os, Calls Try.prog 29 #[.agg #[.int .i64 x.r.d, .int .i64 x.r.i, .int .i64 x.r.b, .int .i64 x.r.t, .int .i64 x.r.m, .int .i64 x.r.p, .int .i64 x.r.c, .int .i64 x.r.s, .int .i64 x.r.k]] (Sort.grow (redrawn V d) os) fun e w'' => e = .returned (.bool true) ∧ ∃ p : Regrown, w'' = Sort.grow (redrawn V p.d) p.os := fun d os => Calls.regrown_of (HRR.out _)
                                      repeat (go_big_quiet_step ((with_reducible (exact d1 _ _))))
                                      refine wpQuiet_nil ?_
                                      intro _ hw'
                                      obtain ⟨⟨dq, osq⟩, hw''⟩ := hw'
                                      subst hw''
                                      go_wp2_with fail
                                      go_meet
                                      exact ⟨by rw [HV.out], below_then hB (below_regrown V dq osq)⟩
                                    · have fa13b : decide ((65536 : Int) < (x.f.size : Int)) = false := decide_eq_false (by omega)
                                      have fa13c : decide (65536 < x.f.size) = false := decide_eq_false (by omega)
                                      have HV := Lib.hid (show (!(mbB x && (decide (k = 0) || decide (y.d < x.d)))) = false from by rw [HMB.out, hR, decide_eq_true (show 0 ≤ x.d ∧ x.d < 12 ∧ 1 ≤ x.i ∧ x.i ≤ 1099511627776 ∧ 0 ≤ x.n ∧ x.n ≤ 1099511627776 ∧ 0 ≤ x.l ∧ x.l ≤ 1099511627776 ∧ 0 ≤ x.o ∧ x.o ≤ 1099511627776 ∧ x.r.d = x.d ∧ x.f.size ≤ 65536 by omega), decide_eq_true (show y.d < x.d by omega), Bool.or_true]; rfl)
                                      clear a0 a1 hk0 hp a3 a4 a5 a6 a7 a8 a9 a10 a12 a13
                                      have d1 : ∀ d os, Calls Try.prog 29 #[.agg #[.int .i64 x.r.d, .int .i64 x.r.i, .int .i64 x.r.b, .int .i64 x.r.t, .int .i64 x.r.m, .int .i64 x.r.p, .int .i64 x.r.c, .int .i64 x.r.s, .int .i64 x.r.k]] (Sort.grow (redrawn V d) os) fun e w'' => e = .returned (.bool true) ∧ ∃ p : Regrown, w'' = Sort.grow (redrawn V p.d) p.os := fun d os => Calls.regrown_of (HRR.out _)
                                      repeat (go_big_quiet_step ((with_reducible (exact d1 _ _))))
                                      refine wpQuiet_nil ?_
                                      intro _ hw'
                                      obtain ⟨⟨dq, osq⟩, hw''⟩ := hw'
                                      subst hw''
                                      go_wp2_with fail
                                      go_meet
                                      exact ⟨by rw [HV.out], below_then hB (below_regrown V dq osq)⟩
      case rest =>
        obtain ⟨rfl, hB⟩ := hcut
        clear HRR HMB hE HPV HX1
        as_aux_lemma =>
          cases hg : (mbB x && (decide (k = 0) || decide (y.d < x.d))) with
          | true =>
            rw [Bool.and_eq_true, Bool.or_eq_true, decide_eq_true_iff, decide_eq_true_iff] at hg
            have HN := Lib.hid (HNX.out hg.1 (fun h0 => by
              rcases hg.2 with h | h
              · omega
              · exact h))
            clear hg HNX HOUT
            go_wp2_with fail
            go_roundw
            case rel =>
              exact ⟨k + 1, by omega, by go_num, HN, hB⟩
            case measure => simp [intOf]; omega
          | false =>
            have HV := Lib.hid (HOUT.out (fun h => by
              rw [h.1, Bool.true_and, Bool.or_eq_false_iff, decide_eq_false_iff_not, decide_eq_false_iff_not] at hg
              exact hg.2 (h.2 (by omega))))
            clear hg HNX HOUT
            go_wp2_with fail
            go_ret
            exact ⟨by rw [HV.out]; rfl, hB⟩
    · obtain rfl : k = l.length := by omega
      by_cases h8 : l.length ≤ 8
      · have HV := Lib.hid (goodM_all HK.out h8)
        have f1 : decide ((l.length : Int) ≤ 8) = true := decide_eq_true (by omega)
        have f2 : decide (l.length ≤ 8) = true := decide_eq_true h8
        clear h8
        go_wp2_with fail
        go_ret
        exact ⟨by rw [HV.out]; rfl, hB⟩
      · have HV := Lib.hid (mbsB_long h8)
        have f1 : decide ((l.length : Int) ≤ 8) = false := decide_eq_false (by omega)
        have f2 : decide (l.length ≤ 8) = false := decide_eq_false h8
        clear h8
        go_wp2_with fail
        go_ret
        exact ⟨by rw [HV.out]; rfl, hB⟩

end Go.Proofs.Ytjjjpifdmgpnjaa

/- RosterTells, given the program's calls (RosterCalls) and the document's Right. -/
namespace Go.Proofs.Ytjjjpifdmgpnjaa
open Go.ChangeShapes Go.WideShapes Go.ChangeAt Go.RowKit Go.Deep Cod

theorem bytesOf_le10D {n : Int} (h : i64 n) : (bytesOf n).size ≤ 10 := by rw [bytesOf_size]; exact enc_ten _ (fold_lt n h.1 h.2)
theorem mbBytes_le {m : Mb} (h : MbW m) : (mbBytes m).size ≤ 200 + m.f.size := by
  have z1 := bytesOf_le10D h.d
  have z2 := bytesOf_le10D h.i
  have z3 := bytesOf_le10D h.n
  have z4 := bytesOf_le10D h.l
  have z5 := bytesOf_le10D h.o
  have z6 : (bitOf m.w).size ≤ 10 := by unfold bitOf; cases m.w <;> exact bytesOf_le10D (by unfold i64; decide)
  have z7 := catN_le (rpL m.r) h.r
  have z8 : (textOf m.f).size ≤ 10 + m.f.size := by
    have hf := h.f
    have := bytesOf_le10D (n := (m.f.size : Int)) (by unfold i64; omega)
    unfold textOf; rw [ByteArray.size_append]; omega
  have z9 : (rpBytes m.r).size ≤ 90 := z7
  unfold mbBytes
  simp only [ByteArray.size_append]
  omega
theorem mbCat_le : ∀ (l : List Mb), (∀ m ∈ l, MbW m) → (mbK.cat l).size ≤ 200 * l.length + sumF l
  | [], _ => Nat.zero_le _
  | m :: l, h => by
    have h1 := mbBytes_le (h m (by simp))
    have h2 := mbCat_le l (fun y hy => h y (by simp [hy]))
    rw [Kd.cat, ByteArray.size_append, List.length_cons, sumF]
    show (mbBytes m).size + _ ≤ _
    omega
theorem mbPart_le {l : List Mb} (h : ∀ m ∈ l, MbW m) (hl : l.length ≤ 40) (hs : sumF l ≤ 3000) : (mbK.part l).size ≤ 12000 := by
  have h1 := mbCat_le l h
  have h2 := bytesOf_le10D (n := (l.length : Int)) (by unfold i64; omega)
  unfold Kd.part
  rw [ByteArray.size_append]
  omega
theorem MbQ.wide {m : Mb} (h : MbQ m) (hf : m.f.size ≤ 1000000) : MbW m := ⟨h.d, h.i, h.n, h.l, h.o, h.r, hf⟩
/-- The document's Right, as a contract that is handed in. -/
def RefRight16 : Prop := ∀ (A : Option Addr) (c : Nat) (l : List Mb) (w : World), l.length ≤ 1000 → mbE.Sl w A l → (∀ m ∈ l, m.f.size ≤ 1000000) → Calls Try.prog 11 #[.slice A l.length c] w fun e w' => e = .returned (.bool (mbsB l)) ∧ Below w.heap.size w w'
set_option maxRecDepth 100000 in
set_option maxHeartbeats 8000000 in
theorem tells16_walk (H : RosterCalls) (HRT : RefRight16) (A : Option Addr) (c : Nat) (l : List Mb) (p q r : Int) (w : World) (hT : SlV mbE w A c l) (hq : ∀ m ∈ l, MbQ m) (hl : l.length ≤ reachBytes) (hr : i64 r) :
    Calls Try.prog 3 #[.slice A l.length c, .agg #[.int .i64 p, .int .i64 q, .int .i64 r]] w fun e w' => e = .returned (.bool true) ∧ Below w.heap.size w w' := by
  have hB := below_alloc (Below.refl w.heap.size w) (.cells #[.int .i64 p, .int .i64 q, .int .i64 r] 23)
  have p0 : (w.alloc (.cells #[.int .i64 p, .int .i64 q, .int .i64 r] 23)).cell? ⟨w.heap.size, 0, none⟩ = some (.int .i64 p) := rowCell16 w _ _ 0
  have p1 : (w.alloc (.cells #[.int .i64 p, .int .i64 q, .int .i64 r] 23)).cell? ⟨w.heap.size, 1, none⟩ = some (.int .i64 q) := rowCell16 w _ _ 1
  have p2 : (w.alloc (.cells #[.int .i64 p, .int .i64 q, .int .i64 r] 23)).cell? ⟨w.heap.size, 2, none⟩ = some (.int .i64 r) := rowCell16 w _ _ 2
  have HWH := Lib.hid (fun (wx : World) (hb : Below w.heap.size w wx) => whole16_any A c l wx (by unfold reachBytes at hl; omega) (hT.1.below hb) (fun m hm => by have := (hq m hm).f; unfold maxLen at this; omega))
  have HA := Lib.hid (fun wx => awake16_any H wx)
  have HT := Lib.hid hT
  have HQ := Lib.hid hq
  clear hT hq hl
  go_enter Try.func3, Try.ntmps3
  go_upto_region 1 with fail
  generalize w.alloc (.cells #[.int .i64 p, .int .i64 q, .int .i64 r] 23) = W at *
  obtain ⟨n1, h1⟩ : ∃ n, w.heap.size = n := ⟨_, rfl⟩
  rw [h1] at p0 p1 p2 ⊢
  clear h1
  go_quiet (fail)
  replace hB := below_drew hB nq
  clear p0 p1 p2
  go_wp2_with fail
  refine (HWH.out _ hB).mono ?_
  rintro e w2 ⟨bv, rfl, hbv, hb2⟩
  replace hB := below_then hB hb2
  clear hb2 HWH
  cases bv with
  | false =>
    go_wp2_with fail
    refine (HA.out _).mono ?_
    rintro e w3 ⟨rfl, hb3⟩
    go_wp2_with fail
    go_ret
    exact ⟨rfl, below_then hB hb3⟩
  | true =>
    by_cases hlo : r < -1152921504606846976
    · have f1 : decide (r < -1152921504606846976) = true := decide_eq_true hlo
      clear hlo
      go_wp2_with fail
      refine (HA.out _).mono ?_
      rintro e w3 ⟨rfl, hb3⟩
      go_wp2_with fail
      go_ret
      exact ⟨rfl, below_then hB hb3⟩
    · have f1 : decide (r < -1152921504606846976) = false := decide_eq_false hlo
      obtain ⟨h4, hs⟩ := hbv.out rfl
      have hr2 := hr.2
      have HMW := Lib.hid (show ∀ m ∈ l, MbW m from fun m hm => (HQ.out m hm).wide (by have := sumF_mem hm; omega))
      have D1 := Lib.hid (fun wx (hb : Below w.heap.size w wx) => H.right A c l wx (by omega) (SlV.below HT.out hb) HMW.out)
      have D2 := Lib.hid (fun wx (hb : Below w.heap.size w wx) => HRT A c l wx (by omega) (HT.out.1.below hb) (fun m hm => (HMW.out m hm).f))
      have D3 := Lib.hid (fun wx (hb : Below w.heap.size w wx) => H.find A c l p wx (by omega) (SlV.below HT.out hb))
      have D4 := Lib.hid (fun wx (hb : Below w.heap.size w wx) => refFind16_any A c l p wx (by omega) (HT.out.1.below hb))
      have D5 := Lib.hid (fun wx (hb : Below w.heap.size w wx) => H.stable A c l p wx (by omega) (SlV.below HT.out hb))
      have D6 := Lib.hid (fun wx (hb : Below w.heap.size w wx) => refStable16_any A c l p wx (by omega) (HT.out.1.below hb))
      have D7 := Lib.hid (fun wx (hb : Below w.heap.size w wx) => H.counter A c l q r wx (by omega) (SlV.below HT.out hb) (by omega) hr2)
      have D8 := Lib.hid (fun wx (hb : Below w.heap.size w wx) => refCounter16_any A c l q r wx (by omega) (HT.out.1.below hb) (by omega) hr2)
      have hz := mbPart_le HMW.out h4 hs
      have D9 := Lib.hid (fun wx (hb : Below w.heap.size w wx) => H.print A c l wx (by omega) (SlV.below HT.out hb) HMW.out (by omega))
      have D10 := Lib.hid (fun wx (hb : Below w.heap.size w wx) => refPrint16_any A c l wx (by omega) (HT.out.1.below hb) HMW.out (by omega))
      clear h4 hs hlo hr hr2 hz HMW HT HQ
      generalize mbsB l = b1 at *
      generalize findM l p = b2 at *
      generalize stabM l p = b3 at *
      generalize cntrM l q r = b4 at *
      generalize mbK.part l = b5 at *
      go_wp2_with fail
      refine (HA.out _).mono ?_
      rintro e wz ⟨rfl, hbz⟩
      replace hB := below_then hB hbz
      clear hbz
      go_wp2_with fail
      refine (D1.out _ hB).mono ?_
      rintro e wz ⟨rfl, hbz⟩
      replace hB := below_then hB hbz
      clear hbz
      go_wp2_with fail
      refine (D2.out _ hB).mono ?_
      rintro e wz ⟨rfl, hbz⟩
      replace hB := below_then hB hbz
      clear hbz
      go_wp2_with fail
      refine (D3.out _ hB).mono ?_
      rintro e wz ⟨rfl, hbz⟩
      replace hB := below_then hB hbz
      clear hbz
      go_wp2_with fail
      refine (D4.out _ hB).mono ?_
      rintro e wz ⟨rfl, hbz⟩
      replace hB := below_then hB hbz
      clear hbz
      go_wp2_with fail
      refine (D5.out _ hB).mono ?_
      rintro e wz ⟨rfl, hbz⟩
      replace hB := below_then hB hbz
      clear hbz
      go_wp2_with fail
      refine (D6.out _ hB).mono ?_
      rintro e wz ⟨rfl, hbz⟩
      replace hB := below_then hB hbz
      clear hbz
      go_wp2_with fail
      refine (D7.out _ hB).mono ?_
      rintro e wz ⟨rfl, hbz⟩
      replace hB := below_then hB hbz
      clear hbz
      go_wp2_with fail
      refine (D8.out _ hB).mono ?_
      rintro e wz ⟨rfl, hbz⟩
      replace hB := below_then hB hbz
      clear hbz
      go_wp2_with fail
      refine (D9.out _ hB).mono ?_
      rintro e wz ⟨rfl, hbz⟩
      replace hB := below_then hB hbz
      clear hbz
      go_wp2_with fail
      refine (D10.out _ hB).mono ?_
      rintro e wz ⟨rfl, hbz⟩
      replace hB := below_then hB hbz
      clear hbz
      go_wp2_with fail
      go_ret
      exact ⟨by simp, hB⟩
set_option maxRecDepth 100000 in
theorem tells16_lifted (H0 : RosterCalls) (os : Os) (started : os.Started) (H : Type) (enc : TypeId × Value → H) :
    ReturnsInHanded {} Try.checked os 3 .any (Rows.rosterTellsSpec.pre6 enc Try.prog Try.f3 Rows.rosterTellsRow.domain false) (Rows.rosterTellsSpec.post enc Try.prog Try.f3 false true false false) := by
  refine handed_sized (C := Try.checked) own started (by kernel_rfl) Try.func3
    (ChangeSpec.witness6 (enc := enc) (C := Try.checked) false ⟨#[], #[.slice none 0 0, .agg #[.int .i64 0, .int .i64 0, .int .i64 0]], []⟩ 8 (by kernel_rfl) (by kernel_rfl) (by kernel_rfl) (by kernel_rfl)) ?_
  intro W base args ds gs before hval0 hW hL0
  have hval : ∀ (j : Nat) t v, Try.f3.params[j]? = some t → args[j]? = some v → Value.okWide Try.prog W .any base t v := hval0
  have hW' := hW
  obtain ⟨p, q, hA0, hV, rfl, _, _⟩ := hW
  have hA : DataW.TrodAll enc Try.prog W 0 (fun _ => true) true Try.f3.params.toList args.toList ds p := hA0
  rw [Try.params3] at hA hval
  obtain ⟨v0, v1, d0, d1, p0, p1, rfl, rfl, rfl, h0, h1⟩ := trodAll_two hA
  simp only [Try.params3, List.cons_append, List.nil_append, DataW.weightsEach, List.all_append, Bool.and_eq_true] at hL0
  obtain ⟨A, c, l, rfl, hS, hn, hq⟩ := open_mbsN (hval 0 22 v0 rfl rfl) h0 hL0.1
  obtain ⟨x1, x2, x3, rfl, i1, i2, i3⟩ := open_int3 (hval 1 23 v1 rfl rfl) h1
  have hc : Calls Try.prog 3 #[.slice A l.length c, .agg #[.int .i64 x1, .int .i64 x2, .int .i64 x3]] W fun e w' => e = .returned (.bool true) ∧ Below W.heap.size W w' := by
    exact tells16_walk H0 (fun A c l w h1 h2 h3 => refRight16_any A c l w h1 h2 h3) A c l x1 x2 x3 W hS hq hn i3
  refine hc.mono fun e W' ⟨he, hb⟩ => ?_
  subst he
  exact ⟨_, rfl, Frm.law_post (by kernel_rfl) (by kernel_rfl) (by kernel_rfl) Try.underlying4 rfl rfl hW' hb⟩

theorem tells16_holds (H0 : RosterCalls) : Rows.RosterTellsSaid :=
  OpenClaim.holds_of_wide 3 Try.f3 rfl rfl rfl rfl rfl rfl rfl ⟨rfl, rfl, rfl, rfl, rfl⟩ rfl rfl rfl rfl rfl (by kernel_rfl) Try.func3 (by kernel_rfl)
    (of_decide_eq_true (by kernel_rfl)) (by unfold Func.isWrapper; first | (rw [if_pos (by decide +kernel)]; kernel_rfl) | (rw [if_neg (by decide +kernel)]; exact ⟨rfl, rfl⟩))
    (fun os started H enc _ => tells16_lifted H0 os started H enc)
end Go.Proofs.Ytjjjpifdmgpnjaa

/- The program's reports: an array of fields; there and back. -/
namespace Go.Proofs.Ytjjjpifdmgpnjaa
open Go.RowKit Cod

def fdE : El Rp where
  e := 74
  k := 9
  c r := [.int .i64 r.d, .int .i64 r.i, .int .i64 r.b, .int .i64 r.t, .int .i64 r.m, .int .i64 r.p, .int .i64 r.c, .int .i64 r.s, .int .i64 r.k]
  len _ := rfl
  one p u h := by
    simp only [List.mem_cons, List.not_mem_nil, or_false] at h
    rcases h with rfl | rfl | rfl | rfl | rfl | rfl | rfl | rfl | rfl <;> rfl
  pos := by decide
theorem fdRow : fdE.Row Try.prog := ⟨by kernel_rfl, _, Try.underlying74, rfl⟩
theorem fdIn9 {w : World} {b : Nat} {r : Rp} (h : fdE.In w b r) : w.cell? ⟨b, 0, none⟩ = some (.int .i64 r.d) ∧ w.cell? ⟨b, 1, none⟩ = some (.int .i64 r.i) ∧ w.cell? ⟨b, 2, none⟩ = some (.int .i64 r.b) ∧ w.cell? ⟨b, 3, none⟩ = some (.int .i64 r.t) ∧ w.cell? ⟨b, 4, none⟩ = some (.int .i64 r.m) ∧ w.cell? ⟨b, 5, none⟩ = some (.int .i64 r.p) ∧ w.cell? ⟨b, 6, none⟩ = some (.int .i64 r.c) ∧ w.cell? ⟨b, 7, none⟩ = some (.int .i64 r.s) ∧ w.cell? ⟨b, 8, none⟩ = some (.int .i64 r.k) :=
  ⟨h.cell 0, h.cell 1, h.cell 2, h.cell 3, h.cell 4, h.cell 5, h.cell 6, h.cell 7, h.cell 8⟩
/-- One field another. -/
def setF (r : Rp) : Nat → Int → Rp
  | 0, n => { r with d := n }
  | 1, n => { r with i := n }
  | 2, n => { r with b := n }
  | 3, n => { r with t := n }
  | 4, n => { r with m := n }
  | 5, n => { r with p := n }
  | 6, n => { r with c := n }
  | 7, n => { r with s := n }
  | 8, n => { r with k := n }
  | _, _ => r
theorem setF_c (r : Rp) (n : Int) : ∀ k, k < 9 → fdE.c (setF r k n) = (fdE.c r).set k (.int .i64 n)
  | 0, _ => rfl
  | 1, _ => rfl
  | 2, _ => rfl
  | 3, _ => rfl
  | 4, _ => rfl
  | 5, _ => rfl
  | 6, _ => rfl
  | 7, _ => rfl
  | 8, _ => rfl
  | k + 9, h => absurd h (by omega)
theorem setF_take (r : Rp) (n : Int) : ∀ k, k < 9 → (rpL (setF r k n)).take (k + 1) = (rpL r).take k ++ [n]
  | 0, _ => rfl
  | 1, _ => rfl
  | 2, _ => rfl
  | 3, _ => rfl
  | 4, _ => rfl
  | 5, _ => rfl
  | 6, _ => rfl
  | 7, _ => rfl
  | 8, _ => rfl
  | k + 9, h => absurd h (by omega)
theorem fdCell {w : World} {b : Nat} {r : Rp} (h : fdE.In w b r) : ∀ k, k < 9 → w.cell? ⟨b, k, none⟩ = some (.int .i64 ((rpL r).getD k 0))
  | 0, _ => h.cell 0
  | 1, _ => h.cell 1
  | 2, _ => h.cell 2
  | 3, _ => h.cell 3
  | 4, _ => h.cell 4
  | 5, _ => h.cell 5
  | 6, _ => h.cell 6
  | 7, _ => h.cell 7
  | 8, _ => h.cell 8
  | k + 9, h => absurd h (by omega)
theorem idxFd (r : Rp) (w : World) : ∀ k, k < 9 → (Instr.index 74 (.agg #[.int .i64 r.d, .int .i64 r.i, .int .i64 r.b, .int .i64 r.t, .int .i64 r.m, .int .i64 r.p, .int .i64 r.c, .int .i64 r.s, .int .i64 r.k]) (.int .i64 (k : Nat))).run Try.prog w = .ok (.int .i64 ((rpL r).getD k 0)) w
  | 0, _ => by kernel_rfl
  | 1, _ => by kernel_rfl
  | 2, _ => by kernel_rfl
  | 3, _ => by kernel_rfl
  | 4, _ => by kernel_rfl
  | 5, _ => by kernel_rfl
  | 6, _ => by kernel_rfl
  | 7, _ => by kernel_rfl
  | 8, _ => by kernel_rfl
  | k + 9, h => absurd h (by omega)
theorem two_fd (w : World) (a : Array Value) (T : TypeId) : fdE.In ((w.alloc (.cells a T)).alloc (.cells #[.int .i64 0, .int .i64 0, .int .i64 0, .int .i64 0, .int .i64 0, .int .i64 0, .int .i64 0, .int .i64 0, .int .i64 0] 74)) (w.heap.size + 1) zeroRp := by
  have h := El.In.new (E := fdE) (w.alloc (.cells a T)) zeroRp _ rfl
  rw [alloc_size] at h; exact h
theorem two_rp (w : World) (a : Array Value) (T : TypeId) : rpE.In ((w.alloc (.cells a T)).alloc (.cells #[.int .i64 0, .int .i64 0, .int .i64 0, .int .i64 0, .int .i64 0, .int .i64 0, .int .i64 0, .int .i64 0, .int .i64 0] 37)) (w.heap.size + 1) zeroRp := by
  have h := El.In.new (E := rpE) (w.alloc (.cells a T)) zeroRp _ rfl
  rw [alloc_size] at h; exact h
set_option maxRecDepth 100000 in
set_option maxHeartbeats 2000000 in
theorem fieldsOf_any (r : Rp) (w : World) : Calls Try.prog 52 #[.agg #[.int .i64 r.d, .int .i64 r.i, .int .i64 r.b, .int .i64 r.t, .int .i64 r.m, .int .i64 r.p, .int .i64 r.c, .int .i64 r.s, .int .i64 r.k]] w fun e w' => e = .returned (.agg #[.int .i64 r.d, .int .i64 r.i, .int .i64 r.b, .int .i64 r.t, .int .i64 r.m, .int .i64 r.p, .int .i64 r.c, .int .i64 r.s, .int .i64 r.k]) ∧ Below w.heap.size w w' := by
  have hP : rpE.In ((w.alloc (.cells #[.int .i64 r.d, .int .i64 r.i, .int .i64 r.b, .int .i64 r.t, .int .i64 r.m, .int .i64 r.p, .int .i64 r.c, .int .i64 r.s, .int .i64 r.k] 37)).alloc (.cells #[.int .i64 0, .int .i64 0, .int .i64 0, .int .i64 0, .int .i64 0, .int .i64 0, .int .i64 0, .int .i64 0, .int .i64 0] 74)) w.heap.size r := (El.In.new (E := rpE) w r _ rfl).alloc _
  have hQ := two_fd w #[.int .i64 r.d, .int .i64 r.i, .int .i64 r.b, .int .i64 r.t, .int .i64 r.m, .int .i64 r.p, .int .i64 r.c, .int .i64 r.s, .int .i64 r.k] 37
  have hB := below_alloc (below_alloc (Below.refl w.heap.size w) (.cells #[.int .i64 r.d, .int .i64 r.i, .int .i64 r.b, .int .i64 r.t, .int .i64 r.m, .int .i64 r.p, .int .i64 r.c, .int .i64 r.s, .int .i64 r.k] 37)) (.cells #[.int .i64 0, .int .i64 0, .int .i64 0, .int .i64 0, .int .i64 0, .int .i64 0, .int .i64 0, .int .i64 0, .int .i64 0] 74)
  go_enter Try.func52, Try.ntmps52
  go_upto_region 1 with fail
  generalize (w.alloc (.cells #[.int .i64 r.d, .int .i64 r.i, .int .i64 r.b, .int .i64 r.t, .int .i64 r.m, .int .i64 r.p, .int .i64 r.c, .int .i64 r.s, .int .i64 r.k] 37)).alloc (.cells #[.int .i64 0, .int .i64 0, .int .i64 0, .int .i64 0, .int .i64 0, .int .i64 0, .int .i64 0, .int .i64 0, .int .i64 0] 74) = W at *
  obtain ⟨n3, h3⟩ : ∃ n, w.heap.size + 1 = n := ⟨_, rfl⟩
  obtain ⟨n2, h2⟩ : ∃ n, w.heap.size = n := ⟨_, rfl⟩
  rw [h3] at hQ ⊢
  rw [h2] at hP ⊢
  have hwn3 : w.heap.size ≤ n3 := by omega
  clear h2 h3
  obtain ⟨p0, p1, p2, p3, p4, p5, p6, p7, p8⟩ := rpIn9 hP
  go_wp2_with (first | (refine El.store fdRow rfl _ _ rfl n3 r #[.int .i64 r.d, .int .i64 r.i, .int .i64 r.b, .int .i64 r.t, .int .i64 r.m, .int .i64 r.p, .int .i64 r.c, .int .i64 r.s, .int .i64 r.k] rfl rfl rfl zeroRp hQ ?_) | fail)
  refine El.ret1 fdRow (hQ.set r _ rfl) rfl rfl rfl #[.int .i64 r.d, .int .i64 r.i, .int .i64 r.b, .int .i64 r.t, .int .i64 r.m, .int .i64 r.p, .int .i64 r.c, .int .i64 r.s, .int .i64 r.k] rfl ?_
  exact ⟨rfl, below_setRow hB hwn3 _⟩

set_option maxRecDepth 100000 in
set_option maxHeartbeats 2000000 in
theorem report_any (r : Rp) (w : World) : Calls Try.prog 60 #[.agg #[.int .i64 r.d, .int .i64 r.i, .int .i64 r.b, .int .i64 r.t, .int .i64 r.m, .int .i64 r.p, .int .i64 r.c, .int .i64 r.s, .int .i64 r.k]] w fun e w' => e = .returned (.agg #[.int .i64 r.d, .int .i64 r.i, .int .i64 r.b, .int .i64 r.t, .int .i64 r.m, .int .i64 r.p, .int .i64 r.c, .int .i64 r.s, .int .i64 r.k]) ∧ Below w.heap.size w w' := by
  have hP : fdE.In ((w.alloc (.cells #[.int .i64 r.d, .int .i64 r.i, .int .i64 r.b, .int .i64 r.t, .int .i64 r.m, .int .i64 r.p, .int .i64 r.c, .int .i64 r.s, .int .i64 r.k] 74)).alloc (.cells #[.int .i64 0, .int .i64 0, .int .i64 0, .int .i64 0, .int .i64 0, .int .i64 0, .int .i64 0, .int .i64 0, .int .i64 0] 37)) w.heap.size r := (El.In.new (E := fdE) w r _ rfl).alloc _
  have hQ := two_rp w #[.int .i64 r.d, .int .i64 r.i, .int .i64 r.b, .int .i64 r.t, .int .i64 r.m, .int .i64 r.p, .int .i64 r.c, .int .i64 r.s, .int .i64 r.k] 74
  have hB := below_alloc (below_alloc (Below.refl w.heap.size w) (.cells #[.int .i64 r.d, .int .i64 r.i, .int .i64 r.b, .int .i64 r.t, .int .i64 r.m, .int .i64 r.p, .int .i64 r.c, .int .i64 r.s, .int .i64 r.k] 74)) (.cells #[.int .i64 0, .int .i64 0, .int .i64 0, .int .i64 0, .int .i64 0, .int .i64 0, .int .i64 0, .int .i64 0, .int .i64 0] 37)
  go_enter Try.func60, Try.ntmps60
  go_upto_region 1 with fail
  generalize (w.alloc (.cells #[.int .i64 r.d, .int .i64 r.i, .int .i64 r.b, .int .i64 r.t, .int .i64 r.m, .int .i64 r.p, .int .i64 r.c, .int .i64 r.s, .int .i64 r.k] 74)).alloc (.cells #[.int .i64 0, .int .i64 0, .int .i64 0, .int .i64 0, .int .i64 0, .int .i64 0, .int .i64 0, .int .i64 0, .int .i64 0] 37) = W at *
  obtain ⟨n3, h3⟩ : ∃ n, w.heap.size + 1 = n := ⟨_, rfl⟩
  obtain ⟨n2, h2⟩ : ∃ n, w.heap.size = n := ⟨_, rfl⟩
  rw [h3] at hQ ⊢
  rw [h2] at hP ⊢
  have hwn3 : w.heap.size ≤ n3 := by omega
  clear h2 h3
  obtain ⟨p0, p1, p2, p3, p4, p5, p6, p7, p8⟩ := fdIn9 hP
  go_wp2_with (first | (refine El.store rpRow rfl _ _ rfl n3 r #[.int .i64 r.d, .int .i64 r.i, .int .i64 r.b, .int .i64 r.t, .int .i64 r.m, .int .i64 r.p, .int .i64 r.c, .int .i64 r.s, .int .i64 r.k] rfl rfl rfl zeroRp hQ ?_) | fail)
  refine El.ret1 rpRow (hQ.set r _ rfl) rfl rfl rfl #[.int .i64 r.d, .int .i64 r.i, .int .i64 r.b, .int .i64 r.t, .int .i64 r.m, .int .i64 r.p, .int .i64 r.c, .int .i64 r.s, .int .i64 r.k] rfl ?_
  exact ⟨rfl, below_setRow hB hwn3 _⟩
theorem isNums_none9 {s : ByteArray} {p k : Nat} (hk : k ≤ 9) (h : isNums s k p = none) : isNums s 9 p = none := by
  have := isNums_none s p k h (9 - k)
  rw [show k + (9 - k) = 9 by omega] at this; exact this
/-- Behind k numbers: all read, or it went wrong. -/
def fdState (s : ByteArray) (p : Nat) (bad : Bool) (k : Nat) (x : Rp) (q : Nat) (b : Bool) : Prop := (b = false ∧ bad = false ∧ isNums s k p = some ((rpL x).take k, q)) ∨ (b = true ∧ isRp s p bad = none)
theorem fdState.zero (s : ByteArray) (p : Nat) (bad : Bool) (x : Rp) : fdState s p bad 0 x p bad := by
  cases bad
  · exact Or.inl ⟨rfl, rfl, rfl⟩
  · exact Or.inr ⟨rfl, rfl⟩
theorem fdState.next {s : ByteArray} {p : Nat} {bad : Bool} {k : Nat} {x : Rp} {q : Nat} {b : Bool} {v : Int} {q' : Nat} {b' : Bool} (hk : k < 9) (h : fdState s p bad k x q b) (hs : numStep s q b v q' b') : fdState s p bad (k + 1) (setF x k v) q' b' := by
  rcases h with ⟨rfl, rfl, hn⟩ | ⟨rfl, hn⟩
  · rcases hs with ⟨h1, rfl⟩ | ⟨h1, _, rfl⟩
    · refine Or.inl ⟨rfl, rfl, ?_⟩
      rw [isNums_next, hn, Option.bind_some, h1, Option.bind_some, setF_take x v k hk]
    · refine Or.inr ⟨rfl, ?_⟩
      have h2 : isNums s (k + 1) p = none := by rw [isNums_next, hn, Option.bind_some, h1]; rfl
      unfold isRp
      rw [if_neg (by decide), isNums_none9 (by omega) h2]; rfl
  · rcases hs with ⟨h1, _⟩ | ⟨_, _, rfl⟩
    · rw [isNum_bad] at h1; cases h1
    · exact Or.inr ⟨rfl, hn⟩
theorem fdState.last {s : ByteArray} {p : Nat} {bad : Bool} {x : Rp} {q : Nat} (h : fdState s p bad 9 x q false) : isRp s p bad = if rpB x = true then some (x, q) else none := by
  rcases h with ⟨_, rfl, hn⟩ | ⟨h, _⟩
  · unfold isRp
    rw [if_neg (by decide), hn, Option.bind_some]
    rfl
  · cases h
theorem fdState.ill {s : ByteArray} {p : Nat} {bad : Bool} {x : Rp} {q : Nat} (h : fdState s p bad 9 x q true) : isRp s p bad = none := by
  rcases h with ⟨h, _⟩ | ⟨_, h⟩
  · cases h
  · exact h
end Go.Proofs.Ytjjjpifdmgpnjaa

/- The program's reports: bounds, right, Right. -/
namespace Go.Proofs.Ytjjjpifdmgpnjaa
open Go.RowKit Cod

theorem fd_ret2 {fn : Func} {K : Ending → World → Prop} {a : Act} {w : World} {b c : Nat} {t u : Tmp} {x y : Rp} (h : fdE.In w b x) (h2 : fdE.In w c y) (hr : fn.results = #[.cell t 74, .cell u 74]) (hp : a.tmps.getD t undef = .pointer (some ⟨b, 0, none⟩)) (hq : a.tmps.getD u undef = .pointer (some ⟨c, 0, none⟩)) (hd : a.defers = [])
    (hR : K (.returned (.tuple #[.agg #[.int .i64 x.d, .int .i64 x.i, .int .i64 x.b, .int .i64 x.t, .int .i64 x.m, .int .i64 x.p, .int .i64 x.c, .int .i64 x.s, .int .i64 x.k], .agg #[.int .i64 y.d, .int .i64 y.i, .int .i64 y.b, .int .i64 y.t, .int .i64 y.m, .int .i64 y.p, .int .i64 y.c, .int .i64 y.s, .int .i64 y.k]])) w) : bodyPost Try.prog fn K .ret a w := by
  refine bodyPost_ret (v := .tuple #[.agg #[.int .i64 x.d, .int .i64 x.i, .int .i64 x.b, .int .i64 x.t, .int .i64 x.m, .int .i64 x.p, .int .i64 x.c, .int .i64 x.s, .int .i64 x.k], .agg #[.int .i64 y.d, .int .i64 y.i, .int .i64 y.b, .int .i64 y.t, .int .i64 y.m, .int .i64 y.p, .int .i64 y.c, .int .i64 y.s, .int .i64 y.k]]) ?_ hd hR
  have hp' : a.tmps[t]?.getD undef = .pointer (some ⟨b, 0, none⟩) := by simpa using hp
  have hq' : a.tmps[u]?.getD undef = .pointer (some ⟨c, 0, none⟩) := by simpa using hq
  have l1 : (loadVar 74 ⟨b, 0, none⟩).run Try.prog w = .ok (.agg #[.int .i64 x.d, .int .i64 x.i, .int .i64 x.b, .int .i64 x.t, .int .i64 x.m, .int .i64 x.p, .int .i64 x.c, .int .i64 x.s, .int .i64 x.k]) w := El.run_load fdRow h.at
  have l2 : (loadVar 74 ⟨c, 0, none⟩).run Try.prog w = .ok (.agg #[.int .i64 y.d, .int .i64 y.i, .int .i64 y.b, .int .i64 y.t, .int .i64 y.m, .int .i64 y.p, .int .i64 y.c, .int .i64 y.s, .int .i64 y.k]) w := El.run_load fdRow h2.at
  simp [results, hr, hp', hq', asAddr, l1, l2]
theorem below_setC {W w : World} (h : Below W.heap.size W w) (n i : Nat) (v : Value) (hn : W.heap.size ≤ n) : Below W.heap.size W (w.setCell ⟨n, i, none⟩ v) := Below.setCell h (show W.heap.size ≤ (⟨n, i, none⟩ : Addr).block from hn) v
/-- Bounds with the first k laid. -/
def mostK : Nat → Rp
  | 0 => zeroRp
  | k + 1 => setF (mostK k) k 1099511627776
def loB : Rp := ⟨0, 1, 0, 0, 1, 0, 0, 0, 0⟩
def hiB : Rp := ⟨11, 1099511627776, 1099511627776, 1099511627776, 2, 1099511627776, 1099511627776, 1099511627776, 1099511627776⟩
def FdS (n : Nat) (r : Rp) (w : World) : Prop := w.cell? ⟨n, 0, none⟩ = some (.int .i64 r.d) ∧ w.cell? ⟨n, 1, none⟩ = some (.int .i64 r.i) ∧ w.cell? ⟨n, 2, none⟩ = some (.int .i64 r.b) ∧ w.cell? ⟨n, 3, none⟩ = some (.int .i64 r.t) ∧ w.cell? ⟨n, 4, none⟩ = some (.int .i64 r.m) ∧ w.cell? ⟨n, 5, none⟩ = some (.int .i64 r.p) ∧ w.cell? ⟨n, 6, none⟩ = some (.int .i64 r.c) ∧ w.cell? ⟨n, 7, none⟩ = some (.int .i64 r.s) ∧ w.cell? ⟨n, 8, none⟩ = some (.int .i64 r.k)
set_option maxRecDepth 100000 in
set_option maxHeartbeats 2000000 in
theorem bounds_any (w : World) : Calls Try.prog 61 #[] w fun e w' => e = .returned (.tuple #[.agg #[.int .i64 loB.d, .int .i64 loB.i, .int .i64 loB.b, .int .i64 loB.t, .int .i64 loB.m, .int .i64 loB.p, .int .i64 loB.c, .int .i64 loB.s, .int .i64 loB.k], .agg #[.int .i64 hiB.d, .int .i64 hiB.i, .int .i64 hiB.b, .int .i64 hiB.t, .int .i64 hiB.m, .int .i64 hiB.p, .int .i64 hiB.c, .int .i64 hiB.s, .int .i64 hiB.k]]) ∧ Below w.heap.size w w' := by
  have hP : fdE.In ((w.alloc (.cells #[.int .i64 0, .int .i64 0, .int .i64 0, .int .i64 0, .int .i64 0, .int .i64 0, .int .i64 0, .int .i64 0, .int .i64 0] 74)).alloc (.cells #[.int .i64 0, .int .i64 0, .int .i64 0, .int .i64 0, .int .i64 0, .int .i64 0, .int .i64 0, .int .i64 0, .int .i64 0] 74)) w.heap.size zeroRp := (El.In.new (E := fdE) w zeroRp _ rfl).alloc _
  have hQ := two_fd w #[.int .i64 0, .int .i64 0, .int .i64 0, .int .i64 0, .int .i64 0, .int .i64 0, .int .i64 0, .int .i64 0, .int .i64 0] 74
  have hB := below_alloc (below_alloc (Below.refl w.heap.size w) (.cells #[.int .i64 0, .int .i64 0, .int .i64 0, .int .i64 0, .int .i64 0, .int .i64 0, .int .i64 0, .int .i64 0, .int .i64 0] 74)) (.cells #[.int .i64 0, .int .i64 0, .int .i64 0, .int .i64 0, .int .i64 0, .int .i64 0, .int .i64 0, .int .i64 0, .int .i64 0] 74)
  go_enter Try.func61, Try.ntmps61
  go_upto_region 1 with fail
  generalize (w.alloc (.cells #[.int .i64 0, .int .i64 0, .int .i64 0, .int .i64 0, .int .i64 0, .int .i64 0, .int .i64 0, .int .i64 0, .int .i64 0] 74)).alloc (.cells #[.int .i64 0, .int .i64 0, .int .i64 0, .int .i64 0, .int .i64 0, .int .i64 0, .int .i64 0, .int .i64 0, .int .i64 0] 74) = W at *
  obtain ⟨n3, h3⟩ : ∃ n, w.heap.size + 1 = n := ⟨_, rfl⟩
  obtain ⟨n2, h2⟩ : ∃ n, w.heap.size = n := ⟨_, rfl⟩
  rw [h3] at hQ ⊢
  rw [h2] at hP ⊢
  have hwn3 : w.heap.size ≤ n3 := by omega
  have hwn2 : w.heap.size ≤ n2 := by omega
  have hne : n2 ≠ n3 := by omega
  have hne' : n3 ≠ n2 := by omega
  clear h2 h3
  go_wp2_with fail
  go_loopw [3] (fun i wr => ∃ k : Nat, k ≤ 9 ∧ i = .int .i64 k ∧ fdE.In wr n2 zeroRp ∧ fdE.In wr n3 (mostK k) ∧ Below w.heap.size w wr) (fun i _ => 9 - (intOf i).toNat)
  case atStart => exact ⟨0, Nat.zero_le _, rfl, hP, hQ, hB⟩
  case round =>
    clear hP hQ hB
    obtain ⟨k, hk, rfl, hP, hQ, hB⟩ := hrel
    by_cases hkl : k < 9
    · have c0 := fdCell hQ k hkl
      have cf := hQ.frozen k
      have hQ2 : fdE.In (wr.setCell ⟨n3, k, none⟩ (.int .i64 1099511627776)) n3 (mostK (k + 1)) := hQ.put _ k _ (setF_c (mostK k) 1099511627776 k hkl)
      have hP2 := hP.other n3 k (.int .i64 1099511627776) hne
      have hB2 := below_setC hB n3 k (.int .i64 1099511627776) hwn3
      generalize (rpL (mostK k)).getD k 0 = x at *
      clear hP hQ
      go_wp2_with fail
      exact ⟨⟨k + 1, by omega, by go_num, hP2, hQ2, hB2⟩, by simp [intOf]; omega⟩
    · obtain rfl : k = 9 := by omega
      clear hkl
      have c0 : wr.cell? ⟨n3, 0, none⟩ = _ := fdCell hQ 0 (by decide)
      have c1 : wr.cell? ⟨n2, 1, none⟩ = _ := fdCell hP 1 (by decide)
      have c2 : wr.cell? ⟨n2, 4, none⟩ = _ := fdCell hP 4 (by decide)
      have c3 : wr.cell? ⟨n3, 4, none⟩ = _ := fdCell hQ 4 (by decide)
      have f1 := hP.frozen
      have f2 := hQ.frozen
      have hP1 := hP.other n3 0 (.int .i64 11) hne
      have hQ1 : fdE.In (wr.setCell ⟨n3, 0, none⟩ (.int .i64 11)) n3 (setF (mostK 9) 0 11) := hQ.put _ 0 _ rfl
      replace hB := below_setC hB n3 0 (.int .i64 11) hwn3
      clear hP hQ
      have hQ2 := hQ1.other n2 1 (.int .i64 1) hne'
      have hP2 := hP1.put (setF zeroRp 1 1) 1 (.int .i64 1) rfl
      replace hB := below_setC hB n2 1 (.int .i64 1) hwn2
      clear hP1 hQ1
      have hQ1 := hQ2.other n2 4 (.int .i64 1) hne'
      have hP1 := hP2.put (setF (setF zeroRp 1 1) 4 1) 4 (.int .i64 1) rfl
      replace hB := below_setC hB n2 4 (.int .i64 1) hwn2
      clear hP2 hQ2
      have hP2 := hP1.other n3 4 (.int .i64 2) hne
      have hQ2 := hQ1.put hiB 4 (.int .i64 2) rfl
      replace hB := below_setC hB n3 4 (.int .i64 2) hwn3
      clear hP1 hQ1
      replace hP2 : fdE.In _ n2 loB := hP2
      go_upto_region 9 with fail
      clear c0 c1 c2 c3 f1 f2
      generalize (((wr.setCell ⟨n3, 0, none⟩ (.int .i64 11)).setCell ⟨n2, 1, none⟩ (.int .i64 1)).setCell ⟨n2, 4, none⟩ (.int .i64 1)).setCell ⟨n3, 4, none⟩ (.int .i64 2) = V at *
      refine region_anyG (S := fun w' => FdS n2 loB w' ∧ FdS n3 hiB w') 3 (by kernel_rfl) ?_
      replace hP2 : fdE.In V.drew n2 loB := hP2
      replace hQ2 : fdE.In V.drew n3 hiB := hQ2
      replace hB := hB.drew
      generalize V.drew = U at *
      have hS : FdS n2 loB U ∧ FdS n3 hiB U := ⟨fdIn9 hP2, fdIn9 hQ2⟩
      refine anyG_take (i := 0) (v := .agg #[.int .i64 loB.d, .int .i64 loB.i, .int .i64 loB.b, .int .i64 loB.t, .int .i64 loB.m, .int .i64 loB.p, .int .i64 loB.c, .int .i64 loB.s, .int .i64 loB.k]) rfl (by kernel_rfl) (by kernel_rfl) (by kernel_rfl) (by kernel_rfl) (by kernel_rfl) (fun _ _ _ h => h) (Or.inl ⟨by rfl, fun w' hSw => by (obtain ⟨⟨s0, s1, s2, s3, s4, s5, s6, s7, s8⟩, t0, t1, t2, t3, t4, t5, t6, t7, t8⟩ := hSw; go_simp)⟩) hS ?_
      try simp only [Act.put, List.setIfInBounds_toArray, List.set_cons_zero, List.set_cons_succ]
      refine anyG_take (i := 1) (v := .agg #[.int .i64 hiB.d, .int .i64 hiB.i, .int .i64 hiB.b, .int .i64 hiB.t, .int .i64 hiB.m, .int .i64 hiB.p, .int .i64 hiB.c, .int .i64 hiB.s, .int .i64 hiB.k]) rfl (by kernel_rfl) (by kernel_rfl) (by kernel_rfl) (by kernel_rfl) (by kernel_rfl) (fun _ _ _ h => h) (Or.inl ⟨by rfl, fun w' hSw => by (obtain ⟨⟨s0, s1, s2, s3, s4, s5, s6, s7, s8⟩, t0, t1, t2, t3, t4, t5, t6, t7, t8⟩ := hSw; go_simp)⟩) hS ?_
      try simp only [Act.put, List.setIfInBounds_toArray, List.set_cons_zero, List.set_cons_succ]
      refine anyG_step (rs := [2]) (by kernel_rfl) (by simp) ?_
      refine AllG.cons rfl (fun K hK => ?_) AllG.nil
      refine El.step_store fdRow rfl _ _ rfl n2 loB #[.int .i64 loB.d, .int .i64 loB.i, .int .i64 loB.b, .int .i64 loB.t, .int .i64 loB.m, .int .i64 loB.p, .int .i64 loB.c, .int .i64 loB.s, .int .i64 loB.k] rfl rfl rfl loB hP2 ?_
      replace hB := below_setRow hB hwn2 (fdE.c loB).toArray
      replace hQ2 := hQ2.rowN n2 (fdE.c loB).toArray hne'
      replace hP2 := hP2.set loB _ rfl
      refine hK.out _ _ ⟨fdIn9 hP2, fdIn9 hQ2⟩ ?_
      simp only [Act.put]
      clear hK hS
      refine anyG_step (rs := [3]) (by kernel_rfl) (by simp) ?_
      refine AllG.last (n := 3) rfl (fun K hK => ?_)
      refine El.step_store fdRow rfl _ _ rfl n3 hiB #[.int .i64 hiB.d, .int .i64 hiB.i, .int .i64 hiB.b, .int .i64 hiB.t, .int .i64 hiB.m, .int .i64 hiB.p, .int .i64 hiB.c, .int .i64 hiB.s, .int .i64 hiB.k] rfl rfl rfl hiB hQ2 ?_
      replace hB := below_setRow hB hwn3 (fdE.c hiB).toArray
      replace hP2 := hP2.rowN n3 (fdE.c hiB).toArray hne
      replace hQ2 := hQ2.set hiB _ rfl
      refine hK.out _ _ ?_
      clear hK
      refine anyG_done (by kernel_rfl) ?_ _
      go_wp2_with fail
      refine fd_ret2 hP2 hQ2 rfl rfl rfl rfl ?_
      exact ⟨rfl, hB⟩
end Go.Proofs.Ytjjjpifdmgpnjaa

/- The program's reports: right of an array of fields, Right. -/
namespace Go.Proofs.Ytjjjpifdmgpnjaa
open Go.RowKit Cod

def inB (r : Rp) (k : Nat) : Bool := decide ((rpL loB).getD k 0 ≤ (rpL r).getD k 0 ∧ (rpL r).getD k 0 ≤ (rpL hiB).getD k 0)
theorem inB_all {r : Rp} (h : ∀ k, k < 9 → inB r k = true) : rpB r = true := by
  have h0 : (0 : Int) ≤ r.d ∧ r.d ≤ 11 := of_decide_eq_true (h 0 (by decide))
  have h1 : (1 : Int) ≤ r.i ∧ r.i ≤ 1099511627776 := of_decide_eq_true (h 1 (by decide))
  have h2 : (0 : Int) ≤ r.b ∧ r.b ≤ 1099511627776 := of_decide_eq_true (h 2 (by decide))
  have h3 : (0 : Int) ≤ r.t ∧ r.t ≤ 1099511627776 := of_decide_eq_true (h 3 (by decide))
  have h4 : (1 : Int) ≤ r.m ∧ r.m ≤ 2 := of_decide_eq_true (h 4 (by decide))
  have h5 : (0 : Int) ≤ r.p ∧ r.p ≤ 1099511627776 := of_decide_eq_true (h 5 (by decide))
  have h6 : (0 : Int) ≤ r.c ∧ r.c ≤ 1099511627776 := of_decide_eq_true (h 6 (by decide))
  have h7 : (0 : Int) ≤ r.s ∧ r.s ≤ 1099511627776 := of_decide_eq_true (h 7 (by decide))
  have h8 : (0 : Int) ≤ r.k ∧ r.k ≤ 1099511627776 := of_decide_eq_true (h 8 (by decide))
  exact rpB_iff.2 ⟨by omega, by omega, h1, h2, h3, h5, h6, h7, h8⟩
theorem inB_of {r : Rp} (h : RpR r) : ∀ k, k < 9 → inB r k = true
  | 0, _ => decide_eq_true (show (0 : Int) ≤ r.d ∧ r.d ≤ 11 from by have := h.d; omega)
  | 1, _ => decide_eq_true (show (1 : Int) ≤ r.i ∧ r.i ≤ 1099511627776 from h.i)
  | 2, _ => decide_eq_true (show (0 : Int) ≤ r.b ∧ r.b ≤ 1099511627776 from h.b)
  | 3, _ => decide_eq_true (show (0 : Int) ≤ r.t ∧ r.t ≤ 1099511627776 from h.t)
  | 4, _ => decide_eq_true (show (1 : Int) ≤ r.m ∧ r.m ≤ 2 from by have := h.m; omega)
  | 5, _ => decide_eq_true (show (0 : Int) ≤ r.p ∧ r.p ≤ 1099511627776 from h.p)
  | 6, _ => decide_eq_true (show (0 : Int) ≤ r.c ∧ r.c ≤ 1099511627776 from h.c)
  | 7, _ => decide_eq_true (show (0 : Int) ≤ r.s ∧ r.s ≤ 1099511627776 from h.s)
  | 8, _ => decide_eq_true (show (0 : Int) ≤ r.k ∧ r.k ≤ 1099511627776 from h.k)
  | k + 9, h => absurd h (by omega)
theorem inB_out {r : Rp} {k : Nat} (hk : k < 9) (h : inB r k = false) : rpB r = false := by
  rw [Bool.eq_false_iff]; intro hb
  rw [inB_of (rpB_iff.1 hb) k hk] at h; cases h
set_option maxRecDepth 100000 in
set_option maxHeartbeats 2000000 in
theorem fdRight_any (r : Rp) (w : World) : Calls Try.prog 57 #[.agg #[.int .i64 r.d, .int .i64 r.i, .int .i64 r.b, .int .i64 r.t, .int .i64 r.m, .int .i64 r.p, .int .i64 r.c, .int .i64 r.s, .int .i64 r.k]] w fun e w' => e = .returned (.bool (rpB r)) ∧ Below w.heap.size w w' := by
  have hP : fdE.In (w.alloc (.cells #[.int .i64 r.d, .int .i64 r.i, .int .i64 r.b, .int .i64 r.t, .int .i64 r.m, .int .i64 r.p, .int .i64 r.c, .int .i64 r.s, .int .i64 r.k] 74)) w.heap.size r := El.In.new (E := fdE) w r _ rfl
  have hB := below_alloc (Below.refl w.heap.size w) (.cells #[.int .i64 r.d, .int .i64 r.i, .int .i64 r.b, .int .i64 r.t, .int .i64 r.m, .int .i64 r.p, .int .i64 r.c, .int .i64 r.s, .int .i64 r.k] 74)
  have HC0 := Lib.hid (fun (j : Nat) (hj : j < 0) => (absurd hj (Nat.not_lt_zero j) : inB r j = true))
  obtain ⟨bv, hbv⟩ : ∃ bv, rpB r = bv := ⟨_, rfl⟩
  rw [hbv]
  have HV := Lib.hid hbv
  clear hbv
  go_enter Try.func57, Try.ntmps57
  go_wp2_with fail
  generalize w.alloc (.cells #[.int .i64 r.d, .int .i64 r.i, .int .i64 r.b, .int .i64 r.t, .int .i64 r.m, .int .i64 r.p, .int .i64 r.c, .int .i64 r.s, .int .i64 r.k] 74) = W at *
  obtain ⟨n1, h1⟩ : ∃ n, w.heap.size = n := ⟨_, rfl⟩
  rw [h1] at hP ⊢
  have hn1 : w.heap.size ≤ n1 := by omega
  clear h1
  refine (bounds_any W).mono ?_
  rintro e w1 ⟨rfl, hb1⟩
  replace hP := hP.below hb1
  replace hB := below_then hB hb1
  clear hb1
  have hL : fdE.In ((w1.alloc (.cells #[.int .i64 0, .int .i64 0, .int .i64 0, .int .i64 0, .int .i64 0, .int .i64 0, .int .i64 0, .int .i64 0, .int .i64 0] 74)).alloc (.cells #[.int .i64 0, .int .i64 0, .int .i64 0, .int .i64 0, .int .i64 0, .int .i64 0, .int .i64 0, .int .i64 0, .int .i64 0] 74)) w1.heap.size zeroRp := (El.In.new (E := fdE) w1 zeroRp _ rfl).alloc _
  have hM := two_fd w1 #[.int .i64 0, .int .i64 0, .int .i64 0, .int .i64 0, .int .i64 0, .int .i64 0, .int .i64 0, .int .i64 0, .int .i64 0] 74
  have hnb := hP.lt
  replace hP := (hP.alloc (.cells #[.int .i64 0, .int .i64 0, .int .i64 0, .int .i64 0, .int .i64 0, .int .i64 0, .int .i64 0, .int .i64 0, .int .i64 0] 74)).alloc (.cells #[.int .i64 0, .int .i64 0, .int .i64 0, .int .i64 0, .int .i64 0, .int .i64 0, .int .i64 0, .int .i64 0, .int .i64 0] 74)
  have hwn1 := hB.size
  replace hB := below_alloc (below_alloc hB (.cells #[.int .i64 0, .int .i64 0, .int .i64 0, .int .i64 0, .int .i64 0, .int .i64 0, .int .i64 0, .int .i64 0, .int .i64 0] 74)) (.cells #[.int .i64 0, .int .i64 0, .int .i64 0, .int .i64 0, .int .i64 0, .int .i64 0, .int .i64 0, .int .i64 0, .int .i64 0] 74)
  have hL2 := hL.set loB #[.int .i64 loB.d, .int .i64 loB.i, .int .i64 loB.b, .int .i64 loB.t, .int .i64 loB.m, .int .i64 loB.p, .int .i64 loB.c, .int .i64 loB.s, .int .i64 loB.k] rfl
  have hM1 := hM.rowN w1.heap.size #[.int .i64 loB.d, .int .i64 loB.i, .int .i64 loB.b, .int .i64 loB.t, .int .i64 loB.m, .int .i64 loB.p, .int .i64 loB.c, .int .i64 loB.s, .int .i64 loB.k] (by omega)
  have hL3 := hL2.rowN (w1.heap.size + 1) #[.int .i64 hiB.d, .int .i64 hiB.i, .int .i64 hiB.b, .int .i64 hiB.t, .int .i64 hiB.m, .int .i64 hiB.p, .int .i64 hiB.c, .int .i64 hiB.s, .int .i64 hiB.k] (by omega)
  have hM3 := hM1.set hiB #[.int .i64 hiB.d, .int .i64 hiB.i, .int .i64 hiB.b, .int .i64 hiB.t, .int .i64 hiB.m, .int .i64 hiB.p, .int .i64 hiB.c, .int .i64 hiB.s, .int .i64 hiB.k] rfl
  have hP2 := (hP.rowN w1.heap.size #[.int .i64 loB.d, .int .i64 loB.i, .int .i64 loB.b, .int .i64 loB.t, .int .i64 loB.m, .int .i64 loB.p, .int .i64 loB.c, .int .i64 loB.s, .int .i64 loB.k] (by omega)).rowN (w1.heap.size + 1) #[.int .i64 hiB.d, .int .i64 hiB.i, .int .i64 hiB.b, .int .i64 hiB.t, .int .i64 hiB.m, .int .i64 hiB.p, .int .i64 hiB.c, .int .i64 hiB.s, .int .i64 hiB.k] (by omega)
  have hB2 := below_setRow (below_setRow hB hwn1 #[.int .i64 loB.d, .int .i64 loB.i, .int .i64 loB.b, .int .i64 loB.t, .int .i64 loB.m, .int .i64 loB.p, .int .i64 loB.c, .int .i64 loB.s, .int .i64 loB.k]) (show w.heap.size ≤ w1.heap.size + 1 by omega) #[.int .i64 hiB.d, .int .i64 hiB.i, .int .i64 hiB.b, .int .i64 hiB.t, .int .i64 hiB.m, .int .i64 hiB.p, .int .i64 hiB.c, .int .i64 hiB.s, .int .i64 hiB.k]
  clear hP hB hL2
  go_upto_region 2 with (first | (refine El.store fdRow rfl _ _ rfl w1.heap.size loB #[.int .i64 loB.d, .int .i64 loB.i, .int .i64 loB.b, .int .i64 loB.t, .int .i64 loB.m, .int .i64 loB.p, .int .i64 loB.c, .int .i64 loB.s, .int .i64 loB.k] rfl rfl rfl zeroRp hL ?_) | (refine El.store fdRow rfl _ _ rfl (w1.heap.size + 1) hiB #[.int .i64 hiB.d, .int .i64 hiB.i, .int .i64 hiB.b, .int .i64 hiB.t, .int .i64 hiB.m, .int .i64 hiB.p, .int .i64 hiB.c, .int .i64 hiB.s, .int .i64 hiB.k] rfl rfl rfl zeroRp hM1 ?_) | fail)
  clear hL hM hM1
  generalize (((w1.alloc (.cells #[.int .i64 0, .int .i64 0, .int .i64 0, .int .i64 0, .int .i64 0, .int .i64 0, .int .i64 0, .int .i64 0, .int .i64 0] 74)).alloc (.cells #[.int .i64 0, .int .i64 0, .int .i64 0, .int .i64 0, .int .i64 0, .int .i64 0, .int .i64 0, .int .i64 0, .int .i64 0] 74)).setRow w1.heap.size #[.int .i64 loB.d, .int .i64 loB.i, .int .i64 loB.b, .int .i64 loB.t, .int .i64 loB.m, .int .i64 loB.p, .int .i64 loB.c, .int .i64 loB.s, .int .i64 loB.k]).setRow (w1.heap.size + 1) #[.int .i64 hiB.d, .int .i64 hiB.i, .int .i64 hiB.b, .int .i64 hiB.t, .int .i64 hiB.m, .int .i64 hiB.p, .int .i64 hiB.c, .int .i64 hiB.s, .int .i64 hiB.k] = V at *
  generalize w1.heap.size + 1 = n4 at *
  generalize w1.heap.size = n3 at *
  go_upto_region 3 with (first | (refine El.load fdRow rfl _ rfl n1 0 rfl r hP2.at #[.int .i64 r.d, .int .i64 r.i, .int .i64 r.b, .int .i64 r.t, .int .i64 r.m, .int .i64 r.p, .int .i64 r.c, .int .i64 r.s, .int .i64 r.k] rfl ?_) | fail)
  have HL := Lib.hid (fun k hk => fdCell hL3 k hk)
  have HM := Lib.hid (fun k hk => fdCell hM3 k hk)
  clear hL3 hM3 hP2 hnb
  go_loopw [12] (fun i wr => ∃ k : Nat, k ≤ 9 ∧ i = .int .i64 k ∧ Hid (∀ j, j < k → inB r j = true) ∧ V = wr) (fun i _ => 9 - (intOf i).toNat)
  case atStart => exact ⟨0, Nat.zero_le _, rfl, HC0, rfl⟩
  case round =>
    clear HC0
    obtain ⟨k, hk, rfl, HC, rfl⟩ := hrel
    by_cases hkl : k < 9
    · have hx := fun wx => idxFd r wx k hkl
      have c1 := HL.out k hkl
      have c2 := HM.out k hkl
      have HO := Lib.hid (inB_out (r := r) hkl)
      have HN := Lib.hid (fun (h : inB r k = true) (j : Nat) (hj : j < k + 1) => (by
        by_cases e : j < k
        · exact HC.out j e
        · obtain rfl : j = k := by omega
          exact h : inB r j = true))
      have HI := Lib.hid (show inB r k = decide ((rpL loB).getD k 0 ≤ (rpL r).getD k 0 ∧ (rpL r).getD k 0 ≤ (rpL hiB).getD k 0) from rfl)
      generalize (rpL r).getD k 0 = n at *
      generalize (rpL loB).getD k 0 = lo at *
      generalize (rpL hiB).getD k 0 = hi at *
      by_cases h0 : n < lo
      · have hv := HO.out (HI.out.trans (decide_eq_false (by omega)))
        obtain rfl : false = bv := hv.symm.trans HV.out
        have f1 : decide (n < lo) = true := decide_eq_true h0
        clear hv
        go_wp2_with fail
        go_ret
        exact ⟨rfl, hB2⟩
      · have f1 : decide (n < lo) = false := decide_eq_false h0
        by_cases h1 : hi < n
        · have hv := HO.out (HI.out.trans (decide_eq_false (by omega)))
          obtain rfl : false = bv := hv.symm.trans HV.out
          have f2 : decide (hi < n) = true := decide_eq_true h1
          clear hv
          go_wp2_with fail
          go_ret
          exact ⟨rfl, hB2⟩
        · have f2 : decide (hi < n) = false := decide_eq_false h1
          have HN2 := Lib.hid (HN.out (HI.out.trans (decide_eq_true (by omega))))
          go_wp2_with fail
          exact ⟨⟨k + 1, by omega, by go_num, HN2, by trivial⟩, by simp [intOf]; omega⟩
    · obtain rfl : k = 9 := by omega
      have hv := (inB_all HC.out).symm.trans HV.out
      subst hv
      go_wp2_with fail
      go_ret
      exact ⟨rfl, hB2⟩

set_option maxRecDepth 100000 in
set_option maxHeartbeats 2000000 in
theorem rpRight_any (r : Rp) (w : World) : Calls Try.prog 48 #[.agg #[.int .i64 r.d, .int .i64 r.i, .int .i64 r.b, .int .i64 r.t, .int .i64 r.m, .int .i64 r.p, .int .i64 r.c, .int .i64 r.s, .int .i64 r.k]] w fun e w' => e = .returned (.bool (rpB r)) ∧ Below w.heap.size w w' := by
  have hP : rpE.In (w.alloc (.cells #[.int .i64 r.d, .int .i64 r.i, .int .i64 r.b, .int .i64 r.t, .int .i64 r.m, .int .i64 r.p, .int .i64 r.c, .int .i64 r.s, .int .i64 r.k] 37)) w.heap.size r := El.In.new (E := rpE) w r _ rfl
  have hB := below_alloc (Below.refl w.heap.size w) (.cells #[.int .i64 r.d, .int .i64 r.i, .int .i64 r.b, .int .i64 r.t, .int .i64 r.m, .int .i64 r.p, .int .i64 r.c, .int .i64 r.s, .int .i64 r.k] 37)
  have C1 := Lib.hid (fun wx => fieldsOf_any r wx)
  have C2 := Lib.hid (fun wx => fdRight_any r wx)
  generalize rpB r = bv at *
  go_enter Try.func48, Try.ntmps48
  go_wp2_with (first | (refine El.load rpRow rfl _ rfl w.heap.size 0 rfl r hP.at #[.int .i64 r.d, .int .i64 r.i, .int .i64 r.b, .int .i64 r.t, .int .i64 r.m, .int .i64 r.p, .int .i64 r.c, .int .i64 r.s, .int .i64 r.k] rfl ?_) | fail)
  refine (C1.out _).mono ?_
  rintro e w1 ⟨rfl, hb1⟩
  replace hB := below_then hB hb1
  go_wp2_with fail
  refine (C2.out _).mono ?_
  rintro e w2 ⟨rfl, hb2⟩
  go_wp2_with fail
  go_ret
  exact ⟨rfl, below_then hB hb2⟩
end Go.Proofs.Ytjjjpifdmgpnjaa

/- The library's Compare of two ints and of two rows of three; the program's Newer. -/
namespace Go.Proofs.Ytjjjpifdmgpnjaa
open Go.RowKit Cod

def sgnI (a b : Int) : Int := if a < b then -1 else if b < a then 1 else 0
/-- A region's ways brought to one: the frame behind it is F of two blocks, whatever the way. -/
def MergeN (F : Nat → Nat → Act) (R : Nat → Nat → World → Prop) : Exit → Act → World → Prop
  | .normal, a, w => ∃ y n, a = F y n ∧ R y n w
  | _, _, _ => False
theorem wp_mergeN {P : Program} {c : Code} {Q : Exit → Act → World → Prop} {a : Act} {w : World} (R : Nat → Nat → World → Prop) {F : Nat → Nat → Act} (h : c.wp P (MergeN F R) a w) (k : ∀ y n w, R y n w → Q .normal (F y n) w) : c.wp P Q a w :=
  Code.wp_mono (fun e a w h => by
    cases e with
    | normal => obtain ⟨y, n, rfl, hr⟩ := h; exact k y n w hr
    | _ => exact h.elim) h
def row3 (r : Rp) : Nat → Int
  | 0 => r.i
  | 1 => r.b
  | _ => r.t
theorem row3_lt {a b : Rp} : ∀ k, k < 3 → (∀ j, j < k → row3 a j = row3 b j) → row3 a k < row3 b k → newB a b = false := fun k hk h0 h1 => by
  rw [Bool.eq_false_iff]; intro hn; rw [newB_iff] at hn
  match k, hk with
  | 0, _ => have h1 : a.i < b.i := h1; omega
  | 1, _ => have h1 : a.b < b.b := h1; have e0 : a.i = b.i := h0 0 (by decide); omega
  | 2, _ => have h1 : a.t < b.t := h1; have e0 : a.i = b.i := h0 0 (by decide); have e1 : a.b = b.b := h0 1 (by decide); omega
theorem row3_gt {a b : Rp} : ∀ k, k < 3 → (∀ j, j < k → row3 a j = row3 b j) → row3 b k < row3 a k → newB a b = true := fun k hk h0 h1 => by
  rw [newB_iff]
  match k, hk with
  | 0, _ => have h1 : b.i < a.i := h1; omega
  | 1, _ => have h1 : b.b < a.b := h1; have e0 : a.i = b.i := h0 0 (by decide); omega
  | 2, _ => have h1 : b.t < a.t := h1; have e0 : a.i = b.i := h0 0 (by decide); have e1 : a.b = b.b := h0 1 (by decide); omega
theorem row3_eq {a b : Rp} (h : ∀ j, j < 3 → row3 a j = row3 b j) : newB a b = false := by
  rw [Bool.eq_false_iff]; intro hn; rw [newB_iff] at hn
  have e0 : a.i = b.i := h 0 (by decide)
  have e1 : a.b = b.b := h 1 (by decide)
  have e2 : a.t = b.t := h 2 (by decide)
  omega
theorem row3_cells {w : World} {n : Nat} {r : Rp} (h : fdE.In w n r) : ∀ k, k < 3 → w.cell? ⟨n, 1 + k, none⟩ = some (.int .i64 (row3 r k))
  | 0, _ => h.cell 1
  | 1, _ => h.cell 2
  | 2, _ => h.cell 3
  | k + 3, h => absurd h (by omega)
end Go.Proofs.Ytjjjpifdmgpnjaa

/- Of the library, at operations and undos: Clone, Grow, Concat. -/
namespace Go.Proofs.Ytjjjpifdmgpnjaa
open Go.RowKit Tre Cod

def catE {α : Type} (F : Nat → List α) : Nat → List α
  | 0 => []
  | k + 1 => catE F k ++ F k
theorem catE_le {α : Type} (F : Nat → List α) (k : Nat) : ∀ n, k ≤ n → (catE F k).length ≤ (catE F n).length
  | 0, h => by obtain rfl : k = 0 := by omega
               exact Nat.le_refl _
  | n + 1, h => by
    by_cases e : k = n + 1
    · subst e; exact Nat.le_refl _
    · have := catE_le F k n (by omega)
      rw [catE, List.length_append]; omega

end Go.Proofs.Ytjjjpifdmgpnjaa

/- The program's reports: place; Clone, Grow, Concat of reports; Merge. -/
namespace Go.Proofs.Ytjjjpifdmgpnjaa
open Go.RowKit Cod

theorem cellLt {w : World} {b i : Nat} {v : Value} (h : w.cell? ⟨b, i, none⟩ = some v) : b < w.heap.size := World.block_lt_of_cell? _ _ h
theorem infoRp : (Try.prog.info? 37).map (fun i => (i.zero, i.size, i.bytes)) = some (some (.agg #[.int .i64 0, .int .i64 0, .int .i64 0, .int .i64 0, .int .i64 0, .int .i64 0, .int .i64 0, .int .i64 0, .int .i64 0]), 9, 72) := by kernel_rfl
end Go.Proofs.Ytjjjpifdmgpnjaa

/- The program's reports: Merge. -/
namespace Go.Proofs.Ytjjjpifdmgpnjaa
open Go.RowKit Cod
/-- Three lists, three addresses, three numbers. -/
def pickR {α : Type} (a b c : α) : Nat → α
  | 0 => a
  | 1 => b
  | _ => c
end Go.Proofs.Ytjjjpifdmgpnjaa

/- What may be a tree: of the program. -/
namespace Go.Proofs.Ytjjjpifdmgpnjaa
open Go.RowKit Tre Nam Cod

theorem okPl_five {n u : Int} {P : Prop} (h1 : ¬ 2 ≤ n → P) (h2 : 2 ≤ n → ¬ n < 64 → P) (h3 : 2 ≤ n → n < 64 → ¬ 0 ≤ u → P) (h4 : 2 ≤ n → n < 64 → 0 ≤ u → ¬ u < 64 → P) (h5 : 2 ≤ n → n < 64 → 0 ≤ u → u < 64 → P) : P := by
  by_cases a : 2 ≤ n
  · by_cases b : n < 64
    · by_cases c : 0 ≤ u
      · by_cases d : u < 64
        · exact h5 a b c d
        · exact h4 a b c d
      · exact h3 a b c
    · exact h2 a b
  · exact h1 a
theorem okPl_false {p : Pl} (h : ¬ (2 ≤ p.n ∧ p.n < 64 ∧ 0 ≤ p.u ∧ p.u < 64)) : okPl p = false := by
  unfold okPl; rw [decide_eq_false h]; rfl
theorem okPl_name {p : Pl} (h : 2 ≤ p.n ∧ p.n < 64 ∧ 0 ≤ p.u ∧ p.u < 64) : okPl p = isName (L p.s) := by
  unfold okPl; rw [decide_eq_true h]; rfl

/-- The places ahead of i may be, and rise. -/
def GoodTo (l : List Pl) (i : Nat) : Prop := ∀ k (h : k < l.length), k < i → okPl l[k] = true ∧ ∀ (h0 : 0 < k), (l[k - 1]'(by omega)).n < l[k].n
theorem goodTo_next {l : List Pl} {i : Nat} (h : GoodTo l i) (hi : i < l.length) (h1 : okPl l[i] = true) (h2 : ∀ (h0 : 0 < i), (l[i - 1]'(by omega)).n < l[i].n) : GoodTo l (i + 1) := by
  intro k hk hlt
  by_cases e : k = i
  · subst e; exact ⟨h1, h2⟩
  · exact h k hk (by omega)
theorem rising_of : ∀ {l : List Pl}, (∀ k (h : k < l.length) (h0 : 0 < k), (l[k - 1]'(by omega)).n < l[k].n) → rising l = true
  | [], _ => rfl
  | [_], _ => rfl
  | p :: q :: l, h => by
    unfold rising
    rw [Bool.and_eq_true, decide_eq_true_iff]
    refine ⟨h 1 (by simp) (by omega), rising_of (l := q :: l) fun k hk h0 => ?_⟩
    have := h (k + 1) (by simpa using hk) (by omega)
    obtain ⟨m, rfl⟩ : ∃ m, k = m + 1 := ⟨k - 1, by omega⟩
    simpa using this
def riseB (l : List Pl) : Bool := l.all okPl && rising l
theorem goodTo_all {l : List Pl} (h : GoodTo l l.length) : riseB l = true := by
  unfold riseB
  rw [Bool.and_eq_true, List.all_eq_true]
  refine ⟨fun p hp => ?_, rising_of fun k hk h0 => (h k hk hk).2 h0⟩
  obtain ⟨k, hk, rfl⟩ := List.getElem_of_mem hp
  exact (h k hk hk).1
theorem goodTo_back {l : List Pl} (h : riseB l = true) : (∀ k (h : k < l.length), okPl l[k] = true) ∧ Sorted l := by
  unfold riseB at h
  rw [Bool.and_eq_true, List.all_eq_true] at h
  exact ⟨fun k hk => h.1 _ (List.getElem_mem hk), rising_sorted h.2⟩
theorem goodTo_bad {l : List Pl} {i : Nat} (hi : i < l.length) (h : ¬ (okPl l[i] = true ∧ ∀ (h0 : 0 < i), (l[i - 1]'(by omega)).n < l[i].n)) : riseB l = false := by
  rcases e : riseB l with _ | _
  · rfl
  · obtain ⟨h1, h2⟩ := goodTo_back e
    exact absurd ⟨h1 i hi, fun h0 => h2 _ _ (by omega) hi (by omega)⟩ h

end Go.Proofs.Ytjjjpifdmgpnjaa

/- What may be a tree: Right of both. -/
namespace Go.Proofs.Ytjjjpifdmgpnjaa
open Go.RowKit Tre Nam Cod

def ringless (l : List Pl) : Bool := l.all fun p => !above l p.n p.u
theorem treeB_two (l : List Pl) : treeB l = (riseB l && ringless l) := by unfold treeB riseB ringless; rw [Bool.and_assoc]
def FreeTo (l : List Pl) (i : Nat) : Prop := ∀ k (h : k < l.length), k < i → above l l[k].n l[k].u = false
theorem free_next {l : List Pl} {i : Nat} (h : FreeTo l i) (hi : i < l.length) (h1 : above l l[i].n l[i].u = false) : FreeTo l (i + 1) := by
  intro k hk hlt
  by_cases e : k = i
  · subst e; exact h1
  · exact h k hk (by omega)
theorem free_all {l : List Pl} (h : FreeTo l l.length) : ringless l = true := by
  unfold ringless
  rw [List.all_eq_true]
  intro p hp
  obtain ⟨k, hk, rfl⟩ := List.getElem_of_mem hp
  rw [h k hk hk]; rfl
theorem free_bad {l : List Pl} {i : Nat} (hi : i < l.length) (h : above l l[i].n l[i].u = true) : ringless l = false := by
  rcases e : ringless l with _ | _
  · rfl
  · unfold ringless at e
    rw [List.all_eq_true] at e
    have := e _ (List.getElem_mem hi)
    rw [h] at this; exact this.symm

end Go.Proofs.Ytjjjpifdmgpnjaa

/- The library's contract of Builder.String, laid at this program's numbers. -/
namespace Go.Proofs.Ytjjjpifdmgpnjaa
open Go.Shelf
def lays169_ren : Go.Shelf.Ren := ⟨fun | 169 => 40 | n => n, fun | 70 => 52 | 9 => 9 | 0 => 0 | 72 => 55 | 37 => 53 | 127 => 76 | 3 => 3 | 5 => 5 | n => n, fun | n => n⟩
theorem lays169 : Go.Proofs.Lays.n169 Try.prog lays169_ren := {
  mixed := by kernel_rfl
  f169 := Try.func40.trans (congrArg some (by kernel_rfl))
  t0 := Try.underlying0
  a0 := Try.isAgg0
  z0 := Try.sizeOf0
  v0 := Try.zeroValue0
  t3 := Try.underlying3
  a3 := Try.isAgg3
  z3 := Try.sizeOf3
  v3 := Try.zeroValue3
  t9 := Try.underlying9
  a9 := Try.isAgg9
  z9 := Try.sizeOf9
  v9 := Try.zeroValue9
  t37 := Try.underlying53
  a37 := Try.isAgg53
  z37 := Try.sizeOf53
  v37 := Try.zeroValue53
  t70 := Try.underlying52
  a70 := Try.isAgg52
  z70 := Try.sizeOf52
  v70 := Try.zeroValue52
  t72 := Try.underlying55
  a72 := Try.isAgg55
  z72 := Try.sizeOf55
  v72 := Try.zeroValue55
  t127 := Try.underlying76
  a127 := Try.isAgg76
  z127 := Try.sizeOf76
  v127 := Try.zeroValue76 }
theorem builder_Extra_169 : Builder.Extra Try.prog lays169_ren := {
  sizeBuilder := by kernel_rfl
  liesBuilder := by kernel_rfl
  t5 := Try.underlying5
  a5 := Try.isAgg5
  z5 := Try.sizeOf5
  v5 := Try.zeroValue5
  infoByte := by kernel_rfl
  cellsByte := by kernel_rfl
  sizeByte := by kernel_rfl
  neB5 := by decide }
open Go.RowKit in
theorem builder_String_any (B b : Nat) (l : List UInt8) (w : World) (h : Lib.IsBuilder 55 5 B b (Lib.byteCells l) w) (hBw : B ≤ w.heap.size) :
    Calls Try.prog 40 #[.pointer (some ⟨b, 0, none⟩)] w fun e w' => e = .returned (.string ⟨l.toArray⟩) ∧ Below B w w' := Any.Builder_String_any lays169 builder_Extra_169 B b l w h hBw
end Go.Proofs.Ytjjjpifdmgpnjaa

/- The library's Builder: what WriteString does with one of the call's own. -/
namespace Go.Proofs.Ytjjjpifdmgpnjaa
open Go.RowKit

theorem bd_info : ∃ j, Try.prog.info? 55 = some j ∧ j.size = 2 := by
  have h : (Try.prog.info? 55).map (·.size) = some 2 := by kernel_rfl
  obtain ⟨j, hj, hjs⟩ := Option.map_eq_some_iff.1 h
  exact ⟨j, hj, hjs⟩
theorem bd_lies : liesAt Try.prog Try.prog.depth 55 (2 / Try.prog.cellsOf 55) 0 55 1 = true := by kernel_rfl
set_option maxRecDepth 100000 in
theorem ccheck_used (b : Nat) (w : World) (h0 : w.cell? ⟨b, 0, none⟩ = some (.pointer (some ⟨b, 0, none⟩))) :
    Calls Try.prog 50 #[.pointer (some ⟨b, 0, none⟩)] w fun e w' => e = .returned (.tuple #[]) ∧ w' = w := by
  obtain ⟨j, hj, _⟩ := bd_info
  go_enter Try.func50, Try.ntmps50
  go_wp2
  rw [Lib.run_neq_ptr_same w _ Try.underlying52 hj]
  go_wp2
  go_end0
  exact ⟨rfl, rfl⟩
set_option maxRecDepth 100000 in
theorem ccheck_new (b : Nat) (w : World) (h0 : w.cell? ⟨b, 0, none⟩ = some (.pointer none)) (hsh : w.shape? b = some (55, 2)) (hfz : w.frozen? ⟨b, 0, none⟩ = false) :
    Calls Try.prog 50 #[.pointer (some ⟨b, 0, none⟩)] w fun e w' => e = .returned (.tuple #[]) ∧ w' = w.setCell ⟨b, 0, none⟩ (.pointer (some ⟨b, 0, none⟩)) := by
  obtain ⟨j, hj, hjs⟩ := bd_info
  go_enter Try.func50, Try.ntmps50
  go_wp2
  rw [Lib.run_to_unsafe w ⟨b, 0, none⟩ Try.underlying52 Try.underlying79 hj (by rw [hjs]; decide) hsh (Nat.zero_lt_succ 1)]
  simp only [Result.andThen]
  rw [Oper.upon_value]
  go_wp2
  rw [run_callFunc_extern Try.func58 (by kernel_rfl) (by kernel_rfl) (by kernel_rfl) (e := Extern.AbiNoEscape.same) (by kernel_rfl)]
  rw [Lib.run_noEscape]
  simp only [Result.andThen]
  rw [Oper.upon_value]
  go_wp2
  rw [Lib.run_from_unsafe w ⟨b, 0, none⟩ Try.underlying79 Try.underlying52 hj hsh bd_lies]
  simp only [Result.andThen]
  rw [Oper.upon_value]
  go_wp2
  go_end0
  exact ⟨rfl, rfl⟩

/-- What is no row of bytes and isn't block b stays. -/
def Rest (b : Nat) (w w' : World) : Prop := ∀ k cs T fr, w.heap[k]? = some (.cells cs T fr) → k ≠ b → T ≠ 5 → w'.heap[k]? = w.heap[k]?
theorem Rest.then {b : Nat} {w w1 w2 : World} (h : Rest b w w1) (k : Rest b w1 w2) : Rest b w w2 := fun i cs T fr hi hne hT => by
  have h1 := h i cs T fr hi hne hT
  rw [k i cs T fr (h1.trans hi) hne hT, h1]
theorem Rest.cell (b : Nat) (w : World) (j : Nat) (v : Value) : Rest b w (w.setCell ⟨b, j, none⟩ v) := fun k _ _ _ _ hne _ => Below.heap_setCell _ _ _ _ hne

theorem ccheck_any (B b : Nat) (bs : List Value) (w : World) (h : Lib.IsBuilder 55 5 B b bs w) :
    Calls Try.prog 50 #[.pointer (some ⟨b, 0, none⟩)] w fun e w' => e = .returned (.tuple #[]) ∧ Lib.BuilderAt 55 5 B b (.pointer (some ⟨b, 0, none⟩)) bs w' ∧ Below B w w' ∧ Rest b w w' := by
  rcases h with h | h
  · refine (ccheck_new b w h.cell0 h.shape h.frozen0).mono ?_
    rintro e w' ⟨rfl, rfl⟩
    exact ⟨rfl, h.used _, (Below.refl B w).setCell (p := ⟨b, 0, none⟩) h.1 _, Rest.cell b w 0 _⟩
  · refine (ccheck_used b w h.cell0).mono ?_
    rintro e w' ⟨rfl, rfl⟩
    exact ⟨rfl, h, Below.refl B _, fun _ _ _ _ _ _ _ => rfl⟩

set_option maxHeartbeats 1000000 in
set_option maxRecDepth 100000 in
theorem wstr_any (B b : Nat) (bs : List Value) (s : ByteArray) (w : World) (h : Lib.IsBuilder 55 5 B b bs w) (hlen : bs.length + s.size ≤ 140737488355328) (hBw : B ≤ w.heap.size) :
    Calls Try.prog 35 #[.pointer (some ⟨b, 0, none⟩), .string s] w fun e w' => e = .returned (.tuple #[.int .i64 s.size, .nilIface]) ∧ Lib.IsBuilder 55 5 B b (bs ++ Lib.strCells s) w' ∧ Below B w w' ∧ Rest b w w' := by
  have X := builder_Extra_169
  obtain ⟨i0, hi, hz0, hz1, hz2⟩ := info_parts X.infoByte
  have C := ccheck_any B b bs w h
  go_enter Try.func35, Try.ntmps35
  go_wp2_with (go_at_call 50; (with_reducible refine C.mono ?_))
  rintro e w1 ⟨rfl, h1, hb1, hr1⟩
  obtain ⟨hB, v, hbk, hown, hne⟩ := h1
  have c0 : w1.cell? ⟨b, 0, none⟩ = some (.pointer (some ⟨b, 0, none⟩)) := by rw [Lib.cell_of_heap hbk]; rfl
  have c1 : w1.cell? ⟨b, 1, none⟩ = some v := by rw [Lib.cell_of_heap hbk]; rfl
  go_wp2_with (at_builtin; refine Lib.wpList_append_own_string _ rfl _ _ 53 9 rfl B 5 i0 Try.underlying53 Try.underlying9 hi hz0 hz1 hz2 _ _ _ rfl hown s rfl ?c3 ?c4 ?c5 ?_)
  case c3 => unfold maxLen; omega
  case c4 => omega
  case c5 => have := hb1.size; omega
  intro v' w2 hown' hgrow _
  have hlt : b < w1.heap.size := by
    rcases Nat.lt_or_ge b w1.heap.size with h' | h'
    · exact h'
    · simp [Array.getElem?_eq_none h'] at hbk
  have hb2 : w2.heap[b]? = some (.cells #[.pointer (some ⟨b, 0, none⟩), v] 55 (0, 0)) := by
    rw [hgrow.block b hlt (fun e => hne e.symm)]
    exact hbk
  have d0 : w2.cell? ⟨b, 0, none⟩ = some (.pointer (some ⟨b, 0, none⟩)) := by rw [Lib.cell_of_heap hb2]; rfl
  have d1 : w2.cell? ⟨b, 1, none⟩ = some v := by rw [Lib.cell_of_heap hb2]; rfl
  have f1 : w2.frozen? ⟨b, 1, none⟩ = false := Lib.frozen_of_heap hb2 1
  have hr2 : Rest b w1 w2 := fun k cs T fr hk hkb hT => by
    have hkl : k < w1.heap.size := by
      rcases Nat.lt_or_ge k w1.heap.size with h' | h'
      · exact h'
      · simp [Array.getElem?_eq_none h'] at hk
    exact hgrow.block k hkl (fun e => Lib.ownBlock_ne hown hk hT e.symm)
  obtain ⟨ao, n', cap, rfl⟩ : ∃ ao n' cap, v' = .slice ao n' cap := by
    rcases hown'.2 with ⟨hv, _⟩ | ⟨g, cap, cur, hv, _⟩
    · exact ⟨_, _, _, hv⟩
    · exact ⟨_, _, _, hv⟩
  go_wp2
  go_ret2
  refine ⟨rfl, Or.inr ?_, ?_, (hr1.then hr2).then (Rest.cell b w2 1 _)⟩
  · exact Lib.BuilderAt.put (T := 55) (e := 5) hB hb2 (bs' := bs ++ Lib.strCells s) (by simpa [Lib.strCells_length] using hown') X.neB5
  · exact (hb1.grown hgrow (by have := hb1.size; omega) (fun k hk => (hown.lt k hk).1)).setCell (p := ⟨b, 1, none⟩) hB _
end Go.Proofs.Ytjjjpifdmgpnjaa

/- What Print gives, of the program and of the document. -/
namespace Go.Proofs.Ytjjjpifdmgpnjaa
open Go.RowKit Tre Nam Cod

theorem strCells_app (a b : ByteArray) : Lib.strCells (a ++ b) = Lib.strCells a ++ Lib.strCells b := by
  unfold Lib.strCells; rw [← List.map_append]; congr 1
theorem back_L (x : ByteArray) : (⟨(L x).toArray⟩ : ByteArray) = x := by cases x; simp [L]
theorem headOf (l : List Pl) (n : Nat) (h : l.length ≤ 1000) : (bytesOf l.length).size ≤ 10 := bytesOf_le _ (by omega) (by omega)
theorem catL_take (l : List Pl) (k : Nat) (h : k < l.length) : catL (l.take (k + 1)) = catL (l.take k) ++ plBytes l[k] := by
  rw [List.take_succ_eq_append_getElem h, catL_snoc]
theorem take_le {l : List Pl} (hf : ∀ p ∈ l, Fit p) (k : Nat) : (catL (l.take k)).size ≤ 46 * l.length := by
  have h := catL_le (l.take k) (fun p hp => hf p (List.mem_of_mem_take hp))
  have : (l.take k).length ≤ l.length := by rw [List.length_take]; omega
  omega
theorem builder_new (w : World) : Lib.IsBuilder 55 5 w.heap.size w.heap.size [] (w.alloc (.cells #[.pointer none, .slice none 0 0] 55)) :=
  Or.inl ⟨Nat.le_refl _, _, heap_alloc_new w _, World.ownsRow_nil _ _ _ _, by simp [Value.ownBlock]⟩
theorem builder_below {B b : Nat} {bs : List Value} {w w' : World} (h : Lib.IsBuilder 55 5 B b bs w) (hb : Below w.heap.size w w') : Lib.IsBuilder 55 5 B b bs w' := by
  have key : ∀ p, Lib.BuilderAt 55 5 B b p bs w → Lib.BuilderAt 55 5 B b p bs w' := fun p h => by
    have hlt := h.lt
    obtain ⟨hB, v, hbk, hown, hne⟩ := h
    refine ⟨hB, v, (hb.block b hlt).trans hbk, hown.kept (row := none) ⟨hb.os, hb.tape, hb.output, hb.size, fun k hk _ => hb.block k hk⟩ ?_, hne⟩
    cases hv : v.ownBlock <;> simp
  rcases h with h | h
  · exact Or.inl (key _ h)
  · exact Or.inr (key _ h)
end Go.Proofs.Ytjjjpifdmgpnjaa

/- The program's reports: Print, Read; all calls. -/
namespace Go.Proofs.Ytjjjpifdmgpnjaa
open Go.RowKit Nam Cod

set_option maxRecDepth 100000 in
set_option maxHeartbeats 4000000 in
theorem rpPrint_any (r : Rp) (w : World) (hw : RpW r) : Calls Try.prog 38 #[.agg #[.int .i64 r.d, .int .i64 r.i, .int .i64 r.b, .int .i64 r.t, .int .i64 r.m, .int .i64 r.p, .int .i64 r.c, .int .i64 r.s, .int .i64 r.k]] w fun e w' => e = .returned (.string (rpBytes r)) ∧ Below w.heap.size w w' := by
  have hP : rpE.In ((w.alloc (.cells #[.int .i64 r.d, .int .i64 r.i, .int .i64 r.b, .int .i64 r.t, .int .i64 r.m, .int .i64 r.p, .int .i64 r.c, .int .i64 r.s, .int .i64 r.k] 37)).alloc (.cells #[.pointer none, .slice none 0 0] 55)) w.heap.size r := (El.In.new (E := rpE) w r _ rfl).alloc _
  have hbd := builder_new (w.alloc (.cells #[.int .i64 r.d, .int .i64 r.i, .int .i64 r.b, .int .i64 r.t, .int .i64 r.m, .int .i64 r.p, .int .i64 r.c, .int .i64 r.s, .int .i64 r.k] 37))
  have hB := below_alloc (below_alloc (Below.refl w.heap.size w) (.cells #[.int .i64 r.d, .int .i64 r.i, .int .i64 r.b, .int .i64 r.t, .int .i64 r.m, .int .i64 r.p, .int .i64 r.c, .int .i64 r.s, .int .i64 r.k] 37)) (.cells #[.pointer none, .slice none 0 0] 55)
  have hL : w.heap.size + 1 < ((w.alloc (.cells #[.int .i64 r.d, .int .i64 r.i, .int .i64 r.b, .int .i64 r.t, .int .i64 r.m, .int .i64 r.p, .int .i64 r.c, .int .i64 r.s, .int .i64 r.k] 37)).alloc (.cells #[.pointer none, .slice none 0 0] 55)).heap.size := by rw [alloc_size, alloc_size]; omega
  rw [alloc_size] at hbd
  have HW := Lib.hid hw
  have CF := Lib.hid (fun wx => fieldsOf_any r wx)
  clear hw
  go_enter Try.func38, Try.ntmps38
  go_upto_region 2 with fail
  generalize (w.alloc (.cells #[.int .i64 r.d, .int .i64 r.i, .int .i64 r.b, .int .i64 r.t, .int .i64 r.m, .int .i64 r.p, .int .i64 r.c, .int .i64 r.s, .int .i64 r.k] 37)).alloc (.cells #[.pointer none, .slice none 0 0] 55) = W at *
  obtain ⟨nb, hnb⟩ : ∃ n, w.heap.size + 1 = n := ⟨_, rfl⟩
  obtain ⟨n1, hn1⟩ : ∃ n, w.heap.size = n := ⟨_, rfl⟩
  have hwb : w.heap.size ≤ nb := by omega
  rw [hnb] at hbd hL ⊢
  rw [hn1] at hP ⊢
  clear hn1 hnb
  go_wp2_with (first | (refine El.load rpRow rfl _ rfl n1 0 rfl r hP.at #[.int .i64 r.d, .int .i64 r.i, .int .i64 r.b, .int .i64 r.t, .int .i64 r.m, .int .i64 r.p, .int .i64 r.c, .int .i64 r.s, .int .i64 r.k] rfl ?_) | fail)
  refine (CF.out _).mono ?_
  rintro e w2 ⟨rfl, hb2⟩
  replace hbd := builder_below hbd hb2
  replace hB := below_then hB hb2
  replace hL := Nat.lt_of_lt_of_le hL hb2.size
  clear hb2 hP CF
  go_wp2_with fail
  have hbd0 : Lib.IsBuilder 55 5 nb nb (Lib.strCells (catN ((rpL r).take 0))) w2 := hbd
  clear hbd hL
  go_loopw [8] (fun i wr => ∃ k : Nat, k ≤ 9 ∧ i = .int .i64 k ∧ Lib.IsBuilder 55 5 nb nb (Lib.strCells (catN ((rpL r).take k))) wr ∧ Below w.heap.size w wr) (fun i _ => 9 - (intOf i).toNat)
  case atStart => exact ⟨0, Nat.zero_le _, rfl, hbd0, hB⟩
  case round =>
    clear hbd0 hB
    obtain ⟨k, hk, rfl, hbd, hB⟩ := hrel
    have hlt : nb < wr.heap.size := by rcases hbd with h | h <;> exact h.lt
    by_cases hkl : k < 9
    · have hx := fun wx => idxFd r wx k hkl
      have hi := rp9_i64 HW.out hkl
      have HNX := Lib.hid (rp9_next r hkl)
      have hle := catN_le ((rpL r).take k) (fun n hn => HW.out n (List.mem_of_mem_take hn))
      rw [List.length_take] at hle
      generalize (rpL r).getD k 0 = n at *
      have C := Lib.hid (fun wx => num_any n wx hi.1 hi.2)
      have hz : (bytesOf n).size ≤ 10 := by rw [bytesOf_size]; exact enc_ten _ (fold_lt n hi.1 hi.2)
      generalize catN ((rpL r).take k) = T at *
      generalize bytesOf n = x at *
      have hT : T.size ≤ 90 := by omega
      clear hi hle
      go_wp2_with fail
      refine (C.out _).mono ?_
      rintro e w3 ⟨rfl, hb3⟩
      replace hbd := builder_below hbd hb3
      replace hB := below_then hB hb3
      replace hlt := Nat.lt_of_lt_of_le hlt hb3.size
      clear hb3
      go_wp2_with fail
      refine (wstr_any nb nb _ x _ hbd (by simp only [Lib.strCells_length]; omega) (Nat.le_of_lt hlt)).mono ?_
      rintro e w4 ⟨rfl, hbd4, hN4, _⟩
      rw [← strCells_app, ← HNX.out] at hbd4
      replace hB := hB.trans (hN4.mono hwb)
      go_wp2_with fail
      exact ⟨⟨k + 1, by omega, by go_num, hbd4, hB⟩, by simp [intOf]; omega⟩
    · obtain rfl : k = 9 := by omega
      have C := builder_String_any nb nb (L (catN ((rpL r).take 9))) wr hbd (Nat.le_of_lt hlt)
      have he : (⟨(L (catN ((rpL r).take 9))).toArray⟩ : ByteArray) = rpBytes r := back_L _
      rw [he] at C
      have HC := Lib.hid C
      clear C he hbd
      go_wp2_with fail
      refine HC.out.mono ?_
      rintro e w5 ⟨rfl, hb5⟩
      go_wp2_with fail
      go_ret
      exact ⟨rfl, hB.trans (hb5.mono hwb)⟩

set_option maxRecDepth 100000 in
set_option maxHeartbeats 4000000 in
theorem rpRead_uni (w : World) (b p : Nat) (s : ByteArray) (bad : Bool) (hs : s.size ≤ 1000000) (hp : p ≤ s.size) (hr : Rd 43 w b s p bad) :
    Calls Try.prog 55 #[.pointer (some ⟨b, 0, none⟩)] w fun e w' => ∃ (x : Rp) (q : Nat) (bad' : Bool), e = .returned (.agg #[.int .i64 x.d, .int .i64 x.i, .int .i64 x.b, .int .i64 x.t, .int .i64 x.m, .int .i64 x.p, .int .i64 x.c, .int .i64 x.s, .int .i64 x.k]) ∧ Rd 43 w' b s q bad' ∧ q ≤ s.size ∧ w.grownBy w' (some b) ∧ rpStep s p bad x q bad' := by
  have hbw := hr.lt
  go_enter Try.func55, Try.ntmps55
  go_upto_region 2 with fail
  have hZ : rpE.In ((w.alloc (.cells #[.int .i64 0, .int .i64 0, .int .i64 0, .int .i64 0, .int .i64 0, .int .i64 0, .int .i64 0, .int .i64 0, .int .i64 0] 37)).alloc (.cells #[.int .i64 0, .int .i64 0, .int .i64 0, .int .i64 0, .int .i64 0, .int .i64 0, .int .i64 0, .int .i64 0, .int .i64 0] 74)) w.heap.size zeroRp := (El.In.new (E := rpE) w zeroRp #[.int .i64 0, .int .i64 0, .int .i64 0, .int .i64 0, .int .i64 0, .int .i64 0, .int .i64 0, .int .i64 0, .int .i64 0] rfl).alloc _
  have hY := two_fd w #[.int .i64 0, .int .i64 0, .int .i64 0, .int .i64 0, .int .i64 0, .int .i64 0, .int .i64 0, .int .i64 0, .int .i64 0] 37
  have hB := below_alloc (below_alloc (Below.refl w.heap.size w) (.cells #[.int .i64 0, .int .i64 0, .int .i64 0, .int .i64 0, .int .i64 0, .int .i64 0, .int .i64 0, .int .i64 0, .int .i64 0] 37)) (.cells #[.int .i64 0, .int .i64 0, .int .i64 0, .int .i64 0, .int .i64 0, .int .i64 0, .int .i64 0, .int .i64 0, .int .i64 0] 74)
  have hR := hr.below hB
  have hG := by_below hB (some b)
  obtain ⟨n3, h3⟩ : ∃ n, w.heap.size + 1 = n := ⟨_, rfl⟩
  obtain ⟨n2, h2⟩ : ∃ n, w.heap.size = n := ⟨_, rfl⟩
  have hn2 : w.heap.size ≤ n2 := by omega
  have hwn : w.heap.size ≤ n3 := by omega
  have e2 : b ≠ n2 := by omega
  have e3 : b ≠ n3 := by omega
  have e4 : n2 ≠ n3 := by omega
  have i2 : some n2 ≠ some b := fun e => e2 (Option.some.inj e).symm
  have i3 : some n3 ≠ some b := fun e => e3 (Option.some.inj e).symm
  generalize (w.alloc (.cells #[.int .i64 0, .int .i64 0, .int .i64 0, .int .i64 0, .int .i64 0, .int .i64 0, .int .i64 0, .int .i64 0, .int .i64 0] 37)).alloc (.cells #[.int .i64 0, .int .i64 0, .int .i64 0, .int .i64 0, .int .i64 0, .int .i64 0, .int .i64 0, .int .i64 0, .int .i64 0] 74) = W0 at *
  rw [h3] at hY ⊢
  rw [h2] at hZ ⊢
  clear h2 h3 hB hr
  have HS0 := Lib.hid (fdState.zero s p bad zeroRp)
  go_wp2_with fail
  go_loopw [5] (fun i wr => ∃ (k : Nat) (x : Rp) (q : Nat) (b' : Bool), k ≤ 9 ∧ i = .int .i64 k ∧ rpE.In wr n2 zeroRp ∧ fdE.In wr n3 x ∧ Rd 43 wr b s q b' ∧ q ≤ s.size ∧ w.grownBy wr (some b) ∧ Hid (fdState s p bad k x q b')) (fun i _ => 9 - (intOf i).toNat)
  case atStart => exact ⟨0, zeroRp, p, bad, Nat.zero_le _, rfl, hZ, hY, hR, hp, hG, HS0⟩
  case round =>
    clear hZ hY hR hp hG HS0
    obtain ⟨k, x, q, b', hk, rfl, hZ, hY, hR, hq, hG, HS⟩ := hrel
    by_cases hkl : k < 9
    · go_wp2_with fail
      refine (num_uni hs hq hR).mono ?_
      rintro e w1 ⟨v, q', b1, rfl, hR1, hq1, hg, st⟩
      have HS1 := Lib.hid (HS.out.next hkl st)
      replace hZ := hZ.keep hg i2
      replace hY := hY.keep hg i3
      replace hG := by_trans hG hg
      clear hg hR HS st
      have c0 := fdCell hY k hkl
      have cf := hY.frozen k
      have hY1 : fdE.In (w1.setCell ⟨n3, k, none⟩ (.int .i64 v)) n3 (setF x k v) := hY.put _ k _ (setF_c x v k hkl)
      replace hZ := hZ.other n3 k (.int .i64 v) e4
      replace hR1 := hR1.other n3 k (.int .i64 v) e3
      replace hG := by_setNew hG n3 k (.int .i64 v) hwn
      generalize (rpL x).getD k 0 = y at *
      clear hY
      go_wp2_with fail
      exact ⟨⟨k + 1, setF x k v, q', b1, by omega, by go_num, hZ, hY1, hR1, hq1, hG, HS1⟩, by simp [intOf]; omega⟩
    · obtain rfl : k = 9 := by omega
      clear hkl hk
      obtain ⟨r0, r1, r2⟩ := hR.cells
      have rf := hR.frozen
      cases b'
      · have hst := HS.out.last
        have CR := Lib.hid (fun wx => fdRight_any x wx)
        cases hN : rpB x
        · rw [hN, if_neg (by decide)] at hst
          rw [hN] at CR
          have HG := Lib.hid hst
          clear hst hN
          obtain ⟨y0, y1, y2, y3, y4, y5, y6, y7, y8⟩ := fdIn9 hY
          go_wp2_with fail
          clear y0 y1 y2 y3 y4 y5 y6 y7 y8
          refine (CR.out _).mono ?_
          rintro r w5 ⟨rfl, hb5⟩
          replace hZ := hZ.below hb5
          replace hR := hR.below hb5
          replace hG := by_trans hG (by_below hb5 _)
          clear hb5 r0 r1 r2 rf hY
          obtain ⟨r0, r1, r2⟩ := hR.cells
          have rf := hR.frozen
          have hR2 := hR.setBad
          have hG2 := by_set hG 2 (.bool true)
          replace hZ := hZ.other b 2 (.bool true) (fun e => e2 e.symm)
          clear hR hG
          go_upto_region 9 with fail
          clear r0 r1 r2 rf
          generalize w5.setCell ⟨b, 2, none⟩ (.bool true) = W9 at *
          go_wp2_with (first | (refine El.store rpRow rfl _ _ rfl n2 zeroRp #[.int .i64 0, .int .i64 0, .int .i64 0, .int .i64 0, .int .i64 0, .int .i64 0, .int .i64 0, .int .i64 0, .int .i64 0] rfl rfl rfl zeroRp hZ ?_) | fail)
          refine El.ret1 rpRow (hZ.set zeroRp _ rfl) rfl rfl rfl #[.int .i64 0, .int .i64 0, .int .i64 0, .int .i64 0, .int .i64 0, .int .i64 0, .int .i64 0, .int .i64 0, .int .i64 0] rfl ?_
          exact ⟨zeroRp, q, true, rfl, hR2.row n2 _ e2, hq, by_setRow hG2 n2 _ hn2, Or.inr ⟨HG.out, rfl, rfl⟩⟩
        · rw [hN, if_pos rfl] at hst
          rw [hN] at CR
          have HG := Lib.hid hst
          clear hst hN
          obtain ⟨y0, y1, y2, y3, y4, y5, y6, y7, y8⟩ := fdIn9 hY
          go_wp2_with fail
          clear y0 y1 y2 y3 y4 y5 y6 y7 y8
          refine (CR.out _).mono ?_
          rintro r w5 ⟨rfl, hb5⟩
          replace hZ := hZ.below hb5
          replace hY := hY.below hb5
          replace hR := hR.below hb5
          replace hG := by_trans hG (by_below hb5 _)
          clear hb5 r0 r1 r2 rf
          have CT := Lib.hid (fun wx => report_any x wx)
          go_wp2_with (first | (refine El.load fdRow rfl _ rfl n3 0 rfl x hY.at #[.int .i64 x.d, .int .i64 x.i, .int .i64 x.b, .int .i64 x.t, .int .i64 x.m, .int .i64 x.p, .int .i64 x.c, .int .i64 x.s, .int .i64 x.k] rfl ?_) | fail)
          refine (CT.out _).mono ?_
          rintro r w6 ⟨rfl, hb6⟩
          replace hZ := hZ.below hb6
          replace hR := hR.below hb6
          replace hG := by_trans hG (by_below hb6 _)
          clear hb6 hY
          go_wp2_with (first | (refine El.store rpRow rfl _ _ rfl n2 x #[.int .i64 x.d, .int .i64 x.i, .int .i64 x.b, .int .i64 x.t, .int .i64 x.m, .int .i64 x.p, .int .i64 x.c, .int .i64 x.s, .int .i64 x.k] rfl rfl rfl zeroRp hZ ?_) | fail)
          refine El.ret1 rpRow (hZ.set x _ rfl) rfl rfl rfl #[.int .i64 x.d, .int .i64 x.i, .int .i64 x.b, .int .i64 x.t, .int .i64 x.m, .int .i64 x.p, .int .i64 x.c, .int .i64 x.s, .int .i64 x.k] rfl ?_
          exact ⟨x, q, false, rfl, hR.row n2 _ e2, hq, by_setRow hG n2 _ hn2, Or.inl ⟨HG.out, rfl⟩⟩
      · have HG := Lib.hid HS.out.ill
        clear hY HS
        have hR2 := hR.setBad
        have hG2 := by_set hG 2 (.bool true)
        replace hZ := hZ.other b 2 (.bool true) (fun e => e2 e.symm)
        clear hR hG
        go_upto_region 9 with fail
        clear r0 r1 r2 rf
        generalize wr.setCell ⟨b, 2, none⟩ (.bool true) = W9 at *
        go_wp2_with (first | (refine El.store rpRow rfl _ _ rfl n2 zeroRp #[.int .i64 0, .int .i64 0, .int .i64 0, .int .i64 0, .int .i64 0, .int .i64 0, .int .i64 0, .int .i64 0, .int .i64 0] rfl rfl rfl zeroRp hZ ?_) | fail)
        refine El.ret1 rpRow (hZ.set zeroRp _ rfl) rfl rfl rfl #[.int .i64 0, .int .i64 0, .int .i64 0, .int .i64 0, .int .i64 0, .int .i64 0, .int .i64 0, .int .i64 0, .int .i64 0] rfl ?_
        exact ⟨zeroRp, q, true, rfl, hR2.row n2 _ e2, hq, by_setRow hG2 n2 _ hn2, Or.inr ⟨HG.out, rfl, rfl⟩⟩

end Go.Proofs.Ytjjjpifdmgpnjaa

/- The program's members: readMember. -/
namespace Go.Proofs.Ytjjjpifdmgpnjaa
open Go.RowKit Nam Cod

def bStepD (s : ByteArray) (p : Nat) (bad : Bool) (v : Bool) (q : Nat) (bad' : Bool) : Prop := (isBool s p bad = some (v, q) ∧ bad' = false) ∨ (isBool s p bad = none ∧ v = false ∧ bad' = true)
theorem boolD_uni {w : World} {b p : Nat} {s : ByteArray} {bad : Bool} (hs : s.size ≤ 1000000) (hp : p ≤ s.size) (hr : Rd 43 w b s p bad) :
    Calls Try.prog 54 #[.pointer (some ⟨b, 0, none⟩)] w fun e w' => ∃ v q bad', e = .returned (.bool v) ∧ Rd 43 w' b s q bad' ∧ q ≤ s.size ∧ w.grownBy w' (some b) ∧ bStepD s p bad v q bad' := by
  rcases h : isBool s p bad with _ | ⟨v, q⟩
  · exact (bool_no hs hp hr h).mono fun e w' ⟨he, ⟨q, hq, hr'⟩, hg⟩ => ⟨false, q, true, he, hr', hq, hg, Or.inr ⟨h, rfl, rfl⟩⟩
  · obtain ⟨n, h1, _⟩ := isBool_some h
    exact (bool_yes hs hp hr h).mono fun e w' ⟨he, hr', hg⟩ => ⟨v, q, false, he, hr', (isNum_some (isCount_some h1).1).2.2.1, hg, Or.inl ⟨h, rfl⟩⟩
theorem textD_m {w : World} {b p : Nat} {s : ByteArray} {bad : Bool} (most : Int) (hs : s.size ≤ 1000000) (hp : p ≤ s.size) (hr : Rd 43 w b s p bad) :
    Calls Try.prog 56 #[.pointer (some ⟨b, 0, none⟩), .int .i64 most] w fun e w' => ∃ v q bad', e = .returned (.string v) ∧ Rd 43 w' b s q bad' ∧ q ≤ s.size ∧ v.size ≤ 1000000 ∧ w.grownBy w' (some b) ∧ tStepF most s p bad v q bad' := by
  rcases h : isText s p bad most with _ | ⟨v, q⟩
  · exact (rtext_no hs hp hr h).mono fun e w' ⟨he, ⟨q, hq, hr'⟩, hg⟩ => ⟨⟨#[]⟩, q, true, he, hr', hq, by decide, hg, Or.inr ⟨h, rfl, rfl⟩⟩
  · obtain ⟨n, q0, h1, h2, rfl, rfl⟩ := isText_some h
    exact (rtext_yes hs hp hr h).mono fun e w' ⟨he, hr', hg⟩ => ⟨_, _, false, he, hr', by omega, by rw [ByteArray.size_extract]; omega, hg, Or.inl ⟨h, rfl⟩⟩
theorem cntD_m {w : World} {b p : Nat} {s : ByteArray} {bad : Bool} (most : Nat) (hs : s.size ≤ 1000000) (hp : p ≤ s.size) (hr : Rd 43 w b s p bad) :
    Calls Try.prog 46 #[.pointer (some ⟨b, 0, none⟩), .int .i64 most] w fun e w' => ∃ v q bad', e = .returned (.int .i64 (v : Nat)) ∧ v ≤ most ∧ Rd 43 w' b s q bad' ∧ q ≤ s.size ∧ w.grownBy w' (some b) ∧ cStepF most s p bad v q bad' := by
  rcases h : isCount s p bad most with _ | ⟨v, q⟩
  · exact (count_no hs hp hr h).mono fun e w' ⟨he, ⟨q, hq, hr'⟩, hg⟩ => ⟨0, q, true, he, by omega, hr', hq, hg, Or.inr ⟨h, rfl, rfl⟩⟩
  · obtain ⟨h1, h2, h3⟩ := isCount_some h
    obtain ⟨n, rfl⟩ : ∃ n : Nat, v = n := ⟨v.toNat, by omega⟩
    exact (count_yes hs hp hr h).mono fun e w' ⟨he, hr', hg⟩ => ⟨n, q, false, he, by omega, hr', (isNum_some h1).2.2.1, hg, Or.inl ⟨h, rfl⟩⟩
theorem numStayD {s : ByteArray} {p : Nat} {v : Int} {q : Nat} {b : Bool} (h : numStep s p true v q b) : b = true := by
  rcases h with ⟨h, _⟩ | ⟨_, _, h⟩
  · rw [isNum_bad] at h; cases h
  · exact h
theorem boolStayD {s : ByteArray} {p : Nat} {v : Bool} {q : Nat} {b : Bool} (h : bStepD s p true v q b) : b = true := by
  rcases h with ⟨h, _⟩ | ⟨_, _, h⟩
  · obtain ⟨n, h1, _⟩ := isBool_some h
    rw [isCount_badF] at h1; cases h1
  · exact h
theorem textStayD {most : Int} {s : ByteArray} {p : Nat} {v : ByteArray} {q : Nat} {b : Bool} (h : tStepF most s p true v q b) : b = true := by
  rcases h with ⟨h, _⟩ | ⟨_, _, h⟩
  · rw [isText_bad] at h; cases h
  · exact h
theorem rpStayD {s : ByteArray} {p : Nat} {v : Rp} {q : Nat} {b : Bool} (h : rpStep s p true v q b) : b = true := by
  rcases h with ⟨h, _⟩ | ⟨_, _, h⟩
  · cases h
  · exact h
def mbStepD (s : ByteArray) (p : Nat) (bad : Bool) (x : Mb) (q : Nat) (bad' : Bool) : Prop := (isMb s p bad = some (x, q) ∧ bad' = false) ∨ (isMb s p bad = none ∧ bad' = true)
theorem mb_step {s : ByteArray} {p : Nat} {bad : Bool} {a b d e f : Int} {c : Bool} {g : Rp} {h : ByteArray} {q1 q2 q3 q4 q5 q6 q7 q8 : Nat} {b1 b2 b3 b4 b5 b6 b7 b8 : Bool} (h1 : numStep s p bad a q1 b1) (h2 : numStep s q1 b1 b q2 b2) (h3 : bStepD s q2 b2 c q3 b3) (h4 : numStep s q3 b3 d q4 b4) (h5 : numStep s q4 b4 e q5 b5) (h6 : numStep s q5 b5 f q6 b6) (h7 : rpStep s q6 b6 g q7 b7) (h8 : tStepF 65536 s q7 b7 h q8 b8) : mbStepD s p bad ⟨a, b, c, d, e, f, g, h⟩ q8 b8 := by
  have t2 : b1 = true → b2 = true := fun e => by subst e; exact numStayD h2
  have t3 : b2 = true → b3 = true := fun e => by subst e; exact boolStayD h3
  have t4 : b3 = true → b4 = true := fun e => by subst e; exact numStayD h4
  have t5 : b4 = true → b5 = true := fun e => by subst e; exact numStayD h5
  have t6 : b5 = true → b6 = true := fun e => by subst e; exact numStayD h6
  have t7 : b6 = true → b7 = true := fun e => by subst e; exact rpStayD h7
  have t8 : b7 = true → b8 = true := fun e => by subst e; exact textStayD h8
  rcases h1 with ⟨h1, rfl⟩ | ⟨h1, _, e1⟩
  · rcases h2 with ⟨h2, rfl⟩ | ⟨h2, _, e2⟩
    · rcases h3 with ⟨h3, rfl⟩ | ⟨h3, _, e3⟩
      · rcases h4 with ⟨h4, rfl⟩ | ⟨h4, _, e4⟩
        · rcases h5 with ⟨h5, rfl⟩ | ⟨h5, _, e5⟩
          · rcases h6 with ⟨h6, rfl⟩ | ⟨h6, _, e6⟩
            · rcases h7 with ⟨h7, rfl⟩ | ⟨h7, _, e7⟩
              · rcases h8 with ⟨h8, rfl⟩ | ⟨h8, _, e8⟩
                · exact Or.inl ⟨by simp only [isMb, h1, h2, h3, h4, h5, h6, h7, h8, Option.bind_some], rfl⟩
                · exact Or.inr ⟨by simp only [isMb, h1, h2, h3, h4, h5, h6, h7, h8, Option.bind_some, Option.bind_none], e8⟩
              · exact Or.inr ⟨by simp only [isMb, h1, h2, h3, h4, h5, h6, h7, Option.bind_some, Option.bind_none], t8 e7⟩
            · exact Or.inr ⟨by simp only [isMb, h1, h2, h3, h4, h5, h6, Option.bind_some, Option.bind_none], t8 (t7 e6)⟩
          · exact Or.inr ⟨by simp only [isMb, h1, h2, h3, h4, h5, Option.bind_some, Option.bind_none], t8 (t7 (t6 e5))⟩
        · exact Or.inr ⟨by simp only [isMb, h1, h2, h3, h4, Option.bind_some, Option.bind_none], t8 (t7 (t6 (t5 e4)))⟩
      · exact Or.inr ⟨by simp only [isMb, h1, h2, h3, Option.bind_some, Option.bind_none], t8 (t7 (t6 (t5 (t4 e3))))⟩
    · exact Or.inr ⟨by simp only [isMb, h1, h2, Option.bind_some, Option.bind_none], t8 (t7 (t6 (t5 (t4 (t3 e2)))))⟩
  · exact Or.inr ⟨by simp only [isMb, h1, Option.bind_none], t8 (t7 (t6 (t5 (t4 (t3 (t2 e1))))))⟩

/-- A report stored in a member's block. -/
theorem wpList_store_mbRp {ops : Array Oper} {rest : List Oper} {o : Oper} {a : Act} {w : World} {Q : Exit → Act → World → Prop} (hgd : o.guard = none) (x y : Operand) (ho : o.op = .store 37 x y)
    (b : Nat) (p : Mb) (m : Rp) (hx : a.eval x = .pointer (some ⟨b, 6, none⟩)) (hy : a.eval y = .agg #[.int .i64 m.d, .int .i64 m.i, .int .i64 m.b, .int .i64 m.t, .int .i64 m.m, .int .i64 m.p, .int .i64 m.c, .int .i64 m.s, .int .i64 m.k]) (hg : mbE.In w b p)
    (h : wpList Try.prog ops Q rest (a.put o.dst undef) (w.setRow b #[.int .i64 ({ p with r := m } : Mb).d, .int .i64 ({ p with r := m } : Mb).i, .bool ({ p with r := m } : Mb).w, .int .i64 ({ p with r := m } : Mb).n, .int .i64 ({ p with r := m } : Mb).l, .int .i64 ({ p with r := m } : Mb).o, .int .i64 ({ p with r := m } : Mb).r.d, .int .i64 ({ p with r := m } : Mb).r.i, .int .i64 ({ p with r := m } : Mb).r.b, .int .i64 ({ p with r := m } : Mb).r.t, .int .i64 ({ p with r := m } : Mb).r.m, .int .i64 ({ p with r := m } : Mb).r.p, .int .i64 ({ p with r := m } : Mb).r.c, .int .i64 ({ p with r := m } : Mb).r.s, .int .i64 ({ p with r := m } : Mb).r.k, .string ({ p with r := m } : Mb).f])) : wpList Try.prog ops Q (o :: rest) a w :=
  wpList_plain hgd fun _ hK => by
    have hs := run_storeCells_at (P := Try.prog) b 6 39 [.int .i64 m.d, .int .i64 m.i, .int .i64 m.b, .int .i64 m.t, .int .i64 m.m, .int .i64 m.p, .int .i64 m.c, .int .i64 m.s, .int .i64 m.k] 0 (mbE.c p).toArray w hg (by show 6 + 0 + 9 ≤ 16; omega) (by
      intro v hv
      simp only [List.mem_cons, List.not_mem_nil, or_false] at hv
      rcases hv with rfl | rfl | rfl | rfl | rfl | rfl | rfl | rfl | rfl <;> rfl)
    have hv : (storeVar 37 ⟨b, 6, none⟩ (.agg #[.int .i64 m.d, .int .i64 m.i, .int .i64 m.b, .int .i64 m.t, .int .i64 m.m, .int .i64 m.p, .int .i64 m.c, .int .i64 m.s, .int .i64 m.k])).run Try.prog w = .ok () (w.setRow b #[.int .i64 ({ p with r := m } : Mb).d, .int .i64 ({ p with r := m } : Mb).i, .bool ({ p with r := m } : Mb).w, .int .i64 ({ p with r := m } : Mb).n, .int .i64 ({ p with r := m } : Mb).l, .int .i64 ({ p with r := m } : Mb).o, .int .i64 ({ p with r := m } : Mb).r.d, .int .i64 ({ p with r := m } : Mb).r.i, .int .i64 ({ p with r := m } : Mb).r.b, .int .i64 ({ p with r := m } : Mb).r.t, .int .i64 ({ p with r := m } : Mb).r.m, .int .i64 ({ p with r := m } : Mb).r.p, .int .i64 ({ p with r := m } : Mb).r.c, .int .i64 ({ p with r := m } : Mb).r.s, .int .i64 ({ p with r := m } : Mb).r.k, .string ({ p with r := m } : Mb).f]) := by
      have hR := rpRow.size
      cases hq : Try.prog.info? 37 with
      | none =>
        have hR' : (Try.prog.info? 37).map (·.size) = some 9 := hR
        simp [hq] at hR'
      | some inf =>
        have hinf : inf.size = 9 := by
          have hR' : (Try.prog.info? 37).map (·.size) = some 9 := hR
          simpa [hq] using hR'
        simp [storeVar, sizeOf, typeInfo, hq, Value.cells, hinf, hs]
        rfl
    unfold Oper.wp execOp
    simp only [ho, hx, hy, Instr.storeAt, Instr.sureAddr, Sem.run_bind, Sem.run_pure, Result.andThen_ok, hv]
    exact hK _ _ h
theorem two_mb (w : World) (a : Array Value) (T : TypeId) : mbE.In ((w.alloc (.cells a T)).alloc (.cells #[.int .i64 0, .int .i64 0, .bool false, .int .i64 0, .int .i64 0, .int .i64 0, .int .i64 0, .int .i64 0, .int .i64 0, .int .i64 0, .int .i64 0, .int .i64 0, .int .i64 0, .int .i64 0, .int .i64 0, .string ⟨#[]⟩] 39)) (w.heap.size + 1) zeroMb := by
  have h := El.In.new (E := mbE) (w.alloc (.cells a T)) zeroMb _ rfl
  rw [alloc_size] at h; exact h
set_option maxRecDepth 100000 in
set_option maxHeartbeats 8000000 in
theorem mbRead1_uni {w : World} {b p : Nat} {s : ByteArray} {bad : Bool} (hs : s.size ≤ 1000000) (hp : p ≤ s.size) (hr : Rd 43 w b s p bad) :
    Calls Try.prog 47 #[.pointer (some ⟨b, 0, none⟩)] w fun e w' => ∃ (x : Mb) (q : Nat) (bad' : Bool), e = .returned (.agg #[.int .i64 x.d, .int .i64 x.i, .bool x.w, .int .i64 x.n, .int .i64 x.l, .int .i64 x.o, .int .i64 x.r.d, .int .i64 x.r.i, .int .i64 x.r.b, .int .i64 x.r.t, .int .i64 x.r.m, .int .i64 x.r.p, .int .i64 x.r.c, .int .i64 x.r.s, .int .i64 x.r.k, .string x.f]) ∧ Rd 43 w' b s q bad' ∧ q ≤ s.size ∧ w.grownBy w' (some b) ∧ mbStepD s p bad x q bad' := by
  have hbw := hr.lt
  go_enter Try.func47, Try.ntmps47
  go_upto_region 2 with fail
  have hZ : mbE.In ((w.alloc (.cells #[.int .i64 0, .int .i64 0, .bool false, .int .i64 0, .int .i64 0, .int .i64 0, .int .i64 0, .int .i64 0, .int .i64 0, .int .i64 0, .int .i64 0, .int .i64 0, .int .i64 0, .int .i64 0, .int .i64 0, .string ⟨#[]⟩] 39)).alloc (.cells #[.int .i64 0, .int .i64 0, .bool false, .int .i64 0, .int .i64 0, .int .i64 0, .int .i64 0, .int .i64 0, .int .i64 0, .int .i64 0, .int .i64 0, .int .i64 0, .int .i64 0, .int .i64 0, .int .i64 0, .string ⟨#[]⟩] 39)) w.heap.size zeroMb := (El.In.new (E := mbE) w zeroMb #[.int .i64 0, .int .i64 0, .bool false, .int .i64 0, .int .i64 0, .int .i64 0, .int .i64 0, .int .i64 0, .int .i64 0, .int .i64 0, .int .i64 0, .int .i64 0, .int .i64 0, .int .i64 0, .int .i64 0, .string ⟨#[]⟩] rfl).alloc _
  have hY := two_mb w #[.int .i64 0, .int .i64 0, .bool false, .int .i64 0, .int .i64 0, .int .i64 0, .int .i64 0, .int .i64 0, .int .i64 0, .int .i64 0, .int .i64 0, .int .i64 0, .int .i64 0, .int .i64 0, .int .i64 0, .string ⟨#[]⟩] 39
  have hB := below_alloc (below_alloc (Below.refl w.heap.size w) (.cells #[.int .i64 0, .int .i64 0, .bool false, .int .i64 0, .int .i64 0, .int .i64 0, .int .i64 0, .int .i64 0, .int .i64 0, .int .i64 0, .int .i64 0, .int .i64 0, .int .i64 0, .int .i64 0, .int .i64 0, .string ⟨#[]⟩] 39)) (.cells #[.int .i64 0, .int .i64 0, .bool false, .int .i64 0, .int .i64 0, .int .i64 0, .int .i64 0, .int .i64 0, .int .i64 0, .int .i64 0, .int .i64 0, .int .i64 0, .int .i64 0, .int .i64 0, .int .i64 0, .string ⟨#[]⟩] 39)
  have hR := hr.below hB
  have hG := by_below hB (some b)
  obtain ⟨n3, h3⟩ : ∃ n, w.heap.size + 1 = n := ⟨_, rfl⟩
  obtain ⟨n2, h2⟩ : ∃ n, w.heap.size = n := ⟨_, rfl⟩
  have hn2 : w.heap.size ≤ n2 := by omega
  have hwn : w.heap.size ≤ n3 := by omega
  have e2 : b ≠ n2 := by omega
  have e3 : b ≠ n3 := by omega
  have e4 : n2 ≠ n3 := by omega
  have i2 : some n2 ≠ some b := fun e => e2 (Option.some.inj e).symm
  have i3 : some n3 ≠ some b := fun e => e3 (Option.some.inj e).symm
  generalize (w.alloc (.cells #[.int .i64 0, .int .i64 0, .bool false, .int .i64 0, .int .i64 0, .int .i64 0, .int .i64 0, .int .i64 0, .int .i64 0, .int .i64 0, .int .i64 0, .int .i64 0, .int .i64 0, .int .i64 0, .int .i64 0, .string ⟨#[]⟩] 39)).alloc (.cells #[.int .i64 0, .int .i64 0, .bool false, .int .i64 0, .int .i64 0, .int .i64 0, .int .i64 0, .int .i64 0, .int .i64 0, .int .i64 0, .int .i64 0, .int .i64 0, .int .i64 0, .int .i64 0, .int .i64 0, .string ⟨#[]⟩] 39) = W0 at *
  rw [h3] at hY ⊢
  rw [h2] at hZ ⊢
  clear h2 h3 hB hr
  go_wp2_with fail
  refine (num_uni hs hp hR).mono ?_
  rintro e w1 ⟨v1, q1, b1, rfl, hR, hq1, hg, st1⟩
  replace hZ := hZ.keep hg i2
  replace hY := hY.keep hg i3
  replace hG := by_trans hG hg
  clear hg
  have kc := hY.cell 0
  have kf := hY.frozen
  replace kc : w1.cell? ⟨n3, 0, none⟩ = some (.int .i64 0) := kc
  replace hY := hY.put ⟨v1, 0, false, 0, 0, 0, zeroRp, ⟨#[]⟩⟩ 0 (.int .i64 v1) rfl
  replace hZ := hZ.other n3 0 (.int .i64 v1) e4
  replace hR := hR.other n3 0 (.int .i64 v1) e3
  replace hG := by_setNew hG n3 0 (.int .i64 v1) hwn
  go_upto_region 3 with fail
  clear kc kf
  generalize w1.setCell ⟨n3, 0, none⟩ (.int .i64 v1) = W1 at *
  go_wp2_with fail
  refine (num_uni hs hq1 hR).mono ?_
  rintro e w2 ⟨v2, q2, b2, rfl, hR, hq2, hg, st2⟩
  replace hZ := hZ.keep hg i2
  replace hY := hY.keep hg i3
  replace hG := by_trans hG hg
  clear hg
  have kc := hY.cell 1
  have kf := hY.frozen
  replace kc : w2.cell? ⟨n3, 1, none⟩ = some (.int .i64 0) := kc
  replace hY := hY.put ⟨v1, v2, false, 0, 0, 0, zeroRp, ⟨#[]⟩⟩ 1 (.int .i64 v2) rfl
  replace hZ := hZ.other n3 1 (.int .i64 v2) e4
  replace hR := hR.other n3 1 (.int .i64 v2) e3
  replace hG := by_setNew hG n3 1 (.int .i64 v2) hwn
  go_upto_region 4 with fail
  clear kc kf
  generalize w2.setCell ⟨n3, 1, none⟩ (.int .i64 v2) = W2 at *
  go_wp2_with fail
  refine (boolD_uni hs hq2 hR).mono ?_
  rintro e w3 ⟨v3, q3, b3, rfl, hR, hq3, hg, st3⟩
  replace hZ := hZ.keep hg i2
  replace hY := hY.keep hg i3
  replace hG := by_trans hG hg
  clear hg
  have kc := hY.cell 2
  have kf := hY.frozen
  replace kc : w3.cell? ⟨n3, 2, none⟩ = some (.bool false) := kc
  replace hY := hY.put ⟨v1, v2, v3, 0, 0, 0, zeroRp, ⟨#[]⟩⟩ 2 (.bool v3) rfl
  replace hZ := hZ.other n3 2 (.bool v3) e4
  replace hR := hR.other n3 2 (.bool v3) e3
  replace hG := by_setNew hG n3 2 (.bool v3) hwn
  go_upto_region 5 with fail
  clear kc kf
  generalize w3.setCell ⟨n3, 2, none⟩ (.bool v3) = W3 at *
  go_wp2_with fail
  refine (num_uni hs hq3 hR).mono ?_
  rintro e w4 ⟨v4, q4, b4, rfl, hR, hq4, hg, st4⟩
  replace hZ := hZ.keep hg i2
  replace hY := hY.keep hg i3
  replace hG := by_trans hG hg
  clear hg
  have kc := hY.cell 3
  have kf := hY.frozen
  replace kc : w4.cell? ⟨n3, 3, none⟩ = some (.int .i64 0) := kc
  replace hY := hY.put ⟨v1, v2, v3, v4, 0, 0, zeroRp, ⟨#[]⟩⟩ 3 (.int .i64 v4) rfl
  replace hZ := hZ.other n3 3 (.int .i64 v4) e4
  replace hR := hR.other n3 3 (.int .i64 v4) e3
  replace hG := by_setNew hG n3 3 (.int .i64 v4) hwn
  go_upto_region 6 with fail
  clear kc kf
  generalize w4.setCell ⟨n3, 3, none⟩ (.int .i64 v4) = W4 at *
  go_wp2_with fail
  refine (num_uni hs hq4 hR).mono ?_
  rintro e w5 ⟨v5, q5, b5, rfl, hR, hq5, hg, st5⟩
  replace hZ := hZ.keep hg i2
  replace hY := hY.keep hg i3
  replace hG := by_trans hG hg
  clear hg
  have kc := hY.cell 4
  have kf := hY.frozen
  replace kc : w5.cell? ⟨n3, 4, none⟩ = some (.int .i64 0) := kc
  replace hY := hY.put ⟨v1, v2, v3, v4, v5, 0, zeroRp, ⟨#[]⟩⟩ 4 (.int .i64 v5) rfl
  replace hZ := hZ.other n3 4 (.int .i64 v5) e4
  replace hR := hR.other n3 4 (.int .i64 v5) e3
  replace hG := by_setNew hG n3 4 (.int .i64 v5) hwn
  go_upto_region 7 with fail
  clear kc kf
  generalize w5.setCell ⟨n3, 4, none⟩ (.int .i64 v5) = W5 at *
  go_wp2_with fail
  refine (num_uni hs hq5 hR).mono ?_
  rintro e w6 ⟨v6, q6, b6, rfl, hR, hq6, hg, st6⟩
  replace hZ := hZ.keep hg i2
  replace hY := hY.keep hg i3
  replace hG := by_trans hG hg
  clear hg
  have kc := hY.cell 5
  have kf := hY.frozen
  replace kc : w6.cell? ⟨n3, 5, none⟩ = some (.int .i64 0) := kc
  replace hY := hY.put ⟨v1, v2, v3, v4, v5, v6, zeroRp, ⟨#[]⟩⟩ 5 (.int .i64 v6) rfl
  replace hZ := hZ.other n3 5 (.int .i64 v6) e4
  replace hR := hR.other n3 5 (.int .i64 v6) e3
  replace hG := by_setNew hG n3 5 (.int .i64 v6) hwn
  go_upto_region 8 with fail
  clear kc kf
  generalize w6.setCell ⟨n3, 5, none⟩ (.int .i64 v6) = W6 at *
  go_wp2_with fail
  refine (rpRead_uni _ _ _ _ _ hs hq6 hR).mono ?_
  rintro e w7 ⟨v7, q7, b7, rfl, hR, hq7, hg, st7⟩
  replace hZ := hZ.keep hg i2
  replace hY := hY.keep hg i3
  replace hG := by_trans hG hg
  clear hg
  obtain ⟨y6, hy6⟩ : ∃ y : Mb, ⟨v1, v2, v3, v4, v5, v6, zeroRp, ⟨#[]⟩⟩ = y := ⟨_, rfl⟩
  rw [hy6] at hY
  have HY6 := Lib.hid hy6
  clear hy6
  go_upto_region 9 with (first | (refine wpList_store_mbRp rfl _ _ rfl n3 y6 v7 rfl rfl hY ?_) | fail)
  replace hY : mbE.In (w7.setRow n3 #[.int .i64 ({ y6 with r := v7 } : Mb).d, .int .i64 ({ y6 with r := v7 } : Mb).i, .bool ({ y6 with r := v7 } : Mb).w, .int .i64 ({ y6 with r := v7 } : Mb).n, .int .i64 ({ y6 with r := v7 } : Mb).l, .int .i64 ({ y6 with r := v7 } : Mb).o, .int .i64 ({ y6 with r := v7 } : Mb).r.d, .int .i64 ({ y6 with r := v7 } : Mb).r.i, .int .i64 ({ y6 with r := v7 } : Mb).r.b, .int .i64 ({ y6 with r := v7 } : Mb).r.t, .int .i64 ({ y6 with r := v7 } : Mb).r.m, .int .i64 ({ y6 with r := v7 } : Mb).r.p, .int .i64 ({ y6 with r := v7 } : Mb).r.c, .int .i64 ({ y6 with r := v7 } : Mb).r.s, .int .i64 ({ y6 with r := v7 } : Mb).r.k, .string ({ y6 with r := v7 } : Mb).f]) n3 { y6 with r := v7 } := hY.set { y6 with r := v7 } _ rfl
  replace hR := hR.row n3 #[.int .i64 ({ y6 with r := v7 } : Mb).d, .int .i64 ({ y6 with r := v7 } : Mb).i, .bool ({ y6 with r := v7 } : Mb).w, .int .i64 ({ y6 with r := v7 } : Mb).n, .int .i64 ({ y6 with r := v7 } : Mb).l, .int .i64 ({ y6 with r := v7 } : Mb).o, .int .i64 ({ y6 with r := v7 } : Mb).r.d, .int .i64 ({ y6 with r := v7 } : Mb).r.i, .int .i64 ({ y6 with r := v7 } : Mb).r.b, .int .i64 ({ y6 with r := v7 } : Mb).r.t, .int .i64 ({ y6 with r := v7 } : Mb).r.m, .int .i64 ({ y6 with r := v7 } : Mb).r.p, .int .i64 ({ y6 with r := v7 } : Mb).r.c, .int .i64 ({ y6 with r := v7 } : Mb).r.s, .int .i64 ({ y6 with r := v7 } : Mb).r.k, .string ({ y6 with r := v7 } : Mb).f] e3
  replace hZ := hZ.rowN n3 #[.int .i64 ({ y6 with r := v7 } : Mb).d, .int .i64 ({ y6 with r := v7 } : Mb).i, .bool ({ y6 with r := v7 } : Mb).w, .int .i64 ({ y6 with r := v7 } : Mb).n, .int .i64 ({ y6 with r := v7 } : Mb).l, .int .i64 ({ y6 with r := v7 } : Mb).o, .int .i64 ({ y6 with r := v7 } : Mb).r.d, .int .i64 ({ y6 with r := v7 } : Mb).r.i, .int .i64 ({ y6 with r := v7 } : Mb).r.b, .int .i64 ({ y6 with r := v7 } : Mb).r.t, .int .i64 ({ y6 with r := v7 } : Mb).r.m, .int .i64 ({ y6 with r := v7 } : Mb).r.p, .int .i64 ({ y6 with r := v7 } : Mb).r.c, .int .i64 ({ y6 with r := v7 } : Mb).r.s, .int .i64 ({ y6 with r := v7 } : Mb).r.k, .string ({ y6 with r := v7 } : Mb).f] e4
  replace hG := by_setRow hG n3 #[.int .i64 ({ y6 with r := v7 } : Mb).d, .int .i64 ({ y6 with r := v7 } : Mb).i, .bool ({ y6 with r := v7 } : Mb).w, .int .i64 ({ y6 with r := v7 } : Mb).n, .int .i64 ({ y6 with r := v7 } : Mb).l, .int .i64 ({ y6 with r := v7 } : Mb).o, .int .i64 ({ y6 with r := v7 } : Mb).r.d, .int .i64 ({ y6 with r := v7 } : Mb).r.i, .int .i64 ({ y6 with r := v7 } : Mb).r.b, .int .i64 ({ y6 with r := v7 } : Mb).r.t, .int .i64 ({ y6 with r := v7 } : Mb).r.m, .int .i64 ({ y6 with r := v7 } : Mb).r.p, .int .i64 ({ y6 with r := v7 } : Mb).r.c, .int .i64 ({ y6 with r := v7 } : Mb).r.s, .int .i64 ({ y6 with r := v7 } : Mb).r.k, .string ({ y6 with r := v7 } : Mb).f] hwn
  generalize w7.setRow n3 #[.int .i64 ({ y6 with r := v7 } : Mb).d, .int .i64 ({ y6 with r := v7 } : Mb).i, .bool ({ y6 with r := v7 } : Mb).w, .int .i64 ({ y6 with r := v7 } : Mb).n, .int .i64 ({ y6 with r := v7 } : Mb).l, .int .i64 ({ y6 with r := v7 } : Mb).o, .int .i64 ({ y6 with r := v7 } : Mb).r.d, .int .i64 ({ y6 with r := v7 } : Mb).r.i, .int .i64 ({ y6 with r := v7 } : Mb).r.b, .int .i64 ({ y6 with r := v7 } : Mb).r.t, .int .i64 ({ y6 with r := v7 } : Mb).r.m, .int .i64 ({ y6 with r := v7 } : Mb).r.p, .int .i64 ({ y6 with r := v7 } : Mb).r.c, .int .i64 ({ y6 with r := v7 } : Mb).r.s, .int .i64 ({ y6 with r := v7 } : Mb).r.k, .string ({ y6 with r := v7 } : Mb).f] = W7 at *
  rw [← HY6.out] at hY
  go_wp2_with fail
  refine (textD_m 65536 hs hq7 hR).mono ?_
  rintro e w8 ⟨v8, q8, b8, rfl, hR, hq8, hv8, hg, st8⟩
  replace hZ := hZ.keep hg i2
  replace hY := hY.keep hg i3
  replace hG := by_trans hG hg
  clear hg
  have kc := hY.cell 15
  have kf := hY.frozen
  replace kc : w8.cell? ⟨n3, 15, none⟩ = some (.string ⟨#[]⟩) := kc
  replace hY := hY.put ⟨v1, v2, v3, v4, v5, v6, v7, v8⟩ 15 (.string v8) rfl
  replace hZ := hZ.other n3 15 (.string v8) e4
  replace hR := hR.other n3 15 (.string v8) e3
  replace hG := by_setNew hG n3 15 (.string v8) hwn
  go_upto_region 10 with fail
  clear kc kf
  generalize w8.setCell ⟨n3, 15, none⟩ (.string v8) = W8 at *
  have HG := Lib.hid (mb_step st1 st2 st3 st4 st5 st6 st7 st8)
  clear st1 st2 st3 st4 st5 st6 st7 st8
  obtain ⟨x, hx⟩ : ∃ x : Mb, (⟨v1, v2, v3, v4, v5, v6, v7, v8⟩ : Mb) = x := ⟨_, rfl⟩
  rw [hx] at hY HG
  clear hx
  go_wp2_with (first | (refine El.load mbRow rfl _ rfl n3 0 rfl x hY.at #[.int .i64 x.d, .int .i64 x.i, .bool x.w, .int .i64 x.n, .int .i64 x.l, .int .i64 x.o, .int .i64 x.r.d, .int .i64 x.r.i, .int .i64 x.r.b, .int .i64 x.r.t, .int .i64 x.r.m, .int .i64 x.r.p, .int .i64 x.r.c, .int .i64 x.r.s, .int .i64 x.r.k, .string x.f] rfl ?_) | (refine El.store mbRow rfl _ _ rfl n2 x #[.int .i64 x.d, .int .i64 x.i, .bool x.w, .int .i64 x.n, .int .i64 x.l, .int .i64 x.o, .int .i64 x.r.d, .int .i64 x.r.i, .int .i64 x.r.b, .int .i64 x.r.t, .int .i64 x.r.m, .int .i64 x.r.p, .int .i64 x.r.c, .int .i64 x.r.s, .int .i64 x.r.k, .string x.f] rfl rfl rfl zeroMb hZ ?_) | fail)
  refine El.ret1 mbRow (hZ.set x _ rfl) rfl rfl rfl #[.int .i64 x.d, .int .i64 x.i, .bool x.w, .int .i64 x.n, .int .i64 x.l, .int .i64 x.o, .int .i64 x.r.d, .int .i64 x.r.i, .int .i64 x.r.b, .int .i64 x.r.t, .int .i64 x.r.m, .int .i64 x.r.p, .int .i64 x.r.c, .int .i64 x.r.s, .int .i64 x.r.k, .string x.f] rfl ?_
  exact ⟨x, q8, b8, rfl, hR.row n2 _ e2, hq8, by_setRow hG n2 _ hn2, HG.out⟩
end Go.Proofs.Ytjjjpifdmgpnjaa
