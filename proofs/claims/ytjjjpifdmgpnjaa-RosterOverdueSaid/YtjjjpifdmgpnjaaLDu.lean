/- RosterOverdue is proved: who is overdue, the members at the beginning, and those with one in its device's place, are the document's. No condition. -/
import Derived.Test.YtjjjpifdmgpnjaaB05
namespace Go.Proofs.Ytjjjpifdmgpnjaa
open Go.ChangeShapes Go.WideShapes Go.ChangeAt Go.RowKit Go.Deep Cod

set_option maxRecDepth 100000 in
set_option maxHeartbeats 8000000 in
/-- Not looked at: the example alone. -/
theorem overdue16_out (H : RosterCalls) (A B : Option Addr) (c d : Nat) (l : List Mb) (h : List Int) (p q : Int) (w : World) (hT : SlV mbE w A c l) (hH : SlV inE w B d h) (hq : ∀ m ∈ l, MbQ m) (hl : l.length ≤ reachBytes) (ho : ¬ (h.length ≤ 40 ∧ p ≤ 1099511627776 ∧ -1099511627776 ≤ p)) :
    Calls Try.prog 4 #[.slice A l.length c, .slice B h.length d, .agg #[.int .i64 p, .int .i64 q]] w fun e w' => e = .returned (.bool true) ∧ Below w.heap.size w w' := by
  have hB := below_alloc (Below.refl w.heap.size w) (.cells #[.int .i64 p, .int .i64 q] 31)
  have p0 : (w.alloc (.cells #[.int .i64 p, .int .i64 q] 31)).cell? ⟨w.heap.size, 0, none⟩ = some (.int .i64 p) := rowCell16 w _ _ 0
  have p1 : (w.alloc (.cells #[.int .i64 p, .int .i64 q] 31)).cell? ⟨w.heap.size, 1, none⟩ = some (.int .i64 q) := rowCell16 w _ _ 1
  have hlt1 : w.heap.size < (w.alloc (.cells #[.int .i64 p, .int .i64 q] 31)).heap.size := by rw [alloc_size]; omega
  have HWH := Lib.hid (fun (wx : World) (hb : Below w.heap.size w wx) => whole16_any A c l wx (by unfold reachBytes at hl; omega) (hT.1.below hb) (fun m hm => by have := (hq m hm).f; unfold maxLen at this; omega))
  have HA := Lib.hid (fun wx => awake16_any H wx)
  have HT := Lib.hid hT
  have HH := Lib.hid hH
  clear hT hq hl hH
  go_enter Try.func4, Try.ntmps4
  go_upto_region 1 with fail
  generalize w.alloc (.cells #[.int .i64 p, .int .i64 q] 31) = W at *
  obtain ⟨n1, h1⟩ : ∃ n, w.heap.size = n := ⟨_, rfl⟩
  have hn1 : w.heap.size ≤ n1 := by omega
  rw [h1] at p0 p1 hlt1 ⊢
  clear h1
  go_wp2_with fail
  refine (HWH.out _ hB).mono ?_
  rintro e w2 ⟨bv, rfl, hbv, hb2⟩
  replace p0 := ((bcell hb2).1 n1 0 hlt1).trans p0
  replace p1 := ((bcell hb2).1 n1 1 hlt1).trans p1
  replace hB := below_then hB hb2
  replace hlt1 := Nat.lt_of_lt_of_le hlt1 hb2.size
  clear hb2 HWH
  cases bv with
  | false =>
    go_wp2_with fail
    refine (HA.out _).mono ?_
    rintro e w3 ⟨rfl, hb3⟩
    go_wp2_with fail
    go_ret
    exact ⟨rfl, below_then hB hb3⟩
  | true =>
    by_cases a1 : 40 < h.length
    · have f1 : decide ((40 : Int) < (h.length : Int)) = true := decide_eq_true (by omega)
      have f2 : decide (40 < h.length) = true := decide_eq_true a1
      clear a1 ho
      go_wp2_with fail
      refine (HA.out _).mono ?_
      rintro e w3 ⟨rfl, hb3⟩
      go_wp2_with fail
      go_ret
      exact ⟨rfl, below_then hB hb3⟩
    · have f1 : decide ((40 : Int) < (h.length : Int)) = false := decide_eq_false (by omega)
      have f2 : decide (40 < h.length) = false := decide_eq_false a1
      by_cases a2 : 1099511627776 < p
      · have f3 : decide ((1099511627776 : Int) < p) = true := decide_eq_true a2
        clear a1 a2 ho
        go_wp2_with fail
        refine (HA.out _).mono ?_
        rintro e w3 ⟨rfl, hb3⟩
        go_wp2_with fail
        go_ret
        exact ⟨rfl, below_then hB hb3⟩
      · have f3 : decide ((1099511627776 : Int) < p) = false := decide_eq_false a2
        have f4 : decide (p < -1099511627776) = true := decide_eq_true (by omega)
        clear a1 a2 ho
        go_wp2_with fail
        refine (HA.out _).mono ?_
        rintro e w3 ⟨rfl, hb3⟩
        go_wp2_with fail
        go_ret
        exact ⟨rfl, below_then hB hb3⟩

theorem overdueM_len (l : List Mb) (h : List Int) (p q : Int) (hl : l.length ≤ 40) : (overdueM l h p q).length ≤ 40 := Nat.le_trans (overdueM_le l h p q) hl
set_option maxRecDepth 100000 in
set_option maxHeartbeats 16000000 in
theorem overdue16_in (H : RosterCalls) (A B : Option Addr) (c d : Nat) (l : List Mb) (h : List Int) (p q : Int) (w : World) (hT : SlV mbE w A c l) (hH : SlV inE w B d h) (hq : ∀ m ∈ l, MbQ m) (hl : l.length ≤ reachBytes) (hh40 : h.length ≤ 40) (hp1 : p ≤ 1099511627776) (hp2 : -1099511627776 ≤ p) :
    Calls Try.prog 4 #[.slice A l.length c, .slice B h.length d, .agg #[.int .i64 p, .int .i64 q]] w fun e w' => e = .returned (.bool true) ∧ Below w.heap.size w w' := by
  have hB := below_alloc (Below.refl w.heap.size w) (.cells #[.int .i64 p, .int .i64 q] 31)
  have p0 : (w.alloc (.cells #[.int .i64 p, .int .i64 q] 31)).cell? ⟨w.heap.size, 0, none⟩ = some (.int .i64 p) := rowCell16 w _ _ 0
  have p1 : (w.alloc (.cells #[.int .i64 p, .int .i64 q] 31)).cell? ⟨w.heap.size, 1, none⟩ = some (.int .i64 q) := rowCell16 w _ _ 1
  have hlt1 : w.heap.size < (w.alloc (.cells #[.int .i64 p, .int .i64 q] 31)).heap.size := by rw [alloc_size]; omega
  have HWH := Lib.hid (fun (wx : World) (hb : Below w.heap.size w wx) => whole16_any A c l wx (by unfold reachBytes at hl; omega) (hT.1.below hb) (fun m hm => by have := (hq m hm).f; unfold maxLen at this; omega))
  have HA := Lib.hid (fun wx => awake16_any H wx)
  have HT := Lib.hid hT
  have HH := Lib.hid hH
  clear hT hq hl hH
  go_enter Try.func4, Try.ntmps4
  go_upto_region 1 with fail
  generalize w.alloc (.cells #[.int .i64 p, .int .i64 q] 31) = W at *
  obtain ⟨n1, h1⟩ : ∃ n, w.heap.size = n := ⟨_, rfl⟩
  have hn1 : w.heap.size ≤ n1 := by omega
  rw [h1] at p0 p1 hlt1 ⊢
  clear h1
  go_wp2_with fail
  refine (HWH.out _ hB).mono ?_
  rintro e w2 ⟨bv, rfl, hbv, hb2⟩
  replace p0 := ((bcell hb2).1 n1 0 hlt1).trans p0
  replace p1 := ((bcell hb2).1 n1 1 hlt1).trans p1
  replace hB := below_then hB hb2
  replace hlt1 := Nat.lt_of_lt_of_le hlt1 hb2.size
  clear hb2 HWH
  cases bv with
  | false =>
    go_wp2_with fail
    refine (HA.out _).mono ?_
    rintro e w3 ⟨rfl, hb3⟩
    go_wp2_with fail
    go_ret
    exact ⟨rfl, below_then hB hb3⟩
  | true =>
    obtain ⟨h4, hsum⟩ := hbv.out rfl
    clear hsum hbv
    have f1 : decide ((40 : Int) < (h.length : Int)) = false := decide_eq_false (by omega)
    have f2 : decide (40 < h.length) = false := decide_eq_false (by omega)
    have f3 : decide ((1099511627776 : Int) < p) = false := decide_eq_false (by omega)
    have f4 : decide (p < -1099511627776) = false := decide_eq_false (by omega)
    have HP := Lib.hid (show -1099511627776 ≤ p ∧ p ≤ 1099511627776 from ⟨hp2, hp1⟩)
    clear hp1 hp2
    obtain ⟨BB, hBB⟩ : ∃ B, n1 + 1 = B := ⟨_, rfl⟩
    have hBV : BB ≤ w2.heap.size := by omega
    have hwB : w.heap.size ≤ BB := by omega
    have hnB : n1 < BB := by omega
    clear hBB hlt1
    have hO := El.Own.nil (E := inE) w2 BB
    have HR0 := Lib.hid (fun (j : Nat) (hj : j < h.length) (h0 : j < 0) => (absurd h0 (Nat.not_lt_zero j) : -1099511627776 ≤ h[j] ∧ h[j] ≤ 1099511627776))
    go_wp2_with fail
    go_loopw [7, 8] (fun u y wr => ∃ (k : Nat) (v : Value), k ≤ h.length ∧ y = .int .i64 k ∧ u = v ∧ inE.Own wr BB v (h.take k) ∧ Hid (∀ j (hj : j < h.length), j < k → -1099511627776 ≤ h[j] ∧ h[j] ≤ 1099511627776) ∧ wr.cell? ⟨n1, 0, none⟩ = some (.int .i64 p) ∧ wr.cell? ⟨n1, 1, none⟩ = some (.int .i64 q) ∧ BB ≤ wr.heap.size ∧ Below w.heap.size w wr) (fun _ y _ => h.length - (intOf y).toNat)
    case atStart => exact ⟨0, _, Nat.zero_le _, rfl, rfl, hO, HR0, p0, p1, hBV, hB⟩
    case round =>
      clear hB hO HR0 p0 p1 hBV
      obtain ⟨k, v, hk, rfl, rfl, hO, HR, p0, p1, hBV, hB⟩ := hrel
      by_cases hkl : k < h.length
      · obtain ⟨b, off, eA, hbw, hc⟩ := HH.out.1 (by omega)
        have hx := inIdx (cap := d) eA hkl
        have hat : inE.At wr b (off + k * 1) h[k] := (hc k hkl).below hB hbw
        have hcell := inAt1 hat
        rw [Nat.mul_one] at hcell
        have HNX := Lib.hid (show h.take (k + 1) = h.take k ++ [h[k]] from List.take_succ_eq_append_getElem hkl)
        have HNR := Lib.hid (fun (g1 : -1099511627776 ≤ h[k] ∧ h[k] ≤ 1099511627776) (j : Nat) (hj : j < h.length) (hjk : j < k + 1) => (by
          by_cases e : j < k
          · exact HR.out j hj e
          · obtain rfl : j = k := by omega
            exact g1 : -1099511627776 ≤ h[j] ∧ h[j] ≤ 1099511627776))
        have HLE := Lib.hid (show (h.take k).length ≤ 1000 by rw [List.length_take]; omega)
        generalize h[k] = x at *
        generalize h.take k = LO at *
        obtain ⟨A0, c0, rfl, _⟩ := SlV.own hO
        clear hc eA hat
        by_cases a1 : 1099511627776 < x
        · have g1 : decide ((1099511627776 : Int) < x) = true := decide_eq_true a1
          clear a1
          go_wp2_with fail
          refine (HA.out _).mono ?_
          rintro e w3 ⟨rfl, hb3⟩
          go_wp2_with fail
          go_ret
          exact ⟨rfl, below_then hB hb3⟩
        · have g1 : decide ((1099511627776 : Int) < x) = false := decide_eq_false a1
          by_cases a2 : x < -1099511627776
          · have g2 : decide (x < -1099511627776) = true := decide_eq_true a2
            clear a1 a2
            go_wp2_with fail
            refine (HA.out _).mono ?_
            rintro e w3 ⟨rfl, hb3⟩
            go_wp2_with fail
            go_ret
            exact ⟨rfl, below_then hB hb3⟩
          · have g2 : decide (x < -1099511627776) = false := decide_eq_false a2
            have HNR2 := Lib.hid (HNR.out (by omega))
            have hal2 := below_alloc (Below.refl wr.heap.size wr) (.cells #[.int .i64 x] 3)
            have hO2 := hO.below hal2
            have hT2 : inE.Sl (wr.alloc (.cells #[.int .i64 x] 3)) (some ⟨wr.heap.size, 0, none⟩) [x] := (El.In.new (E := inE) wr x _ rfl).sl
            have hB2 := below_then hB hal2
            have hBs := Nat.le_trans hBV hal2.size
            have q0 := ((bcell hal2).1 n1 0 (Nat.lt_of_lt_of_le hnB hBV)).trans p0
            have q1 := ((bcell hal2).1 n1 1 (Nat.lt_of_lt_of_le hnB hBV)).trans p1
            clear hal2 hO a1 a2 HNR p0 p1
            go_wp2_with (first | (at_builtin; refine El.wpList_app inInnT rfl _ _ rfl BB _ LO [x] rfl hO2 (some ⟨wr.heap.size, 0, none⟩) 1 1 rfl rfl hT2 (fun e => by cases e) (by have := HLE.out; rw [List.length_singleton]; omega) hBs ?_; intro v' w5 hO5 hg5 _) | fail)
            have r0 := hg5.cell q0 (fun e => by have := (hO2.lt n1 e.symm).1; omega)
            have r1 := hg5.cell q1 (fun e => by have := (hO2.lt n1 e.symm).1; omega)
            have hB5 := hB2.grown hg5 hB2.size (fun k e => by have := (hO2.lt k e).1; omega)
            have hBV5 := Nat.le_trans hBs hg5.size
            go_wp2_with fail
            exact ⟨⟨k + 1, v', by omega, by go_num, rfl, by rw [HNX.out]; exact hO5, HNR2, r0, r1, hBV5, hB5⟩, by simp [intOf]; omega⟩
      · obtain rfl : k = h.length := by omega
        rw [List.take_length] at hO
        obtain ⟨A0, c0, rfl, hS0⟩ := SlV.own hO
        have HHR := Lib.hid (show ∀ n ∈ h, -1099511627776 ≤ n ∧ n ≤ 1099511627776 from fun n hn => by
          obtain ⟨j, hj, rfl⟩ := List.getElem_of_mem hn
          exact HR.out j hj hj)
        clear hO HR hnB hwB hBV
        have HM := Lib.hid (fun wx (hb : Below w.heap.size w wx) => H.overdue A B c d l h p q wx (by omega) (by omega) (SlV.below HT.out hb) (SlV.below HH.out hb) HHR.out HP.out)
        have HRM := Lib.hid (fun wx (hb : Below w.heap.size w wx) => refOverdue16_any A B c d l h p q wx (by omega) (by omega) (HT.out.1.below hb) (HH.out.1.below hb) HHR.out HP.out)
        have HOL := Lib.hid (overdueM_len l h p q h4)
        generalize overdueM l h p q = O at *
        go_upto_region 10 with fail
        replace p0 : wr.drew.cell? ⟨n1, 0, none⟩ = some (.int .i64 p) := p0
        replace p1 : wr.drew.cell? ⟨n1, 1, none⟩ = some (.int .i64 q) := p1
        replace hB := hB.drew
        replace hS0 : SlV inE wr.drew A0 c0 h := hS0
        have hn1l : n1 < wr.drew.heap.size := block_lt_of_cell p0
        go_region_held3 (fun w' => w'.cell? ⟨n1, 0, none⟩ = some (.int .i64 p) ∧ w'.cell? ⟨n1, 1, none⟩ = some (.int .i64 q)) (with_reducible exact ⟨p0, p1⟩) (first | (go_at_call 20; (with_reducible refine (HM.out _ hB).mono ?_); rintro e w5 ⟨A3, c3, rfl, hS3, hb5⟩; have p0 := ((bcell hb5).1 n1 0 hn1l).trans p0; have p1 := ((bcell hb5).1 n1 1 hn1l).trans p1; have hn1l := Nat.lt_of_lt_of_le hn1l hb5.size; have hS0 := hS0.below hb5; have hB := below_then hB hb5) | (go_at_call 21; (with_reducible refine (HRM.out _ hB).mono ?_); rintro e w5 ⟨A4, c4, rfl, hS4, hb5⟩; have p0 := ((bcell hb5).1 n1 0 hn1l).trans p0; have p1 := ((bcell hb5).1 n1 1 hn1l).trans p1; have hn1l := Nat.lt_of_lt_of_le hn1l hb5.size; have hS0 := hS0.below hb5; have hS3 := hS3.below hb5; have hB := below_then hB hb5))
        all_goals
          clear p0 p1 hn1l HM HRM HHR
          have N1 := Lib.hid (fun wx (hs : SlV inE wx A0 c0 h) => H.new A0 c0 h wx (by omega) hs)
          have N2 := Lib.hid (fun wx (hs : SlV inE wx A0 c0 h) => refNew16_any A0 c0 h wx (by omega) hs.1)
          have NS := Lib.hid (fun (A5 A6 : Option Addr) (c5 c6 : Nat) wx (g5 : SlV mbE wx A5 c5 (h.map newMb)) (g6 : SlV mbE wx A6 c6 (h.map newMb)) => (by
            have g := sameMb_iff A5 A6 c5 c6 (h.map newMb) (h.map newMb) wx (by rw [List.length_map]; omega) (by rw [List.length_map]; omega) g5.1 g6.1
            rw [List.length_map] at g
            exact g.mono (fun e w' ⟨b, he, hb, hbl⟩ => ⟨by rw [he, hb.2 rfl], hbl⟩) : Calls Try.prog 22 #[.slice A5 h.length c5, .slice A6 h.length c6] wx fun e w' => e = .returned (.bool true) ∧ Below wx.heap.size wx w'))
          have hOl := HOL.out
          go_wp2_with fail
          refine (N1.out _ hS0).mono ?_
          rintro e w6 ⟨A5, c5, rfl, hS5, hb6⟩
          replace hS0 := SlV.below hS0 hb6
          replace hS3 := SlV.below hS3 hb6
          replace hS4 := SlV.below hS4 hb6
          replace hB := below_then hB hb6
          clear hb6 N1
          go_wp2_with fail
          refine (N2.out _ hS0).mono ?_
          rintro e w7 ⟨A6, c6, rfl, hS6, hb7⟩
          replace hS3 := SlV.below hS3 hb7
          replace hS4 := SlV.below hS4 hb7
          replace hS5 := SlV.below hS5 hb7
          replace hB := below_then hB hb7
          clear hb7 N2 hS0
          go_wp2_with fail
          refine (NS.out A5 A6 c5 c6 _ hS5 hS6).mono ?_
          rintro e w8 ⟨rfl, hb8⟩
          replace hS3 := SlV.below hS3 hb8
          replace hS4 := SlV.below hS4 hb8
          replace hB := below_then hB hb8
          clear hb8 NS hS5 hS6
          go_wp2_with fail
          go_loopw [11] (fun y wr => ∃ k : Nat, k ≤ O.length ∧ y = .int .i64 k ∧ SlV inE wr A3 c3 O ∧ SlV inE wr A4 c4 O ∧ Below w.heap.size w wr) (fun y _ => O.length - (intOf y).toNat)
          case atStart => exact ⟨0, Nat.zero_le _, rfl, hS3, hS4, hB⟩
          case round =>
            clear hS3 hS4 hB
            obtain ⟨k, hk, rfl, hS3, hS4, hB⟩ := hrel
            by_cases hkl : k < O.length
            · obtain ⟨b, off, eA, hbw, hc⟩ := hS3.1 (by omega)
              obtain ⟨b2, off2, eA2, hbw2, hc2⟩ := hS4.1 (by omega)
              have hx := inIdx (cap := c3) eA hkl
              have hx2 := inIdx (cap := c4) eA2 hkl
              have hcell := inAt1 (show inE.At _ b (off + k * 1) O[k] from hc k hkl)
              have hcell2 := inAt1 (show inE.At _ b2 (off2 + k * 1) O[k] from hc2 k hkl)
              rw [Nat.mul_one] at hcell hcell2
              generalize O[k] = x at *
              clear hc hc2 eA eA2
              go_wp2
              go_quiet (fail)
              have hdr : Below wr.heap.size wr (wr.drewN nq) := below_drew (Below.refl _ _) nq
              go_wp2_with fail
              exact ⟨⟨k + 1, by omega, by go_num, SlV.below hS3 hdr, SlV.below hS4 hdr, below_then hB hdr⟩, by simp [intOf]; omega⟩
            · obtain rfl : k = O.length := by omega
              clear hS3 hS4
              as_aux_lemma =>
                by_cases h0 : l.length = 0
                · have g0 : ((l.length : Int) == 0) = true := beq_iff_eq.2 (by omega)
                  have d1 : ∀ d os, Calls Try.prog 9 #[] (Sort.grow (redrawn wr d) os) fun e w'' => e = .returned (.bool true) ∧ ∃ p : Regrown, w'' = Sort.grow (redrawn wr p.d) p.os := fun d os => Calls.regrown_of (HA.out _)
                  clear h0
                  go_wp2
                  refine wp_region_quiet_below (by kernel_rfl) (by kernel_rfl) ?_
                  repeat (go_big_quiet_step ((with_reducible (exact d1 _ _))))
                  refine wpQuiet_nil ?_
                  intro _ hw'
                  obtain ⟨⟨dq, osq⟩, hw''⟩ := hw'
                  subst hw''
                  go_wp2
                  go_ret
                  exact ⟨rfl, below_then hB (below_regrown wr dq osq)⟩
                · have g0 : ((l.length : Int) == 0) = false := beq_eq_false_iff_ne.2 (by omega)
                  obtain ⟨kl, hkl⟩ : ∃ k, l.length - 1 = k := ⟨_, rfl⟩
                  have hkll : kl < l.length := by omega
                  have g1 : IntKind.i64.wrap ((l.length : Int) - 1) = (kl : Int) := by rw [IntKind.wrap_i64]; omega
                  obtain ⟨b, off, eA, hbw, hc⟩ := HT.out.1 (by omega)
                  have hx := mbIdx (cap := c) eA hkll
                  have hat : mbE.At wr b (off + kl * 16) l[kl] := (hc kl hkll).below hB hbw
                  have hbr := Nat.lt_of_lt_of_le hbw hB.size
                  generalize l[kl] = x at *
                  have P1 := Lib.hid (fun wx (hb : Below w.heap.size w wx) => H.put A c l x wx (by omega) (SlV.below HT.out hb))
                  have P2 := Lib.hid (fun wx (hb : Below w.heap.size w wx) => refPut16_any A c l x wx (by omega) (SlV.below HT.out hb))
                  have PS := Lib.hid (fun (A5 A6 : Option Addr) (c5 c6 : Nat) wx (g5 : SlV mbE wx A5 c5 (putM l x)) (g6 : SlV mbE wx A6 c6 (putM l x)) => (by
                    have g := sameMb_iff A5 A6 c5 c6 (putM l x) (putM l x) wx (by rw [putM_len]; omega) (by rw [putM_len]; omega) g5.1 g6.1
                    rw [putM_len] at g
                    exact g.mono (fun e w' ⟨b, he, hb, hbl⟩ => ⟨by rw [he, hb.2 rfl], hbl⟩) : Calls Try.prog 22 #[.slice A5 l.length c5, .slice A6 l.length c6] wx fun e w' => e = .returned (.bool true) ∧ Below wx.heap.size wx w'))
                  clear h0 hkl hc eA
                  go_wp2
                  replace hat : mbE.At wr.drew b (off + kl * 16) x := hat
                  replace hB := hB.drew
                  replace hbr : b < wr.drew.heap.size := hbr
                  go_region_held3 (fun w' => w'.cell? ⟨b, off + kl * 16, none⟩ = some (.int .i64 x.d) ∧ w'.cell? ⟨b, off + kl * 16 + 1, none⟩ = some (.int .i64 x.i) ∧ w'.cell? ⟨b, off + kl * 16 + 2, none⟩ = some (.bool x.w) ∧ w'.cell? ⟨b, off + kl * 16 + 3, none⟩ = some (.int .i64 x.n) ∧ w'.cell? ⟨b, off + kl * 16 + 4, none⟩ = some (.int .i64 x.l) ∧ w'.cell? ⟨b, off + kl * 16 + 5, none⟩ = some (.int .i64 x.o) ∧ w'.cell? ⟨b, off + kl * 16 + 6, none⟩ = some (.int .i64 x.r.d) ∧ w'.cell? ⟨b, off + kl * 16 + 7, none⟩ = some (.int .i64 x.r.i) ∧ w'.cell? ⟨b, off + kl * 16 + 8, none⟩ = some (.int .i64 x.r.b) ∧ w'.cell? ⟨b, off + kl * 16 + 9, none⟩ = some (.int .i64 x.r.t) ∧ w'.cell? ⟨b, off + kl * 16 + 10, none⟩ = some (.int .i64 x.r.m) ∧ w'.cell? ⟨b, off + kl * 16 + 11, none⟩ = some (.int .i64 x.r.p) ∧ w'.cell? ⟨b, off + kl * 16 + 12, none⟩ = some (.int .i64 x.r.c) ∧ w'.cell? ⟨b, off + kl * 16 + 13, none⟩ = some (.int .i64 x.r.s) ∧ w'.cell? ⟨b, off + kl * 16 + 14, none⟩ = some (.int .i64 x.r.k) ∧ w'.cell? ⟨b, off + kl * 16 + 15, none⟩ = some (.string x.f)) (with_reducible exact mbAt16 hat) (first | (go_at_call 9; (with_reducible refine (HA.out _).mono ?_); rintro e w5 ⟨rfl, hb5⟩; have hat := hat.below hb5 hbr; have hbr := Nat.lt_of_lt_of_le hbr hb5.size; have hB := below_then hB hb5) | (go_at_call 25; (with_reducible refine (P1.out _ hB).mono ?_); rintro e w5 ⟨A7, c7, rfl, hS7, hb5⟩; have hat := hat.below hb5 hbr; have hbr := Nat.lt_of_lt_of_le hbr hb5.size; have hB := below_then hB hb5) | (go_at_call 26; (with_reducible refine (P2.out _ hB).mono ?_); rintro e w5 ⟨A8, c8, rfl, hS8, hb5⟩; have hat := hat.below hb5 hbr; have hbr := Nat.lt_of_lt_of_le hbr hb5.size; have hS7 := SlV.below hS7 hb5; have hB := below_then hB hb5) | (go_at_call 22; (with_reducible refine (PS.out _ _ _ _ _ hS7 hS8).mono ?_); rintro e w5 ⟨rfl, hb5⟩; have hat := hat.below hb5 hbr; have hbr := Nat.lt_of_lt_of_le hbr hb5.size; have hB := below_then hB hb5))
                  all_goals
                    go_wp2_with fail
                    go_ret
                    exact ⟨rfl, hB⟩

theorem open_insD {H : Type} {enc : TypeId × Value → H} {W : World} {base : Nat} {v : Value} {d : DataW H} {ps : List MemPlace}
    (hv : Value.okWide Try.prog W .any base 30 v) (h : DataW.Trod enc Try.prog W 0 (fun _ => true) true 30 v d ps) :
    ∃ (A : Option Addr) (cap : Nat) (l : List Int), v = .slice A l.length cap ∧ SlV inE W A cap l := by
  obtain ⟨A, cap, l, rfl, hS, hc, hz, _⟩ := open_list inE (fun _ => True) Try.underlying30 cells3 (fun h => by
    obtain ⟨n, e, _⟩ := DataW.trod_int Try.underlying3 h
    exact ⟨n, e, trivial⟩) hv h
  exact ⟨A, cap, l, rfl, hS, hz, hc⟩
set_option maxRecDepth 100000 in
theorem overdue16_lifted (H0 : RosterCalls) (os : Os) (started : os.Started) (H : Type) (enc : TypeId × Value → H) :
    ReturnsInHanded {} Try.checked os 4 .any (Rows.rosterOverdueSpec.pre6 enc Try.prog Try.f4 Rows.rosterOverdueRow.domain false) (Rows.rosterOverdueSpec.post enc Try.prog Try.f4 false true false false) := by
  refine handed_sized (C := Try.checked) own started (by kernel_rfl) Try.func4
    (ChangeSpec.witness6 (enc := enc) (C := Try.checked) false ⟨#[], #[.slice none 0 0, .slice none 0 0, .agg #[.int .i64 0, .int .i64 0]], []⟩ 8 (by kernel_rfl) (by kernel_rfl) (by kernel_rfl) (by kernel_rfl)) ?_
  intro W base args ds gs before hval0 hW hL0
  have hval : ∀ (j : Nat) t v, Try.f4.params[j]? = some t → args[j]? = some v → Value.okWide Try.prog W .any base t v := hval0
  have hW' := hW
  obtain ⟨p, q, hA0, hV, rfl, _, _⟩ := hW
  have hA : DataW.TrodAll enc Try.prog W 0 (fun _ => true) true Try.f4.params.toList args.toList ds p := hA0
  rw [Try.params4] at hA hval
  obtain ⟨v0, v1, v2, d0, d1, d2, p0, p1, p2, rfl, rfl, rfl, h0, h1, h2⟩ := trodAll_three hA
  simp only [Try.params4, List.cons_append, List.nil_append, DataW.weightsEach, List.all_append, Bool.and_eq_true] at hL0
  obtain ⟨A, c, l, rfl, hS, hn, hq⟩ := open_mbsN (hval 0 22 v0 rfl rfl) h0 hL0.1
  obtain ⟨B, d, h, rfl, hH⟩ := open_insD (hval 1 30 v1 rfl rfl) h1
  obtain ⟨x1, x2, rfl, i1, i2⟩ := open_int2 (hval 2 31 v2 rfl rfl) h2
  have hc : Calls Try.prog 4 #[.slice A l.length c, .slice B h.length d, .agg #[.int .i64 x1, .int .i64 x2]] W fun e w' => e = .returned (.bool true) ∧ Below W.heap.size W w' := by
    by_cases ho : h.length ≤ 40 ∧ x1 ≤ 1099511627776 ∧ -1099511627776 ≤ x1
    · exact overdue16_in H0 A B c d l h x1 x2 W hS hH hq hn ho.1 ho.2.1 ho.2.2
    · exact overdue16_out H0 A B c d l h x1 x2 W hS hH hq hn ho
  refine hc.mono fun e W' ⟨he, hb⟩ => ?_
  subst he
  exact ⟨_, rfl, Frm.law_post (by kernel_rfl) (by kernel_rfl) (by kernel_rfl) Try.underlying4 rfl rfl hW' hb⟩

theorem overdue16_holds (H0 : RosterCalls) : Rows.RosterOverdueSaid :=
  OpenClaim.holds_of_wide 4 Try.f4 rfl rfl rfl rfl rfl rfl rfl ⟨rfl, rfl, rfl, rfl, rfl⟩ rfl rfl rfl rfl rfl (by kernel_rfl) Try.func4 (by kernel_rfl)
    (of_decide_eq_true (by kernel_rfl)) (by unfold Func.isWrapper; first | (rw [if_pos (by decide +kernel)]; kernel_rfl) | (rw [if_neg (by decide +kernel)]; exact ⟨rfl, rfl⟩))
    (fun os started H enc _ => overdue16_lifted H0 os started H enc)
end Go.Proofs.Ytjjjpifdmgpnjaa

namespace Go.Proofs.Ytjjjpifdmgpnjaa
theorem rosterOverdue_all : Rows.RosterOverdueSaid := overdue16_holds rosterCalls
end Go.Proofs.Ytjjjpifdmgpnjaa
