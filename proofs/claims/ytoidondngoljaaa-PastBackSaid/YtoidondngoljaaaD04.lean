/- Texts laid one behind the other: Wk, Wl, Tc, Td, Te, Wm, Wb, Wa, Wc, Wd, We, Wf. -/
import Derived.Test.YtoidondngoljaaaD03
/- Whether operations may be, rise, and come behind a counter: rightOps of the program. -/
namespace Go.Proofs.Ytoidondngoljaaa
open Go.RowKit Tre Cod Pst

/-- The first k may be, rise, and come behind t. -/
def OpsTo (l : List Mv) (t : Int) (k : Nat) : Prop := ∀ i (h : i < l.length), i < k → l[i].ok ∧ t < l[i].C ∧ ∀ (h0 : 0 < i), bef Mv.C Mv.D (l[i - 1]'(by omega)) l[i]
def OpsR (l : List Mv) (t : Int) : Prop := OpsTo l t l.length
theorem OpsTo.zero (l : List Mv) (t : Int) : OpsTo l t 0 := fun i h hi => by omega
theorem OpsTo.next {l : List Mv} {t : Int} {k : Nat} (h : OpsTo l t k) (hk : k < l.length) (h1 : l[k].ok) (h2 : t < l[k].C) (h3 : ∀ (h0 : 0 < k), bef Mv.C Mv.D (l[k - 1]'(by omega)) l[k]) : OpsTo l t (k + 1) := fun i hi hik => by
  by_cases e : i = k
  · subst e; exact ⟨h1, h2, h3⟩
  · exact h i hi (by omega)
theorem OpsR.at {l : List Mv} {t : Int} (h : OpsR l t) (k : Nat) (hk : k < l.length) : l[k].ok ∧ t < l[k].C ∧ ∀ (h0 : 0 < k), bef Mv.C Mv.D (l[k - 1]'(by omega)) l[k] := h k hk hk

theorem false_of_not {b : Bool} {P : Prop} (h : b = true ↔ P) (hn : ¬ P) : b = false := by
  cases b
  · rfl
  · exact absurd (h.1 rfl) hn
theorem bool_for (P : Prop) : ∃ b : Bool, b = true ↔ P := by
  by_cases h : P
  · exact ⟨true, fun _ => h, fun _ => rfl⟩
  · exact ⟨false, fun e => (by cases e), fun k => absurd k h⟩

set_option maxRecDepth 100000 in
set_option maxHeartbeats 4000000 in
theorem rightOps_any (A : Option Addr) (c : Nat) (l : List Mv) (t : Int) (w : World) (hl : l.length ≤ 50000) (hsz : ∀ m ∈ l, m.s.size ≤ 9223372036854775807) (hT : opE.Sl w A l) (bv : Bool) (hbv : bv = true ↔ OpsR l t) :
    Calls Try.prog 47 #[.slice A l.length c, .int .i64 t] w fun e w' => e = .returned (.bool bv) ∧ Below w.heap.size w w' := by
  have HV := Lib.hid hbv
  clear hbv
  go_enter Try.func47, Try.ntmps47
  go_wp2
  go_loopw [9] (fun y wr => ∃ k : Nat, k ≤ l.length ∧ y = .int .i64 k ∧ OpsTo l t k ∧ Below w.heap.size w wr) (fun y _ => l.length - (intOf y).toNat)
  case atStart => exact ⟨0, Nat.zero_le _, rfl, OpsTo.zero l t, Below.refl _ _⟩
  case round =>
    obtain ⟨k, hk, rfl, hto, hnx⟩ := hrel
    by_cases hkl : k < l.length
    · obtain ⟨b, off, rfl, hbw, hc⟩ := hT (by omega)
      have hat : opE.At wr b (off + k * 7) l[k] := (hc k hkl).below hnx hbw
      have hprev : ∀ (h0 : 0 < k), opE.At wr b (off + (k - 1) * 7) (l[k - 1]'(by omega)) := fun h0 => (hc (k - 1) (by omega)).below hnx hbw
      have hms : l[k].s.size ≤ 9223372036854775807 := hsz _ (List.getElem_mem _)
      have HNK := Lib.hid (fun (h : OpsR l t) => h.at k hkl)
      have HT := Lib.hid hto
      obtain ⟨mk, hmk⟩ : ∃ mk, l[k] = mk := ⟨_, rfl⟩
      rw [hmk] at hat hms HNK
      have hb1 : Below wr.heap.size wr ((wr.alloc (.cells #[.int .i64 0, .int .i64 0, .int .i64 0, .int .i64 0, .int .i64 0, .int .i64 0, .string ⟨#[]⟩] 35)).setRow wr.heap.size #[.int .i64 mk.C, .int .i64 mk.D, .int .i64 mk.I, .int .i64 mk.M, .int .i64 mk.K, .int .i64 mk.U, .string mk.s]) := below_setRow (below_alloc (Below.refl _ _) _) (Nat.le_refl _) _
      have hI : opE.In ((wr.alloc (.cells #[.int .i64 0, .int .i64 0, .int .i64 0, .int .i64 0, .int .i64 0, .int .i64 0, .string ⟨#[]⟩] 35)).setRow wr.heap.size #[.int .i64 mk.C, .int .i64 mk.D, .int .i64 mk.I, .int .i64 mk.M, .int .i64 mk.K, .int .i64 mk.U, .string mk.s]) wr.heap.size mk := (El.In.new (E := opE) wr zeroMv #[.int .i64 0, .int .i64 0, .int .i64 0, .int .i64 0, .int .i64 0, .int .i64 0, .string ⟨#[]⟩] rfl).set mk #[.int .i64 mk.C, .int .i64 mk.D, .int .i64 mk.I, .int .i64 mk.M, .int .i64 mk.K, .int .i64 mk.U, .string mk.s] rfl
      have hz : opE.In (wr.alloc (.cells #[.int .i64 0, .int .i64 0, .int .i64 0, .int .i64 0, .int .i64 0, .int .i64 0, .string ⟨#[]⟩] 35)) wr.heap.size zeroMv := El.In.new (E := opE) wr zeroMv #[.int .i64 0, .int .i64 0, .int .i64 0, .int .i64 0, .int .i64 0, .int .i64 0, .string ⟨#[]⟩] rfl
      have hbr := Nat.lt_of_lt_of_le hbw hnx.size
      have hprev2 := fun h0 => (hprev h0).below hb1 hbr
      go_wp2_with (first | (refine El.load opRow rfl _ rfl b (off + k * 7) rfl mk hat #[.int .i64 mk.C, .int .i64 mk.D, .int .i64 mk.I, .int .i64 mk.M, .int .i64 mk.K, .int .i64 mk.U, .string mk.s] rfl ?_) | (refine El.store opRow rfl _ _ rfl wr.heap.size mk #[.int .i64 mk.C, .int .i64 mk.D, .int .i64 mk.I, .int .i64 mk.M, .int .i64 mk.K, .int .i64 mk.U, .string mk.s] rfl rfl rfl zeroMv hz ?_))
      try simp only [Act.put, List.setIfInBounds_toArray, List.set_cons_zero, List.set_cons_succ]
      have HBW := Lib.hid (below_then hnx hb1)
      generalize (wr.alloc (.cells #[.int .i64 0, .int .i64 0, .int .i64 0, .int .i64 0, .int .i64 0, .int .i64 0, .string ⟨#[]⟩] 35)).setRow wr.heap.size #[.int .i64 mk.C, .int .i64 mk.D, .int .i64 mk.I, .int .i64 mk.M, .int .i64 mk.K, .int .i64 mk.U, .string mk.s] = W at *
      generalize wr.heap.size = n0 at *
      obtain ⟨o0, o1, o2, o3, o4, o5, o6⟩ := opIn7 hI
      have k0 := cell_regrown o0
      have k1 := cell_regrown o1
      have k2 := cell_regrown o2
      have k3 := cell_regrown o3
      have k4 := cell_regrown o4
      have k5 := cell_regrown o5
      have k6 := cell_regrown o6
      obtain ⟨r, hr⟩ : ∃ r, opB mk.C mk.D mk.I mk.M mk.K mk.U mk.s = r := ⟨_, rfl⟩
      have CR := fun w => opRight_any mk.C mk.D mk.I mk.M mk.K mk.U mk.s w hms
      rw [hr] at CR
      have HCR := Lib.hid CR
      have HR := Lib.hid hr
      have HTO := Lib.hid hto
      have d1 : ∀ d os, Calls Try.prog 77 #[.agg #[.int .i64 mk.C, .int .i64 mk.D, .int .i64 mk.I, .int .i64 mk.M, .int .i64 mk.K, .int .i64 mk.U, .string mk.s]] (Sort.grow (redrawn W d) os) fun e w'' => e = .returned (.bool r) ∧ ∃ p : Regrown, w'' = Sort.grow (redrawn W p.d) p.os := fun d os => Calls.regrown_of (HCR.out _)
      have d2 : ∀ d os, Calls Try.prog 77 #[.agg #[.int .i64 mk.C, .int .i64 mk.D, .int .i64 mk.I, .int .i64 mk.M, .int .i64 mk.K, .int .i64 mk.U, .string mk.s]] (Sort.grow (redrawn W d) os) fun e w'' => e = .returned (.bool r) ∧ ∃ p : Regrown, w'' = Sort.grow (redrawn W p.d) p.os := d1
      have HMK := Lib.hid hmk
      have HPV := Lib.hid hprev2
      clear o0 o1 o2 o3 o4 o5 o6 CR hr hat hprev hprev2 hc hmk hI hb1 hto HCR
      cases r
      · have HNO := Lib.hid (show ¬ OpsR l t from fun h => by have := (HNK.out h).1; unfold Mv.ok at this; rw [HR.out] at this; cases this)
        refine wp_region_quiet_below (by kernel_rfl) (by kernel_rfl) ?_
        repeat (go_big_quiet_step ((with_reducible (first | exact d1 _ _ | exact d2 _ _))))
        refine wpQuiet_nil ?_
        intro _ hw'
        obtain ⟨⟨dq, osq⟩, hw''⟩ := hw'
        subst hw''
        have hq := below_regrown W dq osq
        generalize Sort.grow (redrawn W dq) osq = W1 at *
        go_wp2_with fail
        go_ret
        exact ⟨by rw [false_of_not HV.out HNO.out]; rfl, HBW.out.trans (hq.mono HBW.out.size)⟩
      · have HOK := Lib.hid (show mk.ok from HR.out)
        by_cases htc : t < mk.C
        · have HTC := Lib.hid htc
          have hdc : decide (mk.C ≤ t) = false := decide_eq_false (by omega)
          by_cases h0 : k = 0
          · subst h0
            have HBF := Lib.hid (fun (h0 : 0 < 0) => (absurd h0 (Nat.lt_irrefl 0) : bef Mv.C Mv.D (l[0 - 1]'(by omega)) mk))
            refine wp_region_quiet_below (by kernel_rfl) (by kernel_rfl) ?_
            repeat (go_big_quiet_step ((with_reducible (first | exact d1 _ _ | exact d2 _ _))))
            refine wpQuiet_nil ?_
            intro _ hw'
            obtain ⟨⟨dq, osq⟩, hw''⟩ := hw'
            subst hw''
            have hq := below_regrown W dq osq
            generalize Sort.grow (redrawn W dq) osq = W1 at *
            go_wp2_with fail
            go_roundw
            case rel => exact ⟨0 + 1, by omega, by go_num, HT.out.next hkl (by rw [HMK.out]; exact HOK.out) (by rw [HMK.out]; exact HTC.out) (by intro h0; omega), HBW.out.trans (hq.mono HBW.out.size)⟩
            case measure => simp [intOf]; omega
          · obtain ⟨j, rfl⟩ : ∃ j, k = j + 1 := ⟨k - 1, by omega⟩
            have hpv := HPV.out (by omega)
            simp only [Nat.add_sub_cancel] at hpv
            obtain ⟨pv, hpve⟩ : ∃ pv, l[j]'(by omega) = pv := ⟨_, rfl⟩
            rw [hpve] at hpv
            obtain ⟨t0, t1, t2, t3, t4, t5, t6⟩ := opAt hpv
            have k7 := cell_regrown t0
            have k8 := cell_regrown t1
            have C2 := fun w => before_any pv.C pv.D mk.C mk.D w
            obtain ⟨bb, hbb⟩ : ∃ bb, befB pv.C pv.D mk.C mk.D = bb := ⟨_, rfl⟩
            rw [hbb] at C2
            rw [bef_iff] at hbb
            have HC2 := Lib.hid C2
            have HBB := Lib.hid hbb
            have HPE := Lib.hid hpve
            clear t0 t1 t2 t3 t4 t5 t6 C2 hbb hpve hpv d2
            have d2 : ∀ d os, Calls Try.prog 69 #[.agg #[.int .i64 pv.C, .int .i64 pv.D], .agg #[.int .i64 mk.C, .int .i64 mk.D]] (Sort.grow (redrawn W d) os) fun e w'' => e = .returned (.bool bb) ∧ ∃ p : Regrown, w'' = Sort.grow (redrawn W p.d) p.os := fun d os => Calls.regrown_of (HC2.out _)
            have hd0 : decide ((0 : Int) < ((j + 1 : Nat) : Int)) = true := decide_eq_true (by omega)
            have hd1 : decide ((0 : Int) < (j : Int) + 1) = true := decide_eq_true (by omega)
            cases bb
            · have HNO := Lib.hid (show ¬ OpsR l t from fun h => of_decide_eq_false HBB.out (by have h9 : bef Mv.C Mv.D (l[j]'(by omega)) mk := (HNK.out h).2.2 (Nat.succ_pos j); rw [HPE.out] at h9; exact h9))
              refine wp_region_quiet_below (by kernel_rfl) (by kernel_rfl) ?_
              repeat (go_big_quiet_step ((with_reducible (first | exact d1 _ _ | exact d2 _ _))))
              refine wpQuiet_nil ?_
              intro _ hw'
              obtain ⟨⟨dq, osq⟩, hw''⟩ := hw'
              subst hw''
              have hq := below_regrown W dq osq
              generalize Sort.grow (redrawn W dq) osq = W1 at *
              go_wp2_with fail
              go_ret
              exact ⟨by rw [false_of_not HV.out HNO.out]; rfl, HBW.out.trans (hq.mono HBW.out.size)⟩
            · have HBF := Lib.hid (show ∀ (h0 : 0 < j + 1), bef Mv.C Mv.D (l[j + 1 - 1]'(by omega)) mk from fun _ => by show bef Mv.C Mv.D (l[j]'(by omega)) mk; rw [HPE.out]; exact of_decide_eq_true HBB.out)
              refine wp_region_quiet_below (by kernel_rfl) (by kernel_rfl) ?_
              repeat (go_big_quiet_step ((with_reducible (first | exact d1 _ _ | exact d2 _ _))))
              refine wpQuiet_nil ?_
              intro _ hw'
              obtain ⟨⟨dq, osq⟩, hw''⟩ := hw'
              subst hw''
              have hq := below_regrown W dq osq
              generalize Sort.grow (redrawn W dq) osq = W1 at *
              go_wp2_with fail
              go_roundw
              case rel => exact ⟨j + 1 + 1, by omega, by go_num, HT.out.next hkl (by rw [HMK.out]; exact HOK.out) (by rw [HMK.out]; exact HTC.out) (by intro h0; rw [HMK.out]; exact HBF.out h0), HBW.out.trans (hq.mono HBW.out.size)⟩
              case measure => simp [intOf]; omega
        · have hdc : decide (mk.C ≤ t) = true := decide_eq_true (by omega)
          have HNO := Lib.hid (show ¬ OpsR l t from fun h => htc (HNK.out h).2.1)
          refine wp_region_quiet_below (by kernel_rfl) (by kernel_rfl) ?_
          repeat (go_big_quiet_step ((with_reducible (first | exact d1 _ _ | exact d2 _ _))))
          refine wpQuiet_nil ?_
          intro _ hw'
          obtain ⟨⟨dq, osq⟩, hw''⟩ := hw'
          subst hw''
          have hq := below_regrown W dq osq
          generalize Sort.grow (redrawn W dq) osq = W1 at *
          go_wp2_with fail
          go_ret
          exact ⟨by rw [false_of_not HV.out HNO.out]; rfl, HBW.out.trans (hq.mono HBW.out.size)⟩
    · obtain rfl : k = l.length := by omega
      go_wp2
      go_ret
      exact ⟨by rw [HV.out.2 hto]; rfl, hnx⟩
end Go.Proofs.Ytoidondngoljaaa

/- The library's Equal, of places and of undos. -/
namespace Go.Proofs.Ytoidondngoljaaa
open Go.RowKit Tre Cod

set_option maxRecDepth 100000 in
set_option maxHeartbeats 4000000 in
theorem equalPl_any (A1 A2 : Option Addr) (c1 c2 : Nat) (l m : List Pl) (w : World) (hl : l.length ≤ 50000) (hm : m.length ≤ 50000) (h1 : plE.Sl w A1 l) (h2 : plE.Sl w A2 m) (bv : Bool) (hbv : bv = true ↔ l = m) :
    Calls Try.prog 48 #[.slice A1 l.length c1, .slice A2 m.length c2] w fun e w' => e = .returned (.bool bv) ∧ Below w.heap.size w w' := by
  have HV := Lib.hid hbv
  clear hbv
  by_cases hlen : l.length = m.length
  · rw [← hlen]
    have HL := Lib.hid hlen
    clear hlen
    go_enter Try.func48, Try.ntmps48
    go_wp2
    go_loopw [13] (fun x wr => ∃ k : Nat, k ≤ l.length ∧ x = .int .i64 k ∧ (∀ j (hj : j < k) (ha : j < l.length) (hb : j < m.length), l[j] = m[j]) ∧ Below w.heap.size w wr) (fun x _ => l.length - (intOf x).toNat)
    case atStart => exact ⟨0, Nat.zero_le _, rfl, fun j hj => by omega, Below.refl _ _⟩
    case round =>
      obtain ⟨k, hk, rfl, hall, hnx⟩ := hrel
      by_cases hlt : k < l.length
      · obtain ⟨b1, o1, hA1, hw1, hc1⟩ := h1 (by omega)
        have hlt2 : k < m.length := by have := HL.out; omega
        obtain ⟨b2, o2, hA2, hw2, hc2⟩ := h2 (by omega)
        have hat : plE.At wr b1 (o1 + k * 3) l[k] := (hc1 k hlt).below hnx hw1
        have hat2 : plE.At wr b2 (o2 + k * 3) m[k] := (hc2 k hlt2).below hnx hw2
        obtain ⟨p, hp⟩ : ∃ p, l[k] = p := ⟨_, rfl⟩
        obtain ⟨q, hq⟩ : ∃ q, m[k] = q := ⟨_, rfl⟩
        rw [hp] at hat
        rw [hq] at hat2
        have HP := Lib.hid hp
        have HQ := Lib.hid hq
        have HA := Lib.hid hall
        obtain ⟨q0, q1, q2⟩ := plAtE hat
        obtain ⟨r0, r1, r2⟩ := plAtE hat2
        clear hc1 hc2 hp hq h1 h2 hall hat hat2
        subst hA1 hA2
        by_cases hpq : p = q
        · have HE := Lib.hid hpq
          subst hpq
          go_wp2
          go_quiet (fail)
          go_wp2
          go_roundw
          case rel =>
            refine ⟨k + 1, by omega, by go_num, fun j hj ha hb => ?_, below_drew hnx _⟩
            by_cases e : j = k
            · subst e; rw [HP.out, HQ.out]
            · exact HA.out j (by omega) ha hb
          case measure => simp [intOf]; omega
        · have HN := Lib.hid hpq
          have HF := Lib.hid (false_of_not HV.out fun h => HN.out (by subst h; exact HP.out.symm.trans HQ.out))
          rcases pl_unlike hpq with hu | ⟨a0, hu⟩ | ⟨a0, a1, hu⟩
          all_goals
            clear hpq
            go_wp2
            go_quiet (fail)
            go_wp2
            go_ret
            exact ⟨by rw [HF.out]; rfl, below_drew hnx _⟩
      · obtain rfl : k = l.length := by omega
        have HA := Lib.hid (HV.out.2 (List.ext_getElem HL.out fun j ha hb => hall j ha ha hb))
        clear hall
        go_wp2
        go_ret
        exact ⟨by rw [HA.out]; rfl, hnx⟩
  · have HF := Lib.hid (false_of_not HV.out fun h => hlen (congrArg List.length h))
    have hne : ¬ m.length = l.length := fun e => hlen e.symm
    go_enter Try.func48, Try.ntmps48
    go_wp2
    go_ret
    exact ⟨by rw [HF.out]; rfl, Below.refl _ _⟩

set_option maxRecDepth 100000 in
set_option maxHeartbeats 4000000 in
theorem equalUn_any (A1 A2 : Option Addr) (c1 c2 : Nat) (l m : List Un) (w : World) (hl : l.length ≤ 50000) (hm : m.length ≤ 50000) (h1 : unE.Sl w A1 l) (h2 : unE.Sl w A2 m) (bv : Bool) (hbv : bv = true ↔ l = m) :
    Calls Try.prog 49 #[.slice A1 l.length c1, .slice A2 m.length c2] w fun e w' => e = .returned (.bool bv) ∧ Below w.heap.size w w' := by
  have HV := Lib.hid hbv
  clear hbv
  by_cases hlen : l.length = m.length
  · rw [← hlen]
    have HL := Lib.hid hlen
    clear hlen
    go_enter Try.func49, Try.ntmps49
    go_wp2
    go_loopw [13] (fun x wr => ∃ k : Nat, k ≤ l.length ∧ x = .int .i64 k ∧ (∀ j (hj : j < k) (ha : j < l.length) (hb : j < m.length), l[j] = m[j]) ∧ Below w.heap.size w wr) (fun x _ => l.length - (intOf x).toNat)
    case atStart => exact ⟨0, Nat.zero_le _, rfl, fun j hj => by omega, Below.refl _ _⟩
    case round =>
      obtain ⟨k, hk, rfl, hall, hnx⟩ := hrel
      by_cases hlt : k < l.length
      · obtain ⟨b1, o1, hA1, hw1, hc1⟩ := h1 (by omega)
        have hlt2 : k < m.length := by have := HL.out; omega
        obtain ⟨b2, o2, hA2, hw2, hc2⟩ := h2 (by omega)
        have hat : unE.At wr b1 (o1 + k * 5) l[k] := (hc1 k hlt).below hnx hw1
        have hat2 : unE.At wr b2 (o2 + k * 5) m[k] := (hc2 k hlt2).below hnx hw2
        obtain ⟨p, hp⟩ : ∃ p, l[k] = p := ⟨_, rfl⟩
        obtain ⟨q, hq⟩ : ∃ q, m[k] = q := ⟨_, rfl⟩
        rw [hp] at hat
        rw [hq] at hat2
        have HP := Lib.hid hp
        have HQ := Lib.hid hq
        have HA := Lib.hid hall
        obtain ⟨q0, q1, q2, q3, q4⟩ := unAt hat
        obtain ⟨r0, r1, r2, r3, r4⟩ := unAt hat2
        clear hc1 hc2 hp hq h1 h2 hall hat hat2
        subst hA1 hA2
        by_cases hpq : p = q
        · have HE := Lib.hid hpq
          subst hpq
          go_wp2
          go_quiet (fail)
          go_wp2
          go_roundw
          case rel =>
            refine ⟨k + 1, by omega, by go_num, fun j hj ha hb => ?_, below_drew hnx _⟩
            by_cases e : j = k
            · subst e; rw [HP.out, HQ.out]
            · exact HA.out j (by omega) ha hb
          case measure => simp [intOf]; omega
        · have HN := Lib.hid hpq
          have HF := Lib.hid (false_of_not HV.out fun h => HN.out (by subst h; exact HP.out.symm.trans HQ.out))
          rcases un_unlike hpq with hu | ⟨a0, hu⟩ | ⟨a0, a1, hu⟩ | ⟨a0, a1, a2, hu⟩ | ⟨a0, a1, a2, a3, hu⟩
          all_goals
            clear hpq
            go_wp2
            go_quiet (fail)
            go_wp2
            go_ret
            exact ⟨by rw [HF.out]; rfl, below_drew hnx _⟩
      · obtain rfl : k = l.length := by omega
        have HA := Lib.hid (HV.out.2 (List.ext_getElem HL.out fun j ha hb => hall j ha ha hb))
        clear hall
        go_wp2
        go_ret
        exact ⟨by rw [HA.out]; rfl, hnx⟩
  · have HF := Lib.hid (false_of_not HV.out fun h => hlen (congrArg List.length h))
    have hne : ¬ m.length = l.length := fun e => hlen e.symm
    go_enter Try.func49, Try.ntmps49
    go_wp2
    go_ret
    exact ⟨by rw [HF.out]; rfl, Below.refl _ _⟩
end Go.Proofs.Ytoidondngoljaaa

/- What may be a tree: of the program. -/
namespace Go.Proofs.Ytoidondngoljaaa
open Go.RowKit Tre Nam Cod

theorem okPl_five {n u : Int} {P : Prop} (h1 : ¬ 2 ≤ n → P) (h2 : 2 ≤ n → ¬ n < 64 → P) (h3 : 2 ≤ n → n < 64 → ¬ 0 ≤ u → P) (h4 : 2 ≤ n → n < 64 → 0 ≤ u → ¬ u < 64 → P) (h5 : 2 ≤ n → n < 64 → 0 ≤ u → u < 64 → P) : P := by
  by_cases a : 2 ≤ n
  · by_cases b : n < 64
    · by_cases c : 0 ≤ u
      · by_cases d : u < 64
        · exact h5 a b c d
        · exact h4 a b c d
      · exact h3 a b c
    · exact h2 a b
  · exact h1 a
theorem okPl_false {p : Pl} (h : ¬ (2 ≤ p.n ∧ p.n < 64 ∧ 0 ≤ p.u ∧ p.u < 64)) : okPl p = false := by
  unfold okPl; rw [decide_eq_false h]; rfl
theorem okPl_name {p : Pl} (h : 2 ≤ p.n ∧ p.n < 64 ∧ 0 ≤ p.u ∧ p.u < 64) : okPl p = isName (L p.s) := by
  unfold okPl; rw [decide_eq_true h]; rfl

theorem rightPlace_any (p : Pl) (w : World) (hs : p.s.size ≤ 9223372036854775807) :
    Calls Try.prog 93 #[.agg #[.int .i64 p.n, .int .i64 p.u, .string p.s]] w fun e w' => e = .returned (.bool (okPl p)) ∧ Below w.heap.size w w' := by
  have c := fun w => nmRight_any p.s w hs
  refine okPl_five (n := p.n) (u := p.u) ?_ ?_ ?_ ?_ ?_
  · intro h1
    rw [okPl_false (by omega)]
    go_enter Try.func93, Try.ntmps93
    go_wp2
    go_ret
    exact ⟨rfl, below_alloc (Below.refl _ _) _⟩
  · intro h1 h2
    rw [okPl_false (by omega)]
    go_enter Try.func93, Try.ntmps93
    go_wp2
    go_ret
    exact ⟨rfl, below_alloc (Below.refl _ _) _⟩
  · intro h1 h2 h3
    rw [okPl_false (by omega)]
    go_enter Try.func93, Try.ntmps93
    go_wp2
    go_ret
    exact ⟨rfl, below_alloc (Below.refl _ _) _⟩
  · intro h1 h2 h3 h4
    rw [okPl_false (by omega)]
    go_enter Try.func93, Try.ntmps93
    go_wp2
    go_ret
    exact ⟨rfl, below_alloc (Below.refl _ _) _⟩
  · intro h1 h2 h3 h4
    rw [okPl_name ⟨h1, h2, h3, h4⟩]
    generalize isName (L p.s) = x at *
    have C := Lib.hid c
    clear c
    go_enter Try.func93, Try.ntmps93
    go_wp2_with (go_at_call 97; (with_reducible refine (C.out _).mono ?_); rintro e w1 ⟨rfl, rfl⟩)
    go_ret
    exact ⟨rfl, below_alloc (Below.refl _ _) _⟩

/-- The places ahead of i may be, and rise. -/
def GoodTo (l : List Pl) (i : Nat) : Prop := ∀ k (h : k < l.length), k < i → okPl l[k] = true ∧ ∀ (h0 : 0 < k), (l[k - 1]'(by omega)).n < l[k].n
theorem goodTo_next {l : List Pl} {i : Nat} (h : GoodTo l i) (hi : i < l.length) (h1 : okPl l[i] = true) (h2 : ∀ (h0 : 0 < i), (l[i - 1]'(by omega)).n < l[i].n) : GoodTo l (i + 1) := by
  intro k hk hlt
  by_cases e : k = i
  · subst e; exact ⟨h1, h2⟩
  · exact h k hk (by omega)
theorem rising_of : ∀ {l : List Pl}, (∀ k (h : k < l.length) (h0 : 0 < k), (l[k - 1]'(by omega)).n < l[k].n) → rising l = true
  | [], _ => rfl
  | [_], _ => rfl
  | p :: q :: l, h => by
    unfold rising
    rw [Bool.and_eq_true, decide_eq_true_iff]
    refine ⟨h 1 (by simp) (by omega), rising_of (l := q :: l) fun k hk h0 => ?_⟩
    have := h (k + 1) (by simpa using hk) (by omega)
    obtain ⟨m, rfl⟩ : ∃ m, k = m + 1 := ⟨k - 1, by omega⟩
    simpa using this
def riseB (l : List Pl) : Bool := l.all okPl && rising l
theorem goodTo_all {l : List Pl} (h : GoodTo l l.length) : riseB l = true := by
  unfold riseB
  rw [Bool.and_eq_true, List.all_eq_true]
  refine ⟨fun p hp => ?_, rising_of fun k hk h0 => (h k hk hk).2 h0⟩
  obtain ⟨k, hk, rfl⟩ := List.getElem_of_mem hp
  exact (h k hk hk).1
theorem goodTo_back {l : List Pl} (h : riseB l = true) : (∀ k (h : k < l.length), okPl l[k] = true) ∧ Sorted l := by
  unfold riseB at h
  rw [Bool.and_eq_true, List.all_eq_true] at h
  exact ⟨fun k hk => h.1 _ (List.getElem_mem hk), rising_sorted h.2⟩
theorem goodTo_bad {l : List Pl} {i : Nat} (hi : i < l.length) (h : ¬ (okPl l[i] = true ∧ ∀ (h0 : 0 < i), (l[i - 1]'(by omega)).n < l[i].n)) : riseB l = false := by
  rcases e : riseB l with _ | _
  · rfl
  · obtain ⟨h1, h2⟩ := goodTo_back e
    exact absurd ⟨h1 i hi, fun h0 => h2 _ _ (by omega) hi (by omega)⟩ h

set_option maxHeartbeats 4000000 in
theorem rising_any (A : Option Addr) (cap : Nat) (l : List Pl) (w : World) (hl : l.length ≤ 1000) (hsz : ∀ p ∈ l, p.s.size ≤ 9223372036854775807) (hT : Tr w A l) :
    Calls Try.prog 75 #[.slice A l.length cap] w fun e w' => e = .returned (.bool (riseB l)) ∧ Below w.heap.size w w' := by
  go_enter Try.func75, Try.ntmps75
  go_wp2
  go_loopw [7] (fun x wr => ∃ k : Nat, k ≤ l.length ∧ x = .int .i64 k ∧ GoodTo l k ∧ Below w.heap.size w wr) (fun x _ => l.length - (intOf x).toNat)
  case atStart => exact ⟨0, Nat.zero_le _, rfl, fun k h hk => by omega, Below.refl _ _⟩
  case round =>
    obtain ⟨k, hk, rfl, hgd, hnx⟩ := hrel
    by_cases hlt : k < l.length
    · obtain ⟨bb, off, rfl, hbw, hc⟩ := hT (by omega)
      have hbr := Nat.lt_of_lt_of_le hbw hnx.size
      have hat := (hc k hlt).below hnx hbw
      obtain ⟨p, hp⟩ : ∃ p, l[k] = p := ⟨_, rfl⟩
      have c := fun w => rightPlace_any p w (hsz p (hp ▸ List.getElem_mem hlt))
      have hbad := goodTo_bad hlt
      have hnext := goodTo_next hgd hlt
      rw [hp] at hat hbad hnext
      have hprev : ∀ h0 : 0 < k, AtPl wr bb (off + (k - 1) * 3) (l[k - 1]'(by omega)) := fun h0 => (hc (k - 1) (by omega)).below hnx hbw
      obtain ⟨q0, q1, q2⟩ := hat
      have HG := Lib.hid hgd
      have HB := Lib.hid hbad
      have HN := Lib.hid hnext
      clear hgd hbad hnext hc hsz
      cases hok : okPl p
      · rw [hok] at c
        have C := Lib.hid c
        have hr : riseB l = false := HB.out (fun h => by rw [hok] at h; exact absurd h.1 (by simp))
        have HR := Lib.hid hr
        clear c hr hok hprev hp
        go_wp2
        have hO := PlIn.new wr p
        have hB0 := below_alloc hnx (.cells #[.int .i64 p.n, .int .i64 p.u, .string p.s] 58)
        generalize wr.alloc (.cells #[.int .i64 p.n, .int .i64 p.u, .string p.s] 58) = W at *
        obtain ⟨g0, g1, g2⟩ := hO.cells
        have k0 := cell_regrown g0
        have k1 := cell_regrown g1
        have k2 := cell_regrown g2
        clear g0 g1 g2 hO
        have d1 : ∀ d os, Calls Try.prog 93 #[.agg #[.int .i64 p.n, .int .i64 p.u, .string p.s]] (Sort.grow (redrawn W d) os) fun e w'' => e = .returned (.bool false) ∧ ∃ p : Regrown, w'' = Sort.grow (redrawn W p.d) p.os := fun d os => Calls.regrown_of (C.out _)
        refine wp_region_quiet_below (by kernel_rfl) (by kernel_rfl) ?_
        repeat (go_big_quiet_step ((with_reducible (exact d1 _ _))))
        refine wpQuiet_nil ?_
        intro _ hw'
        obtain ⟨⟨dq, osq⟩, hw''⟩ := hw'
        subst hw''
        go_wp2
        go_ret
        exact ⟨by rw [HR.out]; rfl, below_then hB0 (below_regrown W dq osq)⟩
      · rw [hok] at c
        have C := Lib.hid c
        clear c
        by_cases h0 : 0 < k
        · obtain ⟨t0, t1, t2⟩ := hprev h0
          obtain ⟨q, hq⟩ : ∃ q, l[k - 1]'(by omega) = q := ⟨_, rfl⟩
          rw [hq] at t0 t1 t2
          have hix : ((k : Int) - 1).toNat = k - 1 := by omega
          by_cases hc2 : q.n < p.n
          · have HQ : ∀ h0 : 0 < k, (l[k - 1]'(by omega)).n < p.n := fun _ => by rw [hq]; exact hc2
            have HQ := Lib.hid HQ
            clear hq hp hprev
            go_wp2
            have hO := PlIn.new wr p
            have hB0 := below_alloc hnx (.cells #[.int .i64 p.n, .int .i64 p.u, .string p.s] 58)
            have hw0 := below_alloc (Below.refl _ wr) (.cells #[.int .i64 p.n, .int .i64 p.u, .string p.s] 58)
            rw [← (bcell hw0).1 _ _ hbr] at t0
            clear hw0
            generalize wr.alloc (.cells #[.int .i64 p.n, .int .i64 p.u, .string p.s] 58) = W at *
            obtain ⟨g0, g1, g2⟩ := hO.cells
            have k0 := cell_regrown g0
            have k1 := cell_regrown g1
            have k2 := cell_regrown g2
            have kt0 := cell_regrown t0
            clear t0 t1 t2
            clear g0 g1 g2 hO
            have d1 : ∀ d os, Calls Try.prog 93 #[.agg #[.int .i64 p.n, .int .i64 p.u, .string p.s]] (Sort.grow (redrawn W d) os) fun e w'' => e = .returned (.bool true) ∧ ∃ p : Regrown, w'' = Sort.grow (redrawn W p.d) p.os := fun d os => Calls.regrown_of (C.out _)
            refine wp_region_quiet_below (by kernel_rfl) (by kernel_rfl) ?_
            repeat (go_big_quiet_step ((with_reducible (exact d1 _ _))))
            refine wpQuiet_nil ?_
            intro _ hw'
            obtain ⟨⟨dq, osq⟩, hw''⟩ := hw'
            subst hw''
            go_wp2
            go_roundw
            case rel => exact ⟨k + 1, by omega, by go_num, HN.out hok fun h0 => HQ.out h0, below_then hB0 (below_regrown W dq osq)⟩
            case measure => simp [intOf]; omega
          · have hr : riseB l = false := HB.out (fun h => by have := h.2 h0; rw [hq] at this; exact hc2 this)
            have HR := Lib.hid hr
            clear hr hq hp hprev
            go_wp2
            have hO := PlIn.new wr p
            have hB0 := below_alloc hnx (.cells #[.int .i64 p.n, .int .i64 p.u, .string p.s] 58)
            have hw0 := below_alloc (Below.refl _ wr) (.cells #[.int .i64 p.n, .int .i64 p.u, .string p.s] 58)
            rw [← (bcell hw0).1 _ _ hbr] at t0
            clear hw0
            generalize wr.alloc (.cells #[.int .i64 p.n, .int .i64 p.u, .string p.s] 58) = W at *
            obtain ⟨g0, g1, g2⟩ := hO.cells
            have k0 := cell_regrown g0
            have k1 := cell_regrown g1
            have k2 := cell_regrown g2
            have kt0 := cell_regrown t0
            clear t0 t1 t2
            clear g0 g1 g2 hO
            have d1 : ∀ d os, Calls Try.prog 93 #[.agg #[.int .i64 p.n, .int .i64 p.u, .string p.s]] (Sort.grow (redrawn W d) os) fun e w'' => e = .returned (.bool true) ∧ ∃ p : Regrown, w'' = Sort.grow (redrawn W p.d) p.os := fun d os => Calls.regrown_of (C.out _)
            refine wp_region_quiet_below (by kernel_rfl) (by kernel_rfl) ?_
            repeat (go_big_quiet_step ((with_reducible (exact d1 _ _))))
            refine wpQuiet_nil ?_
            intro _ hw'
            obtain ⟨⟨dq, osq⟩, hw''⟩ := hw'
            subst hw''
            go_wp2
            go_ret
            exact ⟨by rw [HR.out]; rfl, below_then hB0 (below_regrown W dq osq)⟩
        · have hd : decide ((0 : Int) < (k : Int)) = false := decide_eq_false (by omega)
          have HK := Lib.hid h0
          clear hprev hp
          go_wp2
          have hO := PlIn.new wr p
          have hB0 := below_alloc hnx (.cells #[.int .i64 p.n, .int .i64 p.u, .string p.s] 58)
          generalize wr.alloc (.cells #[.int .i64 p.n, .int .i64 p.u, .string p.s] 58) = W at *
          obtain ⟨g0, g1, g2⟩ := hO.cells
          have k0 := cell_regrown g0
          have k1 := cell_regrown g1
          have k2 := cell_regrown g2
          clear g0 g1 g2 hO
          have d1 : ∀ d os, Calls Try.prog 93 #[.agg #[.int .i64 p.n, .int .i64 p.u, .string p.s]] (Sort.grow (redrawn W d) os) fun e w'' => e = .returned (.bool true) ∧ ∃ p : Regrown, w'' = Sort.grow (redrawn W p.d) p.os := fun d os => Calls.regrown_of (C.out _)
          refine wp_region_quiet_below (by kernel_rfl) (by kernel_rfl) ?_
          repeat (go_big_quiet_step ((with_reducible (exact d1 _ _))))
          refine wpQuiet_nil ?_
          intro _ hw'
          obtain ⟨⟨dq, osq⟩, hw''⟩ := hw'
          subst hw''
          go_wp2
          go_roundw
          case rel => exact ⟨k + 1, by omega, by go_num, HN.out hok fun h0 => absurd h0 HK.out, below_then hB0 (below_regrown W dq osq)⟩
          case measure => simp [intOf]; omega
    · obtain rfl : k = l.length := by omega
      have HR := Lib.hid (goodTo_all hgd)
      clear hgd
      go_wp2
      go_ret
      exact ⟨by rw [HR.out]; rfl, hnx⟩
end Go.Proofs.Ytoidondngoljaaa

/- What may be a tree: Right of both. -/
namespace Go.Proofs.Ytoidondngoljaaa
open Go.RowKit Tre Nam Cod

def ringless (l : List Pl) : Bool := l.all fun p => !above l p.n p.u
theorem treeB_two (l : List Pl) : treeB l = (riseB l && ringless l) := by unfold treeB riseB ringless; rw [Bool.and_assoc]
def FreeTo (l : List Pl) (i : Nat) : Prop := ∀ k (h : k < l.length), k < i → above l l[k].n l[k].u = false
theorem free_next {l : List Pl} {i : Nat} (h : FreeTo l i) (hi : i < l.length) (h1 : above l l[i].n l[i].u = false) : FreeTo l (i + 1) := by
  intro k hk hlt
  by_cases e : k = i
  · subst e; exact h1
  · exact h k hk (by omega)
theorem free_all {l : List Pl} (h : FreeTo l l.length) : ringless l = true := by
  unfold ringless
  rw [List.all_eq_true]
  intro p hp
  obtain ⟨k, hk, rfl⟩ := List.getElem_of_mem hp
  rw [h k hk hk]; rfl
theorem free_bad {l : List Pl} {i : Nat} (hi : i < l.length) (h : above l l[i].n l[i].u = true) : ringless l = false := by
  rcases e : ringless l with _ | _
  · rfl
  · unfold ringless at e
    rw [List.all_eq_true] at e
    have := e _ (List.getElem_mem hi)
    rw [h] at this; exact this.symm

theorem noLoop_any (A : Option Addr) (cap : Nat) (l : List Pl) (w : World) (hl : l.length ≤ 1000) (hs : Sorted l) (hT : Tr w A l) :
    Calls Try.prog 76 #[.slice A l.length cap] w fun e w' => e = .returned (.bool (ringless l)) ∧ Below w.heap.size w w' := by
  have C := fun w a b (hT : Tr w A l) => above_any A cap l a b w hl hs hT
  go_enter Try.func76, Try.ntmps76
  go_wp2
  go_loopw [7] (fun x wr => ∃ k : Nat, k ≤ l.length ∧ x = .int .i64 k ∧ FreeTo l k ∧ Below w.heap.size w wr) (fun x _ => l.length - (intOf x).toNat)
  case atStart => exact ⟨0, Nat.zero_le _, rfl, fun k h hk => by omega, Below.refl _ _⟩
  case round =>
    obtain ⟨k, hk, rfl, hgd, hnx⟩ := hrel
    by_cases hlt : k < l.length
    · obtain ⟨bb, off, hAe, hbw, hc⟩ := hT (by omega)
      have hbr := Nat.lt_of_lt_of_le hbw hnx.size
      have hat := (hc k hlt).below hnx hbw
      have hbad := free_bad hlt
      have hnext := free_next hgd hlt
      obtain ⟨p, hp⟩ : ∃ p, l[k] = p := ⟨_, rfl⟩
      rw [hp] at hat hbad hnext
      obtain ⟨q0, q1, q2⟩ := hat
      have hTa := (hT.below hnx).below (below_alloc (Below.refl _ wr) (.cells #[.int .i64 p.n, .int .i64 p.u, .string p.s] 58))
      have C := C _ p.n p.u hTa
      have HB := Lib.hid hbad
      have HN := Lib.hid hnext
      clear hgd hbad hnext hc hp
      subst hAe
      cases hab : above l p.n p.u
      · rw [hab] at C
        have HN := Lib.hid (HN.out hab)
        clear hab
        go_wp2_with (go_at_call 89; (with_reducible refine C.mono ?_); rintro e w1 ⟨rfl, hb1⟩)
        go_roundw
        case rel => exact ⟨k + 1, by omega, by go_num, HN.out, below_then (below_alloc hnx _) hb1⟩
        case measure => simp [intOf]; omega
      · rw [hab] at C
        have HR := Lib.hid (HB.out hab)
        clear hab
        go_wp2_with (go_at_call 89; (with_reducible refine C.mono ?_); rintro e w1 ⟨rfl, hb1⟩)
        go_ret
        exact ⟨by rw [HR.out]; rfl, below_then (below_alloc hnx _) hb1⟩
    · obtain rfl : k = l.length := by omega
      have HR := Lib.hid (free_all hgd)
      clear hgd
      go_wp2
      go_ret
      exact ⟨by rw [HR.out]; rfl, hnx⟩

theorem right_any (A : Option Addr) (cap : Nat) (l : List Pl) (w : World) (hl : l.length ≤ 1000) (hsz : ∀ p ∈ l, p.s.size ≤ 9223372036854775807) (hT : Tr w A l) :
    Calls Try.prog 46 #[.slice A l.length cap] w fun e w' => e = .returned (.bool (treeB l)) ∧ Below w.heap.size w w' := by
  have C1 := rising_any A cap l w hl hsz hT
  rw [treeB_two]
  cases hr : riseB l
  · rw [hr] at C1
    have HC := Lib.hid C1
    clear C1
    go_enter Try.func46, Try.ntmps46
    go_wp2_with (go_at_call 75; (with_reducible refine HC.out.mono ?_); rintro e w1 ⟨rfl, hb1⟩)
    go_ret
    exact ⟨rfl, hb1⟩
  · rw [hr] at C1
    have C2 := fun w (hT : Tr w A l) => noLoop_any A cap l w hl (goodTo_back hr).2 hT
    generalize ringless l = x at *
    have HC := Lib.hid C1
    have HD := Lib.hid C2
    clear C1 C2
    go_enter Try.func46, Try.ntmps46
    go_wp2_with (first | (go_at_call 75; (with_reducible refine HC.out.mono ?_); rintro e w1 ⟨rfl, hb1⟩; have hT1 := hT.below hb1) | (go_at_call 76; (with_reducible refine (HD.out _ hT1).mono ?_); rintro e w2 ⟨rfl, hb2⟩))
    go_ret
    exact ⟨by simp, below_then hb1 hb2⟩
end Go.Proofs.Ytoidondngoljaaa

/- What may be a tree: of the document. -/
namespace Go.Proofs.Ytoidondngoljaaa
open Go.RowKit Tre Nam Cod

set_option maxRecDepth 100000 in
set_option maxHeartbeats 4000000 in
theorem refRight_any (A : Option Addr) (cap : Nat) (l : List Pl) (w : World) (hl : l.length ≤ 1000) (hsz : ∀ p ∈ l, p.s.size ≤ 9223372036854775807) (hT : Tr w A l) :
    Calls Try.prog 61 #[.slice A l.length cap] w fun e w' => e = .returned (.bool (treeB l)) ∧ Below w.heap.size w w' := by
  have HZ := Lib.hid hsz
  have HT2 := Lib.hid (treeB_two l)
  clear hsz
  go_enter Try.func61, Try.ntmps61
  go_wp2
  go_loopw [3] (fun x wr => ∃ k : Nat, k ≤ l.length ∧ x = .int .i64 k ∧ GoodTo l k ∧ Below w.heap.size w wr) (fun x _ => l.length - (intOf x).toNat)
  case atStart => exact ⟨0, Nat.zero_le _, rfl, fun k h hk => by omega, Below.refl _ _⟩
  case round =>
    obtain ⟨k, hk, rfl, hgd, hnx⟩ := hrel
    by_cases hlt : k < l.length
    · obtain ⟨bb, off, hAe, hbw, hc⟩ := hT (by omega)
      have hbr := Nat.lt_of_lt_of_le hbw hnx.size
      have hat := (hc k hlt).below hnx hbw
      obtain ⟨p, hp⟩ : ∃ p, l[k] = p := ⟨_, rfl⟩
      have c := fun w => (nmRefRight_any p.s w (HZ.out p (hp ▸ List.getElem_mem hlt))).mono (fun e w' (h : _ ∧ w = w') => (⟨h.1, h.2 ▸ Below.refl _ _⟩ : e = .returned (.bool (isName (L p.s))) ∧ Below w.heap.size w w'))
      have hbad := goodTo_bad hlt
      have hnext := goodTo_next hgd hlt
      rw [hp] at hat hbad hnext
      have hprev : ∀ h0 : 0 < k, AtPl wr bb (off + (k - 1) * 3) (l[k - 1]'(by omega)) := fun h0 => (hc (k - 1) (by omega)).below hnx hbw
      obtain ⟨q0, q1, q2⟩ := hat
      have HG := Lib.hid hgd
      have HB := Lib.hid hbad
      have HN := Lib.hid hnext
      clear hgd hbad hnext hc
      subst hAe
      have hf : okPl p = false → riseB l = false := fun h => HB.out (fun h2 => by rw [h] at h2; exact absurd h2.1 (by simp))
      have HF := Lib.hid hf
      clear hf
      refine okPl_five (n := p.n) (u := p.u) ?_ ?_ ?_ ?_ ?_
      · intro h1
        have HR := Lib.hid (HF.out (okPl_false (by omega)))
        have e0 : decide (p.n < 2) = true := decide_eq_true (by omega)
        clear hprev hp c HF
        go_wp2
        have hO := PlIn.new wr p
        have hB0 := below_alloc hnx (.cells #[.int .i64 p.n, .int .i64 p.u, .string p.s] 58)
        generalize wr.alloc (.cells #[.int .i64 p.n, .int .i64 p.u, .string p.s] 58) = W at *
        obtain ⟨g0, g1, g2⟩ := hO.cells
        have k0 := cell_regrown g0
        have k1 := cell_regrown g1
        have k2 := cell_regrown g2
        clear g0 g1 g2 hO q0 q1 q2
        refine wp_region_quiet_below (by kernel_rfl) (by kernel_rfl) ?_
        repeat (go_big_quiet_step ((with_reducible (exact d1 _ _))))
        refine wpQuiet_nil ?_
        intro _ hw'
        obtain ⟨⟨dq, osq⟩, hw''⟩ := hw'
        subst hw''
        go_wp2
        go_ret
        exact ⟨by rw [HT2.out, HR.out]; rfl, below_then hB0 (below_regrown W dq osq)⟩
      · intro h1 h2
        have HR := Lib.hid (HF.out (okPl_false (by omega)))
        have e0 : decide (p.n < 2) = false := decide_eq_false (by omega)
        have e1 : decide (64 ≤ p.n) = true := decide_eq_true (by omega)
        clear hprev hp c HF
        go_wp2
        have hO := PlIn.new wr p
        have hB0 := below_alloc hnx (.cells #[.int .i64 p.n, .int .i64 p.u, .string p.s] 58)
        generalize wr.alloc (.cells #[.int .i64 p.n, .int .i64 p.u, .string p.s] 58) = W at *
        obtain ⟨g0, g1, g2⟩ := hO.cells
        have k0 := cell_regrown g0
        have k1 := cell_regrown g1
        have k2 := cell_regrown g2
        clear g0 g1 g2 hO q0 q1 q2
        refine wp_region_quiet_below (by kernel_rfl) (by kernel_rfl) ?_
        repeat (go_big_quiet_step ((with_reducible (exact d1 _ _))))
        refine wpQuiet_nil ?_
        intro _ hw'
        obtain ⟨⟨dq, osq⟩, hw''⟩ := hw'
        subst hw''
        go_wp2
        go_ret
        exact ⟨by rw [HT2.out, HR.out]; rfl, below_then hB0 (below_regrown W dq osq)⟩
      · intro h1 h2 h3
        have HR := Lib.hid (HF.out (okPl_false (by omega)))
        have e0 : decide (p.n < 2) = false := decide_eq_false (by omega)
        have e1 : decide (64 ≤ p.n) = false := decide_eq_false (by omega)
        have e2 : decide (p.u < 0) = true := decide_eq_true (by omega)
        clear hprev hp c HF
        go_wp2
        have hO := PlIn.new wr p
        have hB0 := below_alloc hnx (.cells #[.int .i64 p.n, .int .i64 p.u, .string p.s] 58)
        generalize wr.alloc (.cells #[.int .i64 p.n, .int .i64 p.u, .string p.s] 58) = W at *
        obtain ⟨g0, g1, g2⟩ := hO.cells
        have k0 := cell_regrown g0
        have k1 := cell_regrown g1
        have k2 := cell_regrown g2
        clear g0 g1 g2 hO q0 q1 q2
        refine wp_region_quiet_below (by kernel_rfl) (by kernel_rfl) ?_
        repeat (go_big_quiet_step ((with_reducible (exact d1 _ _))))
        refine wpQuiet_nil ?_
        intro _ hw'
        obtain ⟨⟨dq, osq⟩, hw''⟩ := hw'
        subst hw''
        go_wp2
        go_ret
        exact ⟨by rw [HT2.out, HR.out]; rfl, below_then hB0 (below_regrown W dq osq)⟩
      · intro h1 h2 h3 h4
        have HR := Lib.hid (HF.out (okPl_false (by omega)))
        have e0 : decide (p.n < 2) = false := decide_eq_false (by omega)
        have e1 : decide (64 ≤ p.n) = false := decide_eq_false (by omega)
        have e2 : decide (p.u < 0) = false := decide_eq_false (by omega)
        have e3 : decide (64 ≤ p.u) = true := decide_eq_true (by omega)
        clear hprev hp c HF
        go_wp2
        have hO := PlIn.new wr p
        have hB0 := below_alloc hnx (.cells #[.int .i64 p.n, .int .i64 p.u, .string p.s] 58)
        generalize wr.alloc (.cells #[.int .i64 p.n, .int .i64 p.u, .string p.s] 58) = W at *
        obtain ⟨g0, g1, g2⟩ := hO.cells
        have k0 := cell_regrown g0
        have k1 := cell_regrown g1
        have k2 := cell_regrown g2
        clear g0 g1 g2 hO q0 q1 q2
        refine wp_region_quiet_below (by kernel_rfl) (by kernel_rfl) ?_
        repeat (go_big_quiet_step ((with_reducible (exact d1 _ _))))
        refine wpQuiet_nil ?_
        intro _ hw'
        obtain ⟨⟨dq, osq⟩, hw''⟩ := hw'
        subst hw''
        go_wp2
        go_ret
        exact ⟨by rw [HT2.out, HR.out]; rfl, below_then hB0 (below_regrown W dq osq)⟩
      · intro h1 h2 h3 h4
        have e0 : decide (p.n < 2) = false := decide_eq_false (by omega)
        have e1 : decide (64 ≤ p.n) = false := decide_eq_false (by omega)
        have e2 : decide (p.u < 0) = false := decide_eq_false (by omega)
        have e3 : decide (64 ≤ p.u) = false := decide_eq_false (by omega)
        have hon := okPl_name (p := p) ⟨h1, h2, h3, h4⟩
        rw [← hon] at c
        clear hon
        cases hok : okPl p
        · rw [hok] at c
          have C := Lib.hid c
          have HR := Lib.hid (HF.out hok)
          clear c hok hprev hp HF
          go_wp2
          have hO := PlIn.new wr p
          have hB0 := below_alloc hnx (.cells #[.int .i64 p.n, .int .i64 p.u, .string p.s] 58)
          generalize wr.alloc (.cells #[.int .i64 p.n, .int .i64 p.u, .string p.s] 58) = W at *
          obtain ⟨g0, g1, g2⟩ := hO.cells
          have k0 := cell_regrown g0
          have k1 := cell_regrown g1
          have k2 := cell_regrown g2
          have d1 : ∀ d os, Calls Try.prog 67 #[.string p.s] (Sort.grow (redrawn W d) os) fun e w'' => e = .returned (.bool false) ∧ ∃ p : Regrown, w'' = Sort.grow (redrawn W p.d) p.os := fun d os => Calls.regrown_of (C.out _)
          clear g0 g1 g2 hO q0 q1 q2
          refine wp_region_quiet_below (by kernel_rfl) (by kernel_rfl) ?_
          repeat (go_big_quiet_step ((with_reducible (exact d1 _ _))))
          refine wpQuiet_nil ?_
          intro _ hw'
          obtain ⟨⟨dq, osq⟩, hw''⟩ := hw'
          subst hw''
          go_wp2
          go_ret
          exact ⟨by rw [HT2.out, HR.out]; rfl, below_then hB0 (below_regrown W dq osq)⟩
        · rw [hok] at c
          have C := Lib.hid c
          have hok := Lib.hid hok
          clear c
          by_cases h0 : 0 < k
          · obtain ⟨t0, t1, t2⟩ := hprev h0
            obtain ⟨q, hq⟩ : ∃ q, l[k - 1]'(by omega) = q := ⟨_, rfl⟩
            rw [hq] at t0 t1 t2
            have hix : ((k : Int) - 1).toNat = k - 1 := by omega
            by_cases hc2 : q.n < p.n
            · have HQ : ∀ h0 : 0 < k, (l[k - 1]'(by omega)).n < p.n := fun _ => by rw [hq]; exact hc2
              have HQ := Lib.hid HQ
              clear hq hp hprev
              go_wp2
              have hO := PlIn.new wr p
              have hB0 := below_alloc hnx (.cells #[.int .i64 p.n, .int .i64 p.u, .string p.s] 58)
              have hw0 := below_alloc (Below.refl _ wr) (.cells #[.int .i64 p.n, .int .i64 p.u, .string p.s] 58)
              rw [← (bcell hw0).1 _ _ hbr] at t0
              clear hw0
              generalize wr.alloc (.cells #[.int .i64 p.n, .int .i64 p.u, .string p.s] 58) = W at *
              obtain ⟨g0, g1, g2⟩ := hO.cells
              have k0 := cell_regrown g0
              have k1 := cell_regrown g1
              have k2 := cell_regrown g2
              have kt0 := cell_regrown t0
              clear t0 t1 t2
              have d1 : ∀ d os, Calls Try.prog 67 #[.string p.s] (Sort.grow (redrawn W d) os) fun e w'' => e = .returned (.bool true) ∧ ∃ p : Regrown, w'' = Sort.grow (redrawn W p.d) p.os := fun d os => Calls.regrown_of (C.out _)
              clear g0 g1 g2 hO q0 q1 q2
              refine wp_region_quiet_below (by kernel_rfl) (by kernel_rfl) ?_
              repeat (go_big_quiet_step ((with_reducible (exact d1 _ _))))
              refine wpQuiet_nil ?_
              intro _ hw'
              obtain ⟨⟨dq, osq⟩, hw''⟩ := hw'
              subst hw''
              go_wp2
              go_roundw
              case rel => exact ⟨k + 1, by omega, by go_num, HN.out hok.out fun h0 => HQ.out h0, below_then hB0 (below_regrown W dq osq)⟩
              case measure => simp [intOf]; omega
            · have HR := Lib.hid (HB.out (fun h => by have := h.2 h0; rw [hq] at this; exact hc2 this))
              clear hq hp hprev
              go_wp2
              have hO := PlIn.new wr p
              have hB0 := below_alloc hnx (.cells #[.int .i64 p.n, .int .i64 p.u, .string p.s] 58)
              have hw0 := below_alloc (Below.refl _ wr) (.cells #[.int .i64 p.n, .int .i64 p.u, .string p.s] 58)
              rw [← (bcell hw0).1 _ _ hbr] at t0
              clear hw0
              generalize wr.alloc (.cells #[.int .i64 p.n, .int .i64 p.u, .string p.s] 58) = W at *
              obtain ⟨g0, g1, g2⟩ := hO.cells
              have k0 := cell_regrown g0
              have k1 := cell_regrown g1
              have k2 := cell_regrown g2
              have kt0 := cell_regrown t0
              clear t0 t1 t2
              have d1 : ∀ d os, Calls Try.prog 67 #[.string p.s] (Sort.grow (redrawn W d) os) fun e w'' => e = .returned (.bool true) ∧ ∃ p : Regrown, w'' = Sort.grow (redrawn W p.d) p.os := fun d os => Calls.regrown_of (C.out _)
              clear g0 g1 g2 hO q0 q1 q2
              refine wp_region_quiet_below (by kernel_rfl) (by kernel_rfl) ?_
              repeat (go_big_quiet_step ((with_reducible (exact d1 _ _))))
              refine wpQuiet_nil ?_
              intro _ hw'
              obtain ⟨⟨dq, osq⟩, hw''⟩ := hw'
              subst hw''
              go_wp2
              go_ret
              exact ⟨by rw [HT2.out, HR.out]; rfl, below_then hB0 (below_regrown W dq osq)⟩
          · have hd : decide ((0 : Int) < (k : Int)) = false := decide_eq_false (by omega)
            have HK := Lib.hid h0
            clear hprev hp
            go_wp2
            have hO := PlIn.new wr p
            have hB0 := below_alloc hnx (.cells #[.int .i64 p.n, .int .i64 p.u, .string p.s] 58)
            generalize wr.alloc (.cells #[.int .i64 p.n, .int .i64 p.u, .string p.s] 58) = W at *
            obtain ⟨g0, g1, g2⟩ := hO.cells
            have k0 := cell_regrown g0
            have k1 := cell_regrown g1
            have k2 := cell_regrown g2
            have d1 : ∀ d os, Calls Try.prog 67 #[.string p.s] (Sort.grow (redrawn W d) os) fun e w'' => e = .returned (.bool true) ∧ ∃ p : Regrown, w'' = Sort.grow (redrawn W p.d) p.os := fun d os => Calls.regrown_of (C.out _)
            clear g0 g1 g2 hO q0 q1 q2
            refine wp_region_quiet_below (by kernel_rfl) (by kernel_rfl) ?_
            repeat (go_big_quiet_step ((with_reducible (exact d1 _ _))))
            refine wpQuiet_nil ?_
            intro _ hw'
            obtain ⟨⟨dq, osq⟩, hw''⟩ := hw'
            subst hw''
            go_wp2
            go_roundw
            case rel => exact ⟨k + 1, by omega, by go_num, HN.out hok.out fun h0 => absurd h0 HK.out, below_then hB0 (below_regrown W dq osq)⟩
            case measure => simp [intOf]; omega
    · obtain rfl : k = l.length := by omega
      have hr := goodTo_all hgd
      have HR := Lib.hid hr
      have hB1 := hnx
      have C := fun w a b (hT : Tr w A l) => refAbove_any A cap l a b w hl hT
      have C := Lib.hid C
      clear hgd hr
      go_wp2
      go_loopw [5] (fun x wr => ∃ k : Nat, k ≤ l.length ∧ x = .int .i64 k ∧ FreeTo l k ∧ Below w.heap.size w wr) (fun x _ => l.length - (intOf x).toNat)
      case atStart => exact ⟨0, Nat.zero_le _, rfl, fun k h hk => by omega, hB1⟩
      case round =>
        obtain ⟨j, hj, rfl, hgd, hnx⟩ := hrel
        by_cases hlt : j < l.length
        · obtain ⟨bb, off, hAe, hbw, hc⟩ := hT (by omega)
          have hbr := Nat.lt_of_lt_of_le hbw hnx.size
          have hat := (hc j hlt).below hnx hbw
          have hTr := hT.below hnx
          have hbad := free_bad hlt
          have hnext := free_next hgd hlt
          obtain ⟨p, hp⟩ : ∃ p, l[j] = p := ⟨_, rfl⟩
          rw [hp] at hat hbad hnext
          obtain ⟨q0, q1, q2⟩ := hat
          have C := fun w hT => C.out w p.n p.u hT
          have HB := Lib.hid hbad
          have HN := Lib.hid hnext
          clear hgd hbad hnext hc hp
          subst hAe
          have k0 := cell_regrown q0
          have k1 := cell_regrown q1
          clear q0 q1 q2
          cases hab : above l p.n p.u
          · rw [hab] at C
            have HN := Lib.hid (HN.out hab)
            have d1 : ∀ d os, Calls Try.prog 82 #[.slice (some ⟨bb, off, none⟩) l.length cap, .int .i64 p.n, .int .i64 p.u] (Sort.grow (redrawn wr d) os) fun e w'' => e = .returned (.bool false) ∧ ∃ p : Regrown, w'' = Sort.grow (redrawn wr p.d) p.os := fun d os => Calls.regrown_of (C _ (hTr.below (below_regrown wr d os)))
            clear hab C
            go_wp2
            refine wp_region_quiet_below (by kernel_rfl) (by kernel_rfl) ?_
            repeat (go_big_quiet_step ((with_reducible (exact d1 _ _))))
            refine wpQuiet_nil ?_
            intro _ hw'
            obtain ⟨⟨dq, osq⟩, hw''⟩ := hw'
            subst hw''
            go_wp2
            go_roundw
            case rel => exact ⟨j + 1, by omega, by go_num, HN.out, below_then hnx (below_regrown wr dq osq)⟩
            case measure => simp [intOf]; omega
          · rw [hab] at C
            have HF := Lib.hid (HB.out hab)
            have d1 : ∀ d os, Calls Try.prog 82 #[.slice (some ⟨bb, off, none⟩) l.length cap, .int .i64 p.n, .int .i64 p.u] (Sort.grow (redrawn wr d) os) fun e w'' => e = .returned (.bool true) ∧ ∃ p : Regrown, w'' = Sort.grow (redrawn wr p.d) p.os := fun d os => Calls.regrown_of (C _ (hTr.below (below_regrown wr d os)))
            clear hab C
            go_wp2
            refine wp_region_quiet_below (by kernel_rfl) (by kernel_rfl) ?_
            repeat (go_big_quiet_step ((with_reducible (exact d1 _ _))))
            refine wpQuiet_nil ?_
            intro _ hw'
            obtain ⟨⟨dq, osq⟩, hw''⟩ := hw'
            subst hw''
            go_wp2
            go_ret
            exact ⟨by rw [HT2.out, HR.out, HF.out]; rfl, below_then hnx (below_regrown wr dq osq)⟩
        · obtain rfl : j = l.length := by omega
          have HF := Lib.hid (free_all hgd)
          clear hgd
          go_wp2
          go_ret
          exact ⟨by rw [HT2.out, HR.out, HF.out]; rfl, hnx⟩
end Go.Proofs.Ytoidondngoljaaa

/- Whether a past is one: Right of the program. -/
namespace Go.Proofs.Ytoidondngoljaaa
open Go.RowKit Tre Cod Pst Nam

def PastR (q : Pv) : Prop := treeB q.base = true ∧ 0 ≤ q.t ∧ q.t ≤ 1099511627776 ∧ OpsR q.ops q.t ∧ q.now = (foldL q.base (mvs q.ops)).1 ∧ q.us = (foldL q.base (mvs q.ops)).2
theorem PInv.right {q : Pv} (h : PInv q) : PastR q :=
  ⟨h.tree, h.t0, h.t1, fun i hi _ => ⟨h.ok _ (List.getElem_mem hi), h.gt _ (List.getElem_mem hi), fun h0 => ris_get h.ris (by omega) hi (by omega)⟩, h.nw, h.un⟩

set_option maxRecDepth 100000 in
set_option maxHeartbeats 4000000 in
theorem pRight_any (x : Pw) (w : World) (hx : PastOk w x) (hl1 : x.base.length ≤ 200) (hl2 : x.ops.length ≤ 200) (hl3 : x.us.length ≤ 200) (hl4 : x.now.length ≤ 200) (hsb : ∀ p ∈ x.base, p.s.size ≤ 9223372036854775807) (hso : ∀ m ∈ x.ops, m.s.size ≤ 9223372036854775807) (bv : Bool) (hbv : bv = true ↔ PastR x.v) :
    Calls Try.prog 17 #[.agg #[.slice x.bA x.base.length x.bc, .int .i64 x.t, .slice x.oA x.ops.length x.oc, .slice x.uA x.us.length x.uc, .slice x.wA x.now.length x.wc]] w fun e w' => e = .returned (.bool bv) ∧ Below w.heap.size w w' := by
  obtain ⟨bA, bc, base, t, oA, oc, ops, uA, uc, us, wA, wc, now⟩ := x
  simp only at hl1 hl2 hl3 hl4 hsb hso
  have HV := Lib.hid hbv
  clear hbv
  cases ht : treeB base
  · have HF := Lib.hid (false_of_not HV.out fun h => by have := h.1; simp only [Pw.v] at this; rw [ht] at this; cases this)
    have hP : pwE.In (w.alloc (.cells #[.slice bA base.length bc, .int .i64 t, .slice oA ops.length oc, .slice uA us.length uc, .slice wA now.length wc] 29)) w.heap.size (⟨bA, bc, base, t, oA, oc, ops, uA, uc, us, wA, wc, now⟩ : Pw) := El.In.new (E := pwE) w (⟨bA, bc, base, t, oA, oc, ops, uA, uc, us, wA, wc, now⟩ : Pw) _ rfl
    have hB := below_alloc (Below.refl w.heap.size w) (.cells #[.slice bA base.length bc, .int .i64 t, .slice oA ops.length oc, .slice uA us.length uc, .slice wA now.length wc] 29)
    have HL := Lib.hid hx
    have hx0 := hx.below hB
    have CT := right_any bA bc base (w.alloc (.cells #[.slice bA base.length bc, .int .i64 t, .slice oA ops.length oc, .slice uA us.length uc, .slice wA now.length wc] 29)) (by omega) hsb (plSl.1 hx0.b.1)
    clear hx
    go_enter Try.func17, Try.ntmps17
    go_wp2_with fail
    rw [ht] at CT
    generalize w.alloc (.cells #[.slice bA base.length bc, .int .i64 t, .slice oA ops.length oc, .slice uA us.length uc, .slice wA now.length wc] 29) = W at *
    obtain ⟨n0, h0⟩ : ∃ n, w.heap.size = n := ⟨_, rfl⟩
    rw [h0] at hP ⊢
    clear h0
    refine CT.mono ?_
    rintro e W1 ⟨rfl, hb1⟩
    replace hP := hP.below hb1
    replace hB := hB.trans (hb1.mono (by have := hB.size; omega))
    clear CT hb1 hx0
    go_wp2_with fail
    go_ret
    exact ⟨by rw [HF.out]; rfl, hB⟩
  · by_cases h1 : 0 ≤ t ∧ t ≤ 1099511627776
    · obtain ⟨h1, h2⟩ := h1
      obtain ⟨ob, hob⟩ := bool_for (OpsR ops t)
      have HOB := Lib.hid hob
      have CO := fun wx (h : opE.Sl wx oA ops) => rightOps_any oA oc ops t wx (by omega) hso h ob hob
      have HCO := Lib.hid CO
      clear CO hob
      cases ob
      · have HF := Lib.hid (false_of_not HV.out fun h => by have := HOB.out.2 h.2.2.2.1; cases this)
        have hP : pwE.In (w.alloc (.cells #[.slice bA base.length bc, .int .i64 t, .slice oA ops.length oc, .slice uA us.length uc, .slice wA now.length wc] 29)) w.heap.size (⟨bA, bc, base, t, oA, oc, ops, uA, uc, us, wA, wc, now⟩ : Pw) := El.In.new (E := pwE) w (⟨bA, bc, base, t, oA, oc, ops, uA, uc, us, wA, wc, now⟩ : Pw) _ rfl
        have hB := below_alloc (Below.refl w.heap.size w) (.cells #[.slice bA base.length bc, .int .i64 t, .slice oA ops.length oc, .slice uA us.length uc, .slice wA now.length wc] 29)
        have HL := Lib.hid hx
        have hx0 := hx.below hB
        have CT := right_any bA bc base (w.alloc (.cells #[.slice bA base.length bc, .int .i64 t, .slice oA ops.length oc, .slice uA us.length uc, .slice wA now.length wc] 29)) (by omega) hsb (plSl.1 hx0.b.1)
        clear hx
        go_enter Try.func17, Try.ntmps17
        go_wp2_with fail
        rw [ht] at CT
        generalize w.alloc (.cells #[.slice bA base.length bc, .int .i64 t, .slice oA ops.length oc, .slice uA us.length uc, .slice wA now.length wc] 29) = W at *
        obtain ⟨n0, h0⟩ : ∃ n, w.heap.size = n := ⟨_, rfl⟩
        rw [h0] at hP ⊢
        clear h0
        refine CT.mono ?_
        rintro e W1 ⟨rfl, hb1⟩
        replace hP := hP.below hb1
        replace hB := hB.trans (hb1.mono (by have := hB.size; omega))
        clear CT hb1 hx0
        obtain ⟨p0, p1, p2, p3, p4⟩ := pwIn5 hP
        have hxo := (HL.out.below hB).o.1
        simp only at hxo
        go_wp2_with (go_at_call 47; (with_reducible refine (HCO.out _ hxo).mono ?_); rintro e W2 ⟨rfl, hb2⟩)
        go_ret
        exact ⟨by rw [HF.out]; rfl, hB.trans (hb2.mono (by have := hB.size; omega))⟩
      · have hbs := (treeB_facts ht).2.1
        obtain ⟨eb, heb⟩ := bool_for (now = (foldL base (mvs ops)).1)
        obtain ⟨ub, hub⟩ := bool_for (us = (foldL base (mvs ops)).2)
        have HEB := Lib.hid heb
        have HUB := Lib.hid hub
        have HBV := Lib.hid (show bv = (eb && ub) by
          rw [Bool.eq_iff_iff, HV.out, Bool.and_eq_true, heb, hub]
          exact ⟨fun h => ⟨h.2.2.2.2.1, h.2.2.2.2.2⟩, fun h => ⟨ht, h1, h2, HOB.out.1 rfl, h.1, h.2⟩⟩)
        have hfl1 := foldL_len1 base (mvs ops)
        have hfl2 := foldL_len base (mvs ops)
        rw [mvs_len] at hfl1 hfl2
        have CF := fun wx (h : PastOk wx (⟨bA, bc, base, t, oA, oc, ops, uA, uc, us, wA, wc, now⟩ : Pw)) => mvFold_any bA bc base oA oc ops wx (by omega) hbs h.b h.o.1
        have CE := fun wx (A c) (h : PastOk wx (⟨bA, bc, base, t, oA, oc, ops, uA, uc, us, wA, wc, now⟩ : Pw)) h2 => equalPl_any wA A wc c now (foldL base (mvs ops)).1 wx (by omega) (by omega) h.w.1 h2 eb heb
        have CU := fun wx (A c) (h : PastOk wx (⟨bA, bc, base, t, oA, oc, ops, uA, uc, us, wA, wc, now⟩ : Pw)) h2 => equalUn_any uA A uc c us (foldL base (mvs ops)).2 wx (by omega) (by omega) h.u.1 h2 ub hub
        generalize (foldL base (mvs ops)).1 = now2 at *
        generalize (foldL base (mvs ops)).2 = us2 at *
        have HCF := Lib.hid CF
        have HCE := Lib.hid CE
        have HCU := Lib.hid CU
        clear CF CE CU hfl1 hfl2 heb hub hbs
        have hP : pwE.In (w.alloc (.cells #[.slice bA base.length bc, .int .i64 t, .slice oA ops.length oc, .slice uA us.length uc, .slice wA now.length wc] 29)) w.heap.size (⟨bA, bc, base, t, oA, oc, ops, uA, uc, us, wA, wc, now⟩ : Pw) := El.In.new (E := pwE) w (⟨bA, bc, base, t, oA, oc, ops, uA, uc, us, wA, wc, now⟩ : Pw) _ rfl
        have hB := below_alloc (Below.refl w.heap.size w) (.cells #[.slice bA base.length bc, .int .i64 t, .slice oA ops.length oc, .slice uA us.length uc, .slice wA now.length wc] 29)
        have HL := Lib.hid hx
        have hx0 := hx.below hB
        have CT := right_any bA bc base (w.alloc (.cells #[.slice bA base.length bc, .int .i64 t, .slice oA ops.length oc, .slice uA us.length uc, .slice wA now.length wc] 29)) (by omega) hsb (plSl.1 hx0.b.1)
        clear hx
        go_enter Try.func17, Try.ntmps17
        go_wp2_with fail
        rw [ht] at CT
        generalize w.alloc (.cells #[.slice bA base.length bc, .int .i64 t, .slice oA ops.length oc, .slice uA us.length uc, .slice wA now.length wc] 29) = W at *
        obtain ⟨n0, h0⟩ : ∃ n, w.heap.size = n := ⟨_, rfl⟩
        rw [h0] at hP ⊢
        clear h0
        refine CT.mono ?_
        rintro e W1 ⟨rfl, hb1⟩
        replace hP := hP.below hb1
        replace hB := hB.trans (hb1.mono (by have := hB.size; omega))
        clear CT hb1 hx0
        obtain ⟨p0, p1, p2, p3, p4⟩ := pwIn5 hP
        have hxo := (HL.out.below hB).o.1
        simp only at hxo
        go_wp2_with fail
        clear p0 p1 p2 p3 p4
        refine (HCO.out _ hxo).mono ?_
        rintro e W2 ⟨rfl, hb2⟩
        replace hP := hP.below hb2
        replace hB := hB.trans (hb2.mono (by have := hB.size; omega))
        clear hb2 hxo
        obtain ⟨p0, p1, p2, p3, p4⟩ := pwIn5 hP
        go_wp2_with fail
        clear p0 p1 p2 p3 p4
        refine (HCF.out _ (HL.out.below hB)).mono ?_
        rintro e W3 ⟨A3, c3, U3, uc3, rfl, hS3, hU3, hf3, hfu3, hb3⟩
        replace hP := hP.below hb3
        replace hB := hB.trans (hb3.mono (by have := hB.size; omega))
        clear hb3 hf3 hfu3
        obtain ⟨p0, p1, p2, p3, p4⟩ := pwIn5 hP
        go_wp2_with fail
        clear p0 p1 p2 p3 p4
        refine (HCE.out _ _ _ (HL.out.below hB) hS3.1).mono ?_
        rintro e W4 ⟨rfl, hb4⟩
        replace hP := hP.below hb4
        replace hB := hB.trans (hb4.mono (by have := hB.size; omega))
        replace hU3 := hU3.below hb4
        clear hb4 hS3
        obtain ⟨p0, p1, p2, p3, p4⟩ := pwIn5 hP
        have hx4 := HL.out.below hB
        cases eb
        · go_wp2_with fail
          go_ret
          exact ⟨by rw [HBV.out]; rfl, hB⟩
        · go_wp2_with fail
          refine (HCU.out _ _ _ hx4 hU3.1).mono ?_
          rintro e W5 ⟨rfl, hb5⟩
          go_wp2_with fail
          go_ret
          exact ⟨by rw [HBV.out]; cases ub <;> rfl, hB.trans (hb5.mono (by have := hB.size; omega))⟩
    · have HF := Lib.hid (false_of_not HV.out fun h => h1 ⟨h.2.1, h.2.2.1⟩)
      rcases (show t < 0 ∨ (¬ t < 0 ∧ 1099511627776 < t) by omega) with h2 | ⟨h2, h3⟩
      · clear h1
        have hP : pwE.In (w.alloc (.cells #[.slice bA base.length bc, .int .i64 t, .slice oA ops.length oc, .slice uA us.length uc, .slice wA now.length wc] 29)) w.heap.size (⟨bA, bc, base, t, oA, oc, ops, uA, uc, us, wA, wc, now⟩ : Pw) := El.In.new (E := pwE) w (⟨bA, bc, base, t, oA, oc, ops, uA, uc, us, wA, wc, now⟩ : Pw) _ rfl
        have hB := below_alloc (Below.refl w.heap.size w) (.cells #[.slice bA base.length bc, .int .i64 t, .slice oA ops.length oc, .slice uA us.length uc, .slice wA now.length wc] 29)
        have HL := Lib.hid hx
        have hx0 := hx.below hB
        have CT := right_any bA bc base (w.alloc (.cells #[.slice bA base.length bc, .int .i64 t, .slice oA ops.length oc, .slice uA us.length uc, .slice wA now.length wc] 29)) (by omega) hsb (plSl.1 hx0.b.1)
        clear hx
        go_enter Try.func17, Try.ntmps17
        go_wp2_with fail
        rw [ht] at CT
        generalize w.alloc (.cells #[.slice bA base.length bc, .int .i64 t, .slice oA ops.length oc, .slice uA us.length uc, .slice wA now.length wc] 29) = W at *
        obtain ⟨n0, h0⟩ : ∃ n, w.heap.size = n := ⟨_, rfl⟩
        rw [h0] at hP ⊢
        clear h0
        refine CT.mono ?_
        rintro e W1 ⟨rfl, hb1⟩
        replace hP := hP.below hb1
        replace hB := hB.trans (hb1.mono (by have := hB.size; omega))
        clear CT hb1 hx0
        obtain ⟨p0, p1, p2, p3, p4⟩ := pwIn5 hP
        go_wp2_with fail
        go_ret
        exact ⟨by rw [HF.out]; rfl, hB⟩
      · clear h1
        have hP : pwE.In (w.alloc (.cells #[.slice bA base.length bc, .int .i64 t, .slice oA ops.length oc, .slice uA us.length uc, .slice wA now.length wc] 29)) w.heap.size (⟨bA, bc, base, t, oA, oc, ops, uA, uc, us, wA, wc, now⟩ : Pw) := El.In.new (E := pwE) w (⟨bA, bc, base, t, oA, oc, ops, uA, uc, us, wA, wc, now⟩ : Pw) _ rfl
        have hB := below_alloc (Below.refl w.heap.size w) (.cells #[.slice bA base.length bc, .int .i64 t, .slice oA ops.length oc, .slice uA us.length uc, .slice wA now.length wc] 29)
        have HL := Lib.hid hx
        have hx0 := hx.below hB
        have CT := right_any bA bc base (w.alloc (.cells #[.slice bA base.length bc, .int .i64 t, .slice oA ops.length oc, .slice uA us.length uc, .slice wA now.length wc] 29)) (by omega) hsb (plSl.1 hx0.b.1)
        clear hx
        go_enter Try.func17, Try.ntmps17
        go_wp2_with fail
        rw [ht] at CT
        generalize w.alloc (.cells #[.slice bA base.length bc, .int .i64 t, .slice oA ops.length oc, .slice uA us.length uc, .slice wA now.length wc] 29) = W at *
        obtain ⟨n0, h0⟩ : ∃ n, w.heap.size = n := ⟨_, rfl⟩
        rw [h0] at hP ⊢
        clear h0
        refine CT.mono ?_
        rintro e W1 ⟨rfl, hb1⟩
        replace hP := hP.below hb1
        replace hB := hB.trans (hb1.mono (by have := hB.size; omega))
        clear CT hb1 hx0
        obtain ⟨p0, p1, p2, p3, p4⟩ := pwIn5 hP
        go_wp2_with fail
        go_ret
        exact ⟨by rw [HF.out]; rfl, hB⟩
end Go.Proofs.Ytoidondngoljaaa

/- The library's Search; where an operation of a moment stands; where the counters above a number begin. -/
namespace Go.Proofs.Ytoidondngoljaaa
open Go.RowKit Tre Cod Pst

set_option maxRecDepth 100000 in
theorem findAt_any (i : Nat) (A : Option Addr) (c : Nat) (l : List Mv) (C D : Int) (b1 b2 : Nat) (w : World) (h1 : w.cell? ⟨b1, 0, none⟩ = some (.slice A l.length c)) (h2 : w.cell? ⟨b2, 0, none⟩ = some (.int .i64 C)) (h3 : w.cell? ⟨b2, 1, none⟩ = some (.int .i64 D))
    (hT : opE.Sl w A l) (hi : i < l.length) (hl : l.length ≤ 1000) :
    Calls Try.prog 68 #[.int .i64 i, .pointer (some ⟨b1, 0, none⟩), .pointer (some ⟨b2, 0, none⟩)] w fun e w' => e = .returned (.bool (!befB l[i].C l[i].D C D)) ∧ Below w.heap.size w w' := by
  obtain ⟨b, off, rfl, hbw, hc⟩ := hT (by omega)
  have hat : opE.At w b (off + i * 7) _ := hc i hi
  obtain ⟨m, hm⟩ : ∃ m, l[i] = m := ⟨_, rfl⟩
  rw [hm] at hat ⊢
  obtain ⟨t0, t1, t2, t3, t4, t5, t6⟩ := opAt hat
  clear hc hat hm t2 t3 t4 t5 t6
  have HC := Lib.hid (fun w => before_any m.C m.D C D w)
  generalize befB m.C m.D C D = r at *
  have k1 := cell_regrown h1
  have k2 := cell_regrown h2
  have k3 := cell_regrown h3
  have k4 := cell_regrown t0
  have k5 := cell_regrown t1
  clear h1 h2 h3 t0 t1
  have d1 : ∀ d os, Calls Try.prog 69 #[.agg #[.int .i64 m.C, .int .i64 m.D], .agg #[.int .i64 C, .int .i64 D]] (Sort.grow (redrawn w d) os) fun e w'' => e = .returned (.bool r) ∧ ∃ p : Regrown, w'' = Sort.grow (redrawn w p.d) p.os := fun d os => Calls.regrown_of (HC.out _)
  go_enter Try.func68, Try.ntmps68
  go_wp2_with fail
  refine wp_region_quiet_below (by kernel_rfl) (by kernel_rfl) ?_
  repeat (go_big_quiet_step ((with_reducible (first | exact d1 _ _))))
  refine wpQuiet_nil ?_
  intro _ hw'
  obtain ⟨⟨dq, osq⟩, hw''⟩ := hw'
  subst hw''
  have hq := below_regrown w dq osq
  generalize Sort.grow (redrawn w dq) osq = W1 at *
  go_wp2_with fail
  go_ret
  exact ⟨by cases r <;> rfl, hq⟩

set_option maxRecDepth 100000 in
theorem upOne_any (i : Nat) (x : Pw) (s : Int) (b1 b2 : Nat) (w : World) (hP : pwE.In w b1 x) (h2 : w.cell? ⟨b2, 0, none⟩ = some (.int .i64 s))
    (hT : opE.Sl w x.oA x.ops) (hi : i < x.ops.length) (hl : x.ops.length ≤ 1000) :
    Calls Try.prog 41 #[.int .i64 i, .pointer (some ⟨b1, 0, none⟩), .pointer (some ⟨b2, 0, none⟩)] w fun e w' => e = .returned (.bool (decide (s < x.ops[i].C))) ∧ Below w.heap.size w w' := by
  obtain ⟨bA, bc, base, t, oA, oc, ops, uA, uc, us, wA, wc, now⟩ := x
  simp only at hT hi hl ⊢
  obtain ⟨b, off, rfl, hbw, hc⟩ := hT (by omega)
  have hat : opE.At w b (off + i * 7) _ := hc i hi
  obtain ⟨m, hm⟩ : ∃ m, ops[i] = m := ⟨_, rfl⟩
  rw [hm] at hat ⊢
  obtain ⟨t0, t1, t2, t3, t4, t5, t6⟩ := opAt hat
  obtain ⟨p0, p1, p2, p3, p4⟩ := pwIn5 hP
  clear hc hat hm t1 t2 t3 t4 t5 t6 p0 p1 p3 p4
  go_enter Try.func41, Try.ntmps41
  go_wp2
  go_region
  all_goals go_wp2
  all_goals go_ret
  all_goals exact ⟨rfl, (Below.refl _ _).drew⟩

theorem find_pos {l : List Mv} (hr : Ris Mv.C Mv.D l) {m : Mv} {i : Nat} (hi : i ≤ l.length) (hlo : ∀ k (h : k < l.length), k < i → befB l[k].C l[k].D m.C m.D = true) (hhi : ∀ k (h : k < l.length), i ≤ k → befB l[k].C l[k].D m.C m.D = false) : i = pos Mv.C Mv.D l m :=
  pos_eq hi (fun k h hk => by have := hlo k h hk; rw [bef_iff] at this; exact of_decide_eq_true this) (fun h => by have := hhi i h (Nat.le_refl _); rw [bef_iff] at this; exact of_decide_eq_false this)

set_option maxRecDepth 100000 in
theorem search1_any (n : Nat) (b1 b2 : Nat) (p : Nat → Bool) (w : World) (hn : n ≤ 1000) (hm : ∀ i j, i ≤ j → j < n → p i = true → p j = true)
    (HF : ∀ (i : Nat) (w' : World), i < n → Below w.heap.size w w' → Calls Try.prog 68 #[.int .i64 i, .pointer (some ⟨b1, 0, none⟩), .pointer (some ⟨b2, 0, none⟩)] w' fun e w'' => e = .returned (.bool (p i)) ∧ Below w'.heap.size w' w'') :
    Calls Try.prog 40 #[.int .i64 n, .func (.func 68) #[] #[.pointer (some ⟨b1, 0, none⟩), .pointer (some ⟨b2, 0, none⟩)]] w fun e w' => ∃ k : Nat, e = .returned (.int .i64 k) ∧ k ≤ n ∧ (∀ i, i < k → p i = false) ∧ (∀ i, k ≤ i → i < n → p i = true) ∧ Below w.heap.size w w' := by
  go_enter Try.func40, Try.ntmps40
  go_wp2
  go_loopw [5, 6] (fun x y wr => ∃ i j : Nat, i ≤ j ∧ j ≤ n ∧ x = .int .i64 i ∧ y = .int .i64 j ∧ (∀ k, k < i → p k = false) ∧ (∀ k, j ≤ k → k < n → p k = true) ∧ Below w.heap.size w wr) (fun x y _ => (intOf y).toNat - (intOf x).toNat)
  case atStart => exact ⟨0, n, Nat.zero_le _, Nat.le_refl _, rfl, rfl, fun k hk => by omega, fun k hk h => by omega, Below.refl _ _⟩
  case round =>
    obtain ⟨i, j, hij, hj, rfl, rfl, hlo, hhi, hnx⟩ := hrel
    by_cases hlt : i < j
    · have hc0 := HF ((i + j) / 2) wr (by omega) hnx
      rw [show (((i + j) / 2 : Nat) : Int) = ((i : Int) + (j : Int)) / 2 by omega] at hc0
      have HC := Lib.hid hc0
      clear hc0
      cases hpk : p ((i + j) / 2)
      · rw [hpk] at HC
        go_wp2_with (go_at_call 68; (with_reducible refine (HC.out).mono ?_); rintro e w1 ⟨rfl, hb1⟩)
        go_roundw
        case rel =>
          refine ⟨(i + j) / 2 + 1, j, by omega, hj, by go_num, rfl, fun k hk => ?_, hhi, below_then hnx hb1⟩
          by_cases hpj : p k = true
          · have := hm k ((i + j) / 2) (by omega) (by omega) hpj
            rw [hpk] at this; cases this
          · simpa using hpj
        case measure => simp [intOf]; omega
      · rw [hpk] at HC
        go_wp2_with (go_at_call 68; (with_reducible refine (HC.out).mono ?_); rintro e w1 ⟨rfl, hb1⟩)
        go_roundw
        case rel =>
          refine ⟨i, (i + j) / 2, by omega, by omega, rfl, by go_num, hlo, fun k hk h => ?_, below_then hnx hb1⟩
          exact hm _ k hk h hpk
        case measure => simp [intOf]; omega
    · obtain rfl : i = j := by omega
      go_wp2
      go_ret
      exact ⟨i, rfl, hj, hlo, hhi, hnx⟩
set_option maxRecDepth 100000 in
theorem search2_any (n : Nat) (b1 b2 : Nat) (p : Nat → Bool) (w : World) (hn : n ≤ 1000) (hm : ∀ i j, i ≤ j → j < n → p i = true → p j = true)
    (HF : ∀ (i : Nat) (w' : World), i < n → Below w.heap.size w w' → Calls Try.prog 41 #[.int .i64 i, .pointer (some ⟨b1, 0, none⟩), .pointer (some ⟨b2, 0, none⟩)] w' fun e w'' => e = .returned (.bool (p i)) ∧ Below w'.heap.size w' w'') :
    Calls Try.prog 40 #[.int .i64 n, .func (.func 41) #[] #[.pointer (some ⟨b1, 0, none⟩), .pointer (some ⟨b2, 0, none⟩)]] w fun e w' => ∃ k : Nat, e = .returned (.int .i64 k) ∧ k ≤ n ∧ (∀ i, i < k → p i = false) ∧ (∀ i, k ≤ i → i < n → p i = true) ∧ Below w.heap.size w w' := by
  go_enter Try.func40, Try.ntmps40
  go_wp2
  go_loopw [5, 6] (fun x y wr => ∃ i j : Nat, i ≤ j ∧ j ≤ n ∧ x = .int .i64 i ∧ y = .int .i64 j ∧ (∀ k, k < i → p k = false) ∧ (∀ k, j ≤ k → k < n → p k = true) ∧ Below w.heap.size w wr) (fun x y _ => (intOf y).toNat - (intOf x).toNat)
  case atStart => exact ⟨0, n, Nat.zero_le _, Nat.le_refl _, rfl, rfl, fun k hk => by omega, fun k hk h => by omega, Below.refl _ _⟩
  case round =>
    obtain ⟨i, j, hij, hj, rfl, rfl, hlo, hhi, hnx⟩ := hrel
    by_cases hlt : i < j
    · have hc0 := HF ((i + j) / 2) wr (by omega) hnx
      rw [show (((i + j) / 2 : Nat) : Int) = ((i : Int) + (j : Int)) / 2 by omega] at hc0
      have HC := Lib.hid hc0
      clear hc0
      cases hpk : p ((i + j) / 2)
      · rw [hpk] at HC
        go_wp2_with (go_at_call 41; (with_reducible refine (HC.out).mono ?_); rintro e w1 ⟨rfl, hb1⟩)
        go_roundw
        case rel =>
          refine ⟨(i + j) / 2 + 1, j, by omega, hj, by go_num, rfl, fun k hk => ?_, hhi, below_then hnx hb1⟩
          by_cases hpj : p k = true
          · have := hm k ((i + j) / 2) (by omega) (by omega) hpj
            rw [hpk] at this; cases this
          · simpa using hpj
        case measure => simp [intOf]; omega
      · rw [hpk] at HC
        go_wp2_with (go_at_call 41; (with_reducible refine (HC.out).mono ?_); rintro e w1 ⟨rfl, hb1⟩)
        go_roundw
        case rel =>
          refine ⟨i, (i + j) / 2, by omega, by omega, rfl, by go_num, hlo, fun k hk h => ?_, below_then hnx hb1⟩
          exact hm _ k hk h hpk
        case measure => simp [intOf]; omega
    · obtain rfl : i = j := by omega
      go_wp2
      go_ret
      exact ⟨i, rfl, hj, hlo, hhi, hnx⟩
end Go.Proofs.Ytoidondngoljaaa

/- Of the library, at operations and undos: Clone, Grow, Concat. -/
namespace Go.Proofs.Ytoidondngoljaaa
open Go.RowKit Tre Cod

def catE {α : Type} (F : Nat → List α) : Nat → List α
  | 0 => []
  | k + 1 => catE F k ++ F k
theorem catE_le {α : Type} (F : Nat → List α) (k : Nat) : ∀ n, k ≤ n → (catE F k).length ≤ (catE F n).length
  | 0, h => by obtain rfl : k = 0 := by omega
               exact Nat.le_refl _
  | n + 1, h => by
    by_cases e : k = n + 1
    · subst e; exact Nat.le_refl _
    · have := catE_le F k n (by omega)
      rw [catE, List.length_append]; omega

set_option maxRecDepth 100000 in
theorem cloneOp_any (A : Option Addr) (c : Nat) (l : List Mv) (w : World) (hl : l.length ≤ 50000) (hT : SlV opE w A c l) :
    Calls Try.prog 42 #[.slice A l.length c] w fun e w' => ∃ A' c', e = .returned (.slice A' l.length c') ∧ SlV opE w' A' c' l ∧ Frs w.heap.size A' ∧ Below w.heap.size w w' := by
  obtain ⟨hT, hz, hlc⟩ := hT
  have q : ∀ (w : World) (a : Option Addr) (n c n' c' : Nat), (binOp .eql 22 (.slice a n c) (.slice none n' c')).run Try.prog w = .ok (.bool a.isNone) w := fun w a n c n' c' => Lib.run_eql_slice_nil w _ _ a n c n' c' Try.underlying22
  cases A with
  | none =>
    obtain rfl := hT.none_nil
    obtain rfl := hz rfl
    go_enter Try.func42, Try.ntmps42
    go_wp2
    go_ret
    exact ⟨none, 0, rfl, SlV.nil _ _, frs_nil _, Below.refl _ _⟩
  | some a =>
    go_enter Try.func42, Try.ntmps42
    have hE := El.Own.empty (E := opE) w w.heap.size (Nat.le_refl _)
    have hb0 := below_alloc (Below.refl w.heap.size w) (.cells #[] 35)
    go_wp2_with (at_builtin; refine El.wpList_app opInn rfl _ _ rfl w.heap.size _ [] l rfl hE (some a) _ c rfl rfl (hT.below hb0) (fun e => by cases e) (by simp; omega) (by simp) ?_; intro v' w2 hown hg _)
    obtain ⟨A', c', rfl, hS⟩ := SlV.own hown
    go_wp2
    go_ret
    exact ⟨A', c', rfl, hS, hown.frs, below_own hb0 hg (hE.rows)⟩

theorem infoOp : (Try.prog.info? 35).map (fun i => (i.zero, i.size, i.bytes)) = some (some (.agg #[.int .i64 0, .int .i64 0, .int .i64 0, .int .i64 0, .int .i64 0, .int .i64 0, .string ⟨#[]⟩]), 7, 64) := by kernel_rfl
set_option maxRecDepth 100000 in
theorem growOp_any (B n : Nat) (w : World) (hn : n ≤ 1000) (hB : B ≤ w.heap.size) :
    Calls Try.prog 70 #[.slice none 0 0, .int .i64 n] w fun e w' => ∃ v, e = .returned v ∧ opE.Own w' B v [] ∧ Below w.heap.size w w' := by
  by_cases h0 : n = 0
  · subst h0
    go_enter Try.func70, Try.ntmps70
    go_wp2
    go_ret
    exact ⟨_, rfl, El.Own.nil _ B, Below.refl _ _⟩
  · obtain ⟨i, hi, hz, hz1, hz2⟩ := info_parts infoOp
    have hr := fun ty => Lib.run_append_nil_zeros (P := Try.prog) w 22 3 ty 35 i _ .i64 .i64 Try.underlying22 Try.underlying3 hi hz n (by omega) (by omega) (by omega) (by rw [hz2]; omega)
    have hg1 : n ≤ grownCap w n 0 35 := grownCap_ge w n 0 _
    have hg2 : grownCap w n 0 35 ≤ maxLen := grownCap_le_maxLen w n 0 35 (by unfold maxLen; omega)
    have hown : opE.Own (w.drew.alloc (.cells (Builtin.zeroCells (Value.agg #[.int .i64 0, .int .i64 0, .int .i64 0, .int .i64 0, .int .i64 0, .int .i64 0, .string ⟨#[]⟩]).cells n ++ Builtin.zeroCells (Value.agg #[.int .i64 0, .int .i64 0, .int .i64 0, .int .i64 0, .int .i64 0, .int .i64 0, .string ⟨#[]⟩]).cells (grownCap w n 0 35 - n)) 35)) B (.slice (some ⟨w.heap.size, 0, none⟩) 0 (grownCap w n 0 35)) [] := by
      refine World.ownsRow_made w.drew _ (grownCap w n 0 35) hB hg2 ?_
      rw [Array.size_append, size_zeroCells, size_zeroCells]
      show n * 7 + (grownCap w n 0 35 - n) * 7 = _ * 7
      omega
    have hnx : Below w.heap.size w (w.drew.alloc (.cells (Builtin.zeroCells (Value.agg #[.int .i64 0, .int .i64 0, .int .i64 0, .int .i64 0, .int .i64 0, .int .i64 0, .string ⟨#[]⟩]).cells n ++ Builtin.zeroCells (Value.agg #[.int .i64 0, .int .i64 0, .int .i64 0, .int .i64 0, .int .i64 0, .int .i64 0, .string ⟨#[]⟩]).cells (grownCap w n 0 35 - n)) 35)) := below_alloc (Below.refl _ w).drew _
    generalize grownCap w n 0 35 = cap at *
    generalize w.drew.alloc (.cells (Builtin.zeroCells (Value.agg #[.int .i64 0, .int .i64 0, .int .i64 0, .int .i64 0, .int .i64 0, .int .i64 0, .string ⟨#[]⟩]).cells n ++ Builtin.zeroCells (Value.agg #[.int .i64 0, .int .i64 0, .int .i64 0, .int .i64 0, .int .i64 0, .int .i64 0, .string ⟨#[]⟩]).cells (cap - n)) 35) = W at *
    go_enter Try.func70, Try.ntmps70
    go_wp2_with (at_builtin; refine Lib.wpList_append_run _ rfl _ _ 22 3 rfl _ _ rfl rfl _ _ (hr _) ?_)
    go_wp2
    go_ret
    exact ⟨_, rfl, hown, hnx⟩

set_option maxRecDepth 100000 in
theorem concatOp_any (sb : Nat) (F : Nat → List Mv) (A : Nat → Option Addr) (C : Nat → Nat) (w : World) (hcell : ∀ j, j < 3 → w.cell? ⟨sb, j, none⟩ = some (.slice (A j) (F j).length (C j)))
    (hT : ∀ j, j < 3 → opE.Sl w (A j) (F j)) (hc : ∀ j, j < 3 → A j = none → C j = 0) (hl : (catE F 3).length ≤ 1000) (hsb : sb < w.heap.size) :
    Calls Try.prog 35 #[.slice (some ⟨sb, 0, none⟩) 3 3] w fun e w' => ∃ A' cap', e = .returned (.slice A' (catE F 3).length cap') ∧ SlV opE w' A' cap' (catE F 3) ∧ Frs w.heap.size A' ∧ Below w.heap.size w w' := by
  have CG := fun n hn => growOp_any w.heap.size n w hn (Nat.le_refl _)
  have hle := fun k h => catE_le F k 3 h
  have HCL := Lib.hid hcell
  have HTT := Lib.hid hT
  have HCC := Lib.hid hc
  clear hcell hT hc
  go_enter Try.func35, Try.ntmps35
  go_wp2
  go_loop [3, 11] (fun x y => ∃ k : Nat, k ≤ 3 ∧ y = .int .i64 k ∧ x = .int .i64 (catE F k).length) (fun _ y => 3 - (intOf y).toNat)
  case atStart => exact ⟨0, Nat.zero_le _, rfl, rfl⟩
  case round =>
    obtain ⟨k, hk, rfl, rfl⟩ := hrel
    by_cases hlt : k < 3
    · have h1 := HCL.out k hlt
      have h2 := hle (k + 1) hlt
      have h3 : (catE F (k + 1)).length = (catE F k).length + (F k).length := by rw [catE, List.length_append]
      have H3 := Lib.hid h3
      have h4 : (catE F k).length + (F k).length ≤ 1000 := by omega
      generalize (catE F k).length = n at *
      generalize (F k).length = m at *
      clear h3
      go_wp2
      go_round
      case rel => exact ⟨k + 1, by omega, by go_num, by rw [H3.out]; go_num⟩
      case measure => simp [intOf]; omega
    · obtain rfl : k = 3 := by omega
      have CG := CG _ hl
      go_wp2_with fail
      refine CG.mono ?_
      rintro e w1 ⟨v, rfl, hown, hb1⟩
      clear CG
      go_wp2
      go_loopw [6, 27] (fun x y wr => ∃ (k : Nat) (v : Value), k ≤ 3 ∧ y = .int .i64 k ∧ x = v ∧ opE.Own wr w.heap.size v (catE F k) ∧ Below w.heap.size w wr) (fun _ y _ => 3 - (intOf y).toNat)
      case atStart => exact ⟨0, v, Nat.zero_le _, rfl, rfl, hown, hb1⟩
      case round =>
        clear hown hb1
        obtain ⟨k, v, hk, rfl, rfl, hown, hnx⟩ := hrel
        by_cases hlt : k < 3
        · have h1 := HCL.out k hlt
          rw [← (bcell hnx).1 _ _ hsb] at h1
          have h2 := hle (k + 1) hlt
          have h3 : (catE F (k + 1)).length = (catE F k).length + (F k).length := by rw [catE, List.length_append]
          have hTk := (HTT.out k hlt).below hnx
          have hck := HCC.out k hlt
          have hB := hnx.size
          go_wp2_with (at_builtin; refine El.wpList_app opInn rfl _ _ rfl w.heap.size _ (catE F k) (F k) rfl hown (A k) _ (C k) rfl rfl hTk hck (by omega) hB ?_; intro v' w2 hown2 hg2 _)
          go_roundw
          case rel => exact ⟨k + 1, v', by omega, by go_num, rfl, hown2, hnx.grown hg2 hB (fun j hj => (hown).rows j hj)⟩
          case measure => simp [intOf]; omega
        · obtain rfl : k = 3 := by omega
          obtain ⟨A', cap', rfl, hS⟩ := SlV.own hown
          go_wp2
          go_ret
          exact ⟨A', cap', rfl, hS, hown.frs, hnx⟩
set_option maxRecDepth 100000 in
theorem cloneUn_any (A : Option Addr) (c : Nat) (l : List Un) (w : World) (hl : l.length ≤ 50000) (hT : SlV unE w A c l) :
    Calls Try.prog 43 #[.slice A l.length c] w fun e w' => ∃ A' c', e = .returned (.slice A' l.length c') ∧ SlV unE w' A' c' l ∧ Frs w.heap.size A' ∧ Below w.heap.size w w' := by
  obtain ⟨hT, hz, hlc⟩ := hT
  have q : ∀ (w : World) (a : Option Addr) (n c n' c' : Nat), (binOp .eql 27 (.slice a n c) (.slice none n' c')).run Try.prog w = .ok (.bool a.isNone) w := fun w a n c n' c' => Lib.run_eql_slice_nil w _ _ a n c n' c' Try.underlying27
  cases A with
  | none =>
    obtain rfl := hT.none_nil
    obtain rfl := hz rfl
    go_enter Try.func43, Try.ntmps43
    go_wp2
    go_ret
    exact ⟨none, 0, rfl, SlV.nil _ _, frs_nil _, Below.refl _ _⟩
  | some a =>
    go_enter Try.func43, Try.ntmps43
    have hE := El.Own.empty (E := unE) w w.heap.size (Nat.le_refl _)
    have hb0 := below_alloc (Below.refl w.heap.size w) (.cells #[] 60)
    go_wp2_with (at_builtin; refine El.wpList_app unInn rfl _ _ rfl w.heap.size _ [] l rfl hE (some a) _ c rfl rfl (hT.below hb0) (fun e => by cases e) (by simp; omega) (by simp) ?_; intro v' w2 hown hg _)
    obtain ⟨A', c', rfl, hS⟩ := SlV.own hown
    go_wp2
    go_ret
    exact ⟨A', c', rfl, hS, hown.frs, below_own hb0 hg (hE.rows)⟩

theorem infoUn : (Try.prog.info? 60).map (fun i => (i.zero, i.size, i.bytes)) = some (some (.agg #[.int .i64 0, .int .i64 0, .string ⟨#[]⟩, .bool false, .bool false]), 5, 40) := by kernel_rfl
set_option maxRecDepth 100000 in
theorem growUn_any (B n : Nat) (w : World) (hn : n ≤ 1000) (hB : B ≤ w.heap.size) :
    Calls Try.prog 74 #[.slice none 0 0, .int .i64 n] w fun e w' => ∃ v, e = .returned v ∧ unE.Own w' B v [] ∧ Below w.heap.size w w' := by
  by_cases h0 : n = 0
  · subst h0
    go_enter Try.func74, Try.ntmps74
    go_wp2
    go_ret
    exact ⟨_, rfl, El.Own.nil _ B, Below.refl _ _⟩
  · obtain ⟨i, hi, hz, hz1, hz2⟩ := info_parts infoUn
    have hr := fun ty => Lib.run_append_nil_zeros (P := Try.prog) w 27 3 ty 60 i _ .i64 .i64 Try.underlying27 Try.underlying3 hi hz n (by omega) (by omega) (by omega) (by rw [hz2]; omega)
    have hg1 : n ≤ grownCap w n 0 60 := grownCap_ge w n 0 _
    have hg2 : grownCap w n 0 60 ≤ maxLen := grownCap_le_maxLen w n 0 60 (by unfold maxLen; omega)
    have hown : unE.Own (w.drew.alloc (.cells (Builtin.zeroCells (Value.agg #[.int .i64 0, .int .i64 0, .string ⟨#[]⟩, .bool false, .bool false]).cells n ++ Builtin.zeroCells (Value.agg #[.int .i64 0, .int .i64 0, .string ⟨#[]⟩, .bool false, .bool false]).cells (grownCap w n 0 60 - n)) 60)) B (.slice (some ⟨w.heap.size, 0, none⟩) 0 (grownCap w n 0 60)) [] := by
      refine World.ownsRow_made w.drew _ (grownCap w n 0 60) hB hg2 ?_
      rw [Array.size_append, size_zeroCells, size_zeroCells]
      show n * 5 + (grownCap w n 0 60 - n) * 5 = _ * 5
      omega
    have hnx : Below w.heap.size w (w.drew.alloc (.cells (Builtin.zeroCells (Value.agg #[.int .i64 0, .int .i64 0, .string ⟨#[]⟩, .bool false, .bool false]).cells n ++ Builtin.zeroCells (Value.agg #[.int .i64 0, .int .i64 0, .string ⟨#[]⟩, .bool false, .bool false]).cells (grownCap w n 0 60 - n)) 60)) := below_alloc (Below.refl _ w).drew _
    generalize grownCap w n 0 60 = cap at *
    generalize w.drew.alloc (.cells (Builtin.zeroCells (Value.agg #[.int .i64 0, .int .i64 0, .string ⟨#[]⟩, .bool false, .bool false]).cells n ++ Builtin.zeroCells (Value.agg #[.int .i64 0, .int .i64 0, .string ⟨#[]⟩, .bool false, .bool false]).cells (cap - n)) 60) = W at *
    go_enter Try.func74, Try.ntmps74
    go_wp2_with (at_builtin; refine Lib.wpList_append_run _ rfl _ _ 27 3 rfl _ _ rfl rfl _ _ (hr _) ?_)
    go_wp2
    go_ret
    exact ⟨_, rfl, hown, hnx⟩

set_option maxRecDepth 100000 in
theorem concatUn_any (sb : Nat) (F : Nat → List Un) (A : Nat → Option Addr) (C : Nat → Nat) (w : World) (hcell : ∀ j, j < 2 → w.cell? ⟨sb, j, none⟩ = some (.slice (A j) (F j).length (C j)))
    (hT : ∀ j, j < 2 → unE.Sl w (A j) (F j)) (hc : ∀ j, j < 2 → A j = none → C j = 0) (hl : (catE F 2).length ≤ 1000) (hsb : sb < w.heap.size) :
    Calls Try.prog 39 #[.slice (some ⟨sb, 0, none⟩) 2 2] w fun e w' => ∃ A' cap', e = .returned (.slice A' (catE F 2).length cap') ∧ SlV unE w' A' cap' (catE F 2) ∧ Frs w.heap.size A' ∧ Below w.heap.size w w' := by
  have CG := fun n hn => growUn_any w.heap.size n w hn (Nat.le_refl _)
  have hle := fun k h => catE_le F k 2 h
  have HCL := Lib.hid hcell
  have HTT := Lib.hid hT
  have HCC := Lib.hid hc
  clear hcell hT hc
  go_enter Try.func39, Try.ntmps39
  go_wp2
  go_loop [3, 11] (fun x y => ∃ k : Nat, k ≤ 2 ∧ y = .int .i64 k ∧ x = .int .i64 (catE F k).length) (fun _ y => 2 - (intOf y).toNat)
  case atStart => exact ⟨0, Nat.zero_le _, rfl, rfl⟩
  case round =>
    obtain ⟨k, hk, rfl, rfl⟩ := hrel
    by_cases hlt : k < 2
    · have h1 := HCL.out k hlt
      have h2 := hle (k + 1) hlt
      have h3 : (catE F (k + 1)).length = (catE F k).length + (F k).length := by rw [catE, List.length_append]
      have H3 := Lib.hid h3
      have h4 : (catE F k).length + (F k).length ≤ 1000 := by omega
      generalize (catE F k).length = n at *
      generalize (F k).length = m at *
      clear h3
      go_wp2
      go_round
      case rel => exact ⟨k + 1, by omega, by go_num, by rw [H3.out]; go_num⟩
      case measure => simp [intOf]; omega
    · obtain rfl : k = 2 := by omega
      have CG := CG _ hl
      go_wp2_with fail
      refine CG.mono ?_
      rintro e w1 ⟨v, rfl, hown, hb1⟩
      clear CG
      go_wp2
      go_loopw [6, 27] (fun x y wr => ∃ (k : Nat) (v : Value), k ≤ 2 ∧ y = .int .i64 k ∧ x = v ∧ unE.Own wr w.heap.size v (catE F k) ∧ Below w.heap.size w wr) (fun _ y _ => 2 - (intOf y).toNat)
      case atStart => exact ⟨0, v, Nat.zero_le _, rfl, rfl, hown, hb1⟩
      case round =>
        clear hown hb1
        obtain ⟨k, v, hk, rfl, rfl, hown, hnx⟩ := hrel
        by_cases hlt : k < 2
        · have h1 := HCL.out k hlt
          rw [← (bcell hnx).1 _ _ hsb] at h1
          have h2 := hle (k + 1) hlt
          have h3 : (catE F (k + 1)).length = (catE F k).length + (F k).length := by rw [catE, List.length_append]
          have hTk := (HTT.out k hlt).below hnx
          have hck := HCC.out k hlt
          have hB := hnx.size
          go_wp2_with (at_builtin; refine El.wpList_app unInn rfl _ _ rfl w.heap.size _ (catE F k) (F k) rfl hown (A k) _ (C k) rfl rfl hTk hck (by omega) hB ?_; intro v' w2 hown2 hg2 _)
          go_roundw
          case rel => exact ⟨k + 1, v', by omega, by go_num, rfl, hown2, hnx.grown hg2 hB (fun j hj => (hown).rows j hj)⟩
          case measure => simp [intOf]; omega
        · obtain rfl : k = 2 := by omega
          obtain ⟨A', cap', rfl, hS⟩ := SlV.own hown
          go_wp2
          go_ret
          exact ⟨A', cap', rfl, hS, hown.frs, hnx⟩
end Go.Proofs.Ytoidondngoljaaa

/- Where an operation of a moment stands, and whether it does; a past in new memory; whether each has its undo. -/
namespace Go.Proofs.Ytoidondngoljaaa
open Go.RowKit Tre Cod Pst

set_option maxRecDepth 100000 in
set_option maxHeartbeats 1000000 in
theorem pfind_any (A : Option Addr) (c : Nat) (l : List Mv) (m : Mv) (w : World) (hr : Ris Mv.C Mv.D l) (hl : l.length ≤ 1000) (hT : opE.Sl w A l) :
    Calls Try.prog 32 #[.slice A l.length c, .agg #[.int .i64 m.C, .int .i64 m.D]] w fun e w' => e = .returned (.tuple #[.int .i64 (pos Mv.C Mv.D l m), .bool (has Mv.C Mv.D l m)]) ∧ Below w.heap.size w w' := by
  have hB := below_alloc (below_alloc (Below.refl w.heap.size w) (.cells #[.slice A l.length c] 22)) (.cells #[.int .i64 m.C, .int .i64 m.D] 33)
  have hTW := hT.below hB
  have c1 : ((w.alloc (.cells #[.slice A l.length c] 22)).alloc (.cells #[.int .i64 m.C, .int .i64 m.D] 33)).cell? ⟨w.heap.size, 0, none⟩ = some (.slice A l.length c) := by go_simp
  have c2 : ((w.alloc (.cells #[.slice A l.length c] 22)).alloc (.cells #[.int .i64 m.C, .int .i64 m.D] 33)).cell? ⟨w.heap.size + 1, 0, none⟩ = some (.int .i64 m.C) := by go_simp
  have c3 : ((w.alloc (.cells #[.slice A l.length c] 22)).alloc (.cells #[.int .i64 m.C, .int .i64 m.D] 33)).cell? ⟨w.heap.size + 1, 1, none⟩ = some (.int .i64 m.D) := by go_simp
  have hsz : ((w.alloc (.cells #[.slice A l.length c] 22)).alloc (.cells #[.int .i64 m.C, .int .i64 m.D] 33)).heap.size = w.heap.size + 1 + 1 := by rw [alloc_size, alloc_size]
  go_enter Try.func32, Try.ntmps32
  go_wp2_with fail
  generalize ((w.alloc (.cells #[.slice A l.length c] 22)).alloc (.cells #[.int .i64 m.C, .int .i64 m.D] 33)) = W at *
  obtain ⟨n1, h1⟩ : ∃ n, w.heap.size + 1 = n := ⟨_, rfl⟩
  rw [h1] at c2 c3 ⊢
  obtain ⟨n0, h0⟩ : ∃ n, w.heap.size = n := ⟨_, rfl⟩
  rw [h0] at c1 ⊢
  have hn0 : n0 < W.heap.size := by omega
  have hn1 : n1 < W.heap.size := by omega
  have CS := search1_any l.length n0 n1 (fun i => if h : i < l.length then !befB l[i].C l[i].D m.C m.D else true) W hl
    (fun i j hij hj hpi => by
      rw [dif_pos (show i < l.length by omega)] at hpi
      rw [dif_pos hj]
      by_cases e : i = j
      · subst e; exact hpi
      · have h3 := ris_get hr (show i < l.length by omega) hj (by omega)
        rw [bef_iff] at hpi ⊢
        rw [Bool.not_eq_true', decide_eq_false_iff_not] at hpi ⊢
        exact fun h4 => hpi (bef_trans h3 h4))
    (fun i w' hi hb => by
      have := findAt_any i A c l m.C m.D n0 n1 w' (by rw [(bcell hb).1 _ _ hn0]; exact c1) (by rw [(bcell hb).1 _ _ hn1]; exact c2) (by rw [(bcell hb).1 _ _ hn1]; exact c3) (hTW.below hb) hi hl
      rw [dif_pos hi]; exact this)
  refine CS.mono ?_
  rintro e w1 ⟨k, rfl, hk, hlo, hhi, hb1⟩
  have hpos : k = pos Mv.C Mv.D l m := find_pos hr hk (fun i h hik => by have := hlo i hik; rw [dif_pos h] at this; simpa using this) (fun i h hki => by have := hhi i hki h; rw [dif_pos h] at this; simpa using this)
  have d1 : w1.cell? ⟨n0, 0, none⟩ = some (.slice A l.length c) := by rw [(bcell hb1).1 _ _ hn0]; exact c1
  have d2 : w1.cell? ⟨n1, 0, none⟩ = some (.int .i64 m.C) := by rw [(bcell hb1).1 _ _ hn1]; exact c2
  have d3 : w1.cell? ⟨n1, 1, none⟩ = some (.int .i64 m.D) := by rw [(bcell hb1).1 _ _ hn1]; exact c3
  have hT1 := hTW.below hb1
  have hB1 := hB.trans (hb1.mono (by omega))
  clear CS hlo hhi c1 c2 c3 hTW hB
  by_cases hkl : k < l.length
  · obtain ⟨b, off, rfl, hbw, hc⟩ := hT1 (by omega)
    have hat : opE.At w1 b (off + k * 7) _ := hc k hkl
    obtain ⟨x, hx⟩ : ∃ x, l[k] = x := ⟨_, rfl⟩
    rw [hx] at hat
    have hh := has_at hpos hkl hx
    obtain ⟨t0, t1, t2, t3, t4, t5, t6⟩ := opAt hat
    have HP := Lib.hid hpos
    have HH := Lib.hid hh
    clear hc hat hx t2 t3 t4 t5 t6 hpos hh hr hT hl
    by_cases hs : x.C = m.C ∧ x.D = m.D
    · obtain ⟨e1, e2⟩ := hs
      go_wp2_with fail
      go_region
      all_goals go_wp2
      all_goals go_ret2
      all_goals exact ⟨by rw [← HP.out, HH.out, decide_eq_true ⟨e1, e2⟩]; rfl, hB1.drew⟩
    · have hun : (x.C == m.C) = false ∨ (x.C = m.C ∧ (x.D == m.D) = false) := by
        by_cases e : x.C = m.C
        · right; exact ⟨e, beq_eq_false_iff_ne.2 fun e2 => hs ⟨e, e2⟩⟩
        · left; exact beq_eq_false_iff_ne.2 e
      have HS := Lib.hid hs
      clear hs
      rcases hun with hun | ⟨hun1, hun⟩
      all_goals
        go_wp2_with fail
        go_region
        all_goals go_wp2
        all_goals go_ret2
        all_goals exact ⟨by rw [← HP.out, HH.out, decide_eq_false HS.out]; rfl, hB1.drew⟩
  · obtain rfl : k = l.length := by omega
    have HP := Lib.hid hpos
    have HH := Lib.hid (has_end hpos.symm)
    clear hpos hr hT hl
    go_wp2_with fail
    go_region
    all_goals go_wp2
    all_goals go_ret2
    all_goals exact ⟨by rw [← HP.out, HH.out]; rfl, hB1.drew⟩

theorem even_any (x : Pw) (w : World) (h : x.us.length = x.ops.length) :
    Calls Try.prog 33 #[.agg #[.slice x.bA x.base.length x.bc, .int .i64 x.t, .slice x.oA x.ops.length x.oc, .slice x.uA x.us.length x.uc, .slice x.wA x.now.length x.wc]] w fun e w' => e = .returned (.bool true) ∧ Below w.heap.size w w' := by
  obtain ⟨bA, bc, base, t, oA, oc, ops, uA, uc, us, wA, wc, now⟩ := x
  simp only at h
  go_enter Try.func33, Try.ntmps33
  go_wp2
  go_ret
  exact ⟨by simp [h], below_alloc (Below.refl _ _) _⟩
end Go.Proofs.Ytoidondngoljaaa

/- A past in new memory. -/
namespace Go.Proofs.Ytoidondngoljaaa
open Go.RowKit Tre Cod Pst

section
variable {P : Program} {ops : Array Oper} {Q : Exit → Act → World → Prop} {md : Region.Mode} {S : World → Prop} {n : Nat}
/-- An operation behind number n: nothing is asked. -/
theorem AllG.after {fuel : Nat} {listed : Array Bool} {a : Act} {w : World} {i : Nat} {o : Oper} {rs : List Nat} (ho : ops.toList[i]? = some o) (hn : (listed.setIfInBounds i true).getD n true = true)
    (h : ∀ K : Act → World → Prop, RowKit.Hid (∀ b v, anyG P md ops Q S n fuel (listed.setIfInBounds i true) b v → K b v) → if Region.wanted o (yielded ops a.tmps) = true then Oper.wp P o a w K Q else K (a.put o.dst undef) w)
    (hs : AllG P md ops Q S n fuel listed a w rs) : AllG P md ops Q S n fuel listed a w (i :: rs) := fun j hj => by
  rcases List.mem_cons.1 hj with rfl | hj
  · exact wpOp_step (by rw [← Array.getElem?_toList]; exact ho) (fun K hK => h K (Lib.hid fun b v hW => hK b v ⟨fun e => (by rw [hn] at e; cases e), hW⟩))
  · exact hs j hj
theorem anyG_plain_after {i : Nat} {oi : Oper} {v : Value} {fuel : Nat} {listed : Array Bool} {a : Act} {w : World} (hi : ops.toList[i]? = some oi)
    (hin : (i == n) = false) (hs : Region.noSelect ops = true) (hf : Region.free md ops listed i = true) (hr : (Region.ready md ops listed).contains i = true)
    (hQ : ∀ c a w, Q (.panic c) (a.put oi.dst v) w → Q (.panic c) a w) (hy : Yields P ops oi v a) (hn : listed.getD n true = true)
    (h : anyG P md ops Q S n fuel (listed.setIfInBounds i true) (a.put oi.dst v) w) : anyG P md ops Q S n (fuel + 1) listed a w :=
  anyG_plain hi hin hs hf hr hQ hy (fun e => by rw [hn] at e; cases e) h
end

/-- Its slices are the call's own. -/
structure PFrs (B : Nat) (y : Pw) : Prop where
  b : Frs B y.bA
  o : Frs B y.oA
  u : Frs B y.uA
  w : Frs B y.wA
theorem PFrs.mono {B C : Nat} {y : Pw} (h : PFrs C y) (hb : B ≤ C) : PFrs B y := ⟨h.b.mono hb, h.o.mono hb, h.u.mono hb, h.w.mono hb⟩
/-- A block ahead of them is written: they stay. -/
theorem PastOk.keep {w w' : World} {y : Pw} {B b : Nat} (h : PastOk w y) (hf : PFrs B y) (hg : w.grownBy w' (some b)) (hb : b < B) : PastOk w' y :=
  ⟨h.b.keep hf.b hg hb, h.o.keep hf.o hg hb, h.u.keep hf.u hg hb, h.w.keep hf.w hg hb⟩
def Two (n0 i j : Nat) (u v : Value) (w : World) : Prop := w.cell? ⟨n0, i, none⟩ = some u ∧ w.cell? ⟨n0, j, none⟩ = some v

set_option maxRecDepth 100000 in
set_option maxHeartbeats 4000000 in
theorem psame_any (x : Pw) (w : World) (hx : PastOk w x) (hl1 : x.base.length ≤ 50000) (hl2 : x.ops.length ≤ 50000) (hl3 : x.us.length ≤ 50000) (hl4 : x.now.length ≤ 50000) :
    Calls Try.prog 34 #[.agg #[.slice x.bA x.base.length x.bc, .int .i64 x.t, .slice x.oA x.ops.length x.oc, .slice x.uA x.us.length x.uc, .slice x.wA x.now.length x.wc]] w fun e w' => ∃ y : Pw, e = .returned (.agg #[.slice y.bA y.base.length y.bc, .int .i64 y.t, .slice y.oA y.ops.length y.oc, .slice y.uA y.us.length y.uc, .slice y.wA y.now.length y.wc]) ∧ PastOk w' y ∧ y.v = x.v ∧ PFrs w.heap.size y ∧ Below w.heap.size w w' := by
  obtain ⟨bA, bc, base, t, oA, oc, ops, uA, uc, us, wA, wc, now⟩ := x
  simp only at hl1 hl2 hl3 hl4
  have hP : pwE.In ((w.alloc (.cells #[.slice bA base.length bc, .int .i64 t, .slice oA ops.length oc, .slice uA us.length uc, .slice wA now.length wc] 29)).alloc (.cells #[.slice none 0 0, .int .i64 0, .slice none 0 0, .slice none 0 0, .slice none 0 0] 29)) w.heap.size (⟨bA, bc, base, t, oA, oc, ops, uA, uc, us, wA, wc, now⟩ : Pw) := (El.In.new (E := pwE) w (⟨bA, bc, base, t, oA, oc, ops, uA, uc, us, wA, wc, now⟩ : Pw) _ rfl).alloc _
  have hR : pwE.In ((w.alloc (.cells #[.slice bA base.length bc, .int .i64 t, .slice oA ops.length oc, .slice uA us.length uc, .slice wA now.length wc] 29)).alloc (.cells #[.slice none 0 0, .int .i64 0, .slice none 0 0, .slice none 0 0, .slice none 0 0] 29)) (w.heap.size + 1) Pw.zero := by
    have h := El.In.new (E := pwE) (w.alloc (.cells #[.slice bA base.length bc, .int .i64 t, .slice oA ops.length oc, .slice uA us.length uc, .slice wA now.length wc] 29)) Pw.zero #[.slice none 0 0, .int .i64 0, .slice none 0 0, .slice none 0 0, .slice none 0 0] rfl
    rw [alloc_size] at h; exact h
  have hB := below_alloc (below_alloc (Below.refl w.heap.size w) (.cells #[.slice bA base.length bc, .int .i64 t, .slice oA ops.length oc, .slice uA us.length uc, .slice wA now.length wc] 29)) (.cells #[.slice none 0 0, .int .i64 0, .slice none 0 0, .slice none 0 0, .slice none 0 0] 29)
  have hx0 := hx.below hB
  have HL := Lib.hid hx
  clear hx
  go_enter Try.func34, Try.ntmps34
  go_wp2_with fail
  replace hP := hP
  refine region_anyG (S := Two w.heap.size 0 2 (.slice bA base.length bc) (.slice oA ops.length oc)) 7 (by kernel_rfl) ?_
  replace hx0 := hx0.below (Below.refl _ _).drew
  replace hB := hB.drew
  replace hP : pwE.In ((w.alloc (.cells #[.slice bA base.length bc, .int .i64 t, .slice oA ops.length oc, .slice uA us.length uc, .slice wA now.length wc] 29)).alloc (.cells #[.slice none 0 0, .int .i64 0, .slice none 0 0, .slice none 0 0, .slice none 0 0] 29)).drew w.heap.size (⟨bA, bc, base, t, oA, oc, ops, uA, uc, us, wA, wc, now⟩ : Pw) := hP
  replace hR : pwE.In ((w.alloc (.cells #[.slice bA base.length bc, .int .i64 t, .slice oA ops.length oc, .slice uA us.length uc, .slice wA now.length wc] 29)).alloc (.cells #[.slice none 0 0, .int .i64 0, .slice none 0 0, .slice none 0 0, .slice none 0 0] 29)).drew (w.heap.size + 1) Pw.zero := hR
  generalize ((w.alloc (.cells #[.slice bA base.length bc, .int .i64 t, .slice oA ops.length oc, .slice uA us.length uc, .slice wA now.length wc] 29)).alloc (.cells #[.slice none 0 0, .int .i64 0, .slice none 0 0, .slice none 0 0, .slice none 0 0] 29)).drew = W at *
  obtain ⟨n1, h1⟩ : ∃ n, w.heap.size + 1 = n := ⟨_, rfl⟩
  rw [h1] at hR ⊢
  obtain ⟨n0, h0⟩ : ∃ n, w.heap.size = n := ⟨_, rfl⟩
  have HN := Lib.hid (show w.heap.size ≤ n0 ∧ n1 = n0 + 1 by omega)
  have hn10 : n1 ≠ n0 := by omega
  rw [h0] at hP ⊢
  clear h0 h1
  obtain ⟨hxb, hxo, hxu, hxw⟩ := hx0
  simp only at hxb hxo hxu hxw
  have hS : Two n0 0 2 (.slice bA base.length bc) (.slice oA ops.length oc) W := ⟨(pwIn5 hP).1, (pwIn5 hP).2.2.1⟩
  refine anyG_take (i := 0) (v := .pointer (some ⟨n0, 0, none⟩)) rfl (by kernel_rfl) (by kernel_rfl) (by kernel_rfl) (by kernel_rfl) (by kernel_rfl) (fun _ _ _ h => h) (Or.inl ⟨by rfl, fun w' hSw => by (obtain ⟨s0, s1⟩ := hSw; go_simp)⟩) hS ?_
  try simp only [Act.put, List.setIfInBounds_toArray, List.set_cons_zero, List.set_cons_succ]
  refine anyG_take (i := 1) (v := .slice bA base.length bc) rfl (by kernel_rfl) (by kernel_rfl) (by kernel_rfl) (by kernel_rfl) (by kernel_rfl) (fun _ _ _ h => h) (Or.inl ⟨by rfl, fun w' hSw => by (obtain ⟨s0, s1⟩ := hSw; go_simp)⟩) hS ?_
  try simp only [Act.put, List.setIfInBounds_toArray, List.set_cons_zero, List.set_cons_succ]
  refine anyG_take (i := 3) (v := .pointer (some ⟨n0, 2, none⟩)) rfl (by kernel_rfl) (by kernel_rfl) (by kernel_rfl) (by kernel_rfl) (by kernel_rfl) (fun _ _ _ h => h) (Or.inl ⟨by rfl, fun w' hSw => by (obtain ⟨s0, s1⟩ := hSw; go_simp)⟩) hS ?_
  try simp only [Act.put, List.setIfInBounds_toArray, List.set_cons_zero, List.set_cons_succ]
  refine anyG_take (i := 4) (v := .slice oA ops.length oc) rfl (by kernel_rfl) (by kernel_rfl) (by kernel_rfl) (by kernel_rfl) (by kernel_rfl) (fun _ _ _ h => h) (Or.inl ⟨by rfl, fun w' hSw => by (obtain ⟨s0, s1⟩ := hSw; go_simp)⟩) hS ?_
  try simp only [Act.put, List.setIfInBounds_toArray, List.set_cons_zero, List.set_cons_succ]
  refine anyG_step (rs := [2]) (by kernel_rfl) (by simp) ?_
  refine AllG.cons rfl (fun K hK => ?_) AllG.nil
  have C1 := clonePl_any bA bc base W hl1 hxb
  go_simp
  refine C1.mono ?_
  rintro e W1 ⟨A1, c1, rfl, hS1, hf1, hb1⟩
  clear C1
  have hP1 := hP.below hb1
  have hR1 := hR.below hb1
  replace hxo := hxo.below hb1
  replace hxu := hxu.below hb1
  replace hxw := hxw.below hb1
  clear hS
  have hS : Two n0 0 2 (.slice bA base.length bc) (.slice oA ops.length oc) W1 := ⟨(pwIn5 hP1).1, (pwIn5 hP1).2.2.1⟩
  try go_wp2_with fail
  refine hK.out _ _ hS ?_
  try simp only [Act.put, List.setIfInBounds_toArray, List.set_cons_zero, List.set_cons_succ]
  refine anyG_plain (i := 6) (v := .pointer (some ⟨n0, 0, none⟩)) rfl (by kernel_rfl) (by kernel_rfl) (by kernel_rfl) (by kernel_rfl) (fun _ _ _ h => h) (Or.inl ⟨by rfl, fun w' => by go_simp⟩) (fun _ => hS) ?_
  try simp only [Act.put, List.setIfInBounds_toArray, List.set_cons_zero, List.set_cons_succ]
  refine anyG_step (rs := [5]) (by kernel_rfl) (by simp) ?_
  refine AllG.cons rfl (fun K hK => ?_) AllG.nil
  have C2 := cloneOp_any oA oc ops W1 hl2 hxo
  go_simp
  refine C2.mono ?_
  rintro e W2 ⟨A2, c2, rfl, hS2, hf2, hb2⟩
  clear C2
  have hP2 := hP1.below hb2
  have hR2 := hR1.below hb2
  replace hxu := hxu.below hb2
  replace hxw := hxw.below hb2
  replace hS1 := hS1.below hb2
  have hB2 := hB.trans ((below_then hb1 hb2).mono (by have := hB.size; omega))
  have hl0 := hP.lt
  have hl1' := hP1.lt
  have hwW : w.heap.size ≤ W.heap.size ∧ w.heap.size ≤ W1.heap.size := ⟨hB.size, by have := hB.size; have := hb1.size; omega⟩
  have hlW : n1 < W.heap.size ∧ n1 < W1.heap.size := ⟨hR.lt, hR1.lt⟩
  clear hS
  have hS : Two n0 0 2 (.slice bA base.length bc) (.slice oA ops.length oc) W2 := ⟨(pwIn5 hP2).1, (pwIn5 hP2).2.2.1⟩
  try go_wp2_with fail
  refine hK.out _ _ hS ?_
  try simp only [Act.put, List.setIfInBounds_toArray, List.set_cons_zero, List.set_cons_succ]
  refine anyG_step (rs := [7]) (by kernel_rfl) (by simp) ?_
  refine AllG.last (n := 7) rfl (fun K hK => ?_)
  obtain ⟨q0, q1, q2, q3, q4⟩ := pwIn5 hP2
  have qf := hP2.frozen
  go_simp
  refine hK.out _ _ ?_
  try simp only [Act.put, List.setIfInBounds_toArray, List.set_cons_zero, List.set_cons_succ]
  clear q0 q1 q2 q3 q4 qf hS hK
  have hP3 := hP2.put ⟨A1, c1, base, t, oA, oc, ops, uA, uc, us, wA, wc, now⟩ 0 (.slice A1 base.length c1) rfl
  have hg3 := by_cell W2 n0 0 (.slice A1 base.length c1)
  have hR3 := hR2.other n0 0 (.slice A1 base.length c1) hn10
  refine anyG_plain_after (i := 8) (v := .pointer (some ⟨n0, 2, none⟩)) rfl (by kernel_rfl) (by kernel_rfl) (by kernel_rfl) (by kernel_rfl) (fun _ _ _ h => h) (Or.inl ⟨by rfl, fun w' => by go_simp⟩) (by kernel_rfl) ?_
  try simp only [Act.put, List.setIfInBounds_toArray, List.set_cons_zero, List.set_cons_succ]
  refine anyG_step (rs := [9]) (by kernel_rfl) (by simp) ?_
  refine AllG.after rfl (by kernel_rfl) (fun K hK => ?_) AllG.nil
  obtain ⟨q0, q1, q2, q3, q4⟩ := pwIn5 hP3
  have qf := hP3.frozen
  go_simp
  refine hK.out _ _ ?_
  try simp only [Act.put, List.setIfInBounds_toArray, List.set_cons_zero, List.set_cons_succ]
  clear q0 q1 q2 q3 q4 qf hK
  refine anyG_done (by kernel_rfl) ?_ _
  have hP4 := hP3.put ⟨A1, c1, base, t, A2, c2, ops, uA, uc, us, wA, wc, now⟩ 2 (.slice A2 ops.length c2) rfl
  have hg4 := by_cell2 hg3 2 (.slice A2 ops.length c2)
  have hR4 := hR3.other n0 2 (.slice A2 ops.length c2) hn10
  have hB4 := hB2.grown hg4 hB2.size (fun j e => by have := Option.some.inj e; have := HN.out; omega)
  have hS41 := hS1.keep hf1 hg4 hl0
  have hS42 := hS2.keep hf2 hg4 hl1'
  generalize (W2.setCell ⟨n0, 0, none⟩ (.slice A1 base.length c1)).setCell ⟨n0, 2, none⟩ (.slice A2 ops.length c2) = V at *
  clear hg3 hg4 hP3 hR3 hxb hxo hxu hxw hP2 hR2 hP1 hR1 hP hR hS1 hS2 hB2 hB hb1 hb2
  obtain ⟨hxb, hxo, hxu, hxw⟩ := HL.out.below hB4
  simp only at hxb hxo hxu hxw
  have hl0w := hP4.lt
  have hl1w := hR4.lt
  go_wp2_with fail
  refine region_anyG (S := Two n0 3 4 (.slice uA us.length uc) (.slice wA now.length wc)) 7 (by kernel_rfl) ?_
  replace hP : pwE.In V.drew n0 ⟨A1, c1, base, t, A2, c2, ops, uA, uc, us, wA, wc, now⟩ := hP4
  replace hR : pwE.In V.drew n1 Pw.zero := hR4
  replace hxu : SlV unE V.drew uA uc us := hxu
  replace hxw : SlV plE V.drew wA wc now := hxw
  replace hS41 : SlV plE V.drew A1 c1 base := hS41
  replace hS42 : SlV opE V.drew A2 c2 ops := hS42
  replace hB := hB4.drew
  replace hl0w : n0 < V.drew.heap.size := hl0w
  replace hl1w : n1 < V.drew.heap.size := hl1w
  clear hP4 hR4 hB4 hxb hxo
  generalize V.drew = V at *
  have hS : Two n0 3 4 (.slice uA us.length uc) (.slice wA now.length wc) V := ⟨(pwIn5 hP).2.2.2.1, (pwIn5 hP).2.2.2.2⟩
  refine anyG_take (i := 0) (v := .pointer (some ⟨n0, 3, none⟩)) rfl (by kernel_rfl) (by kernel_rfl) (by kernel_rfl) (by kernel_rfl) (by kernel_rfl) (fun _ _ _ h => h) (Or.inl ⟨by rfl, fun w' hSw => by (obtain ⟨s0, s1⟩ := hSw; go_simp)⟩) hS ?_
  try simp only [Act.put, List.setIfInBounds_toArray, List.set_cons_zero, List.set_cons_succ]
  refine anyG_take (i := 1) (v := .slice uA us.length uc) rfl (by kernel_rfl) (by kernel_rfl) (by kernel_rfl) (by kernel_rfl) (by kernel_rfl) (fun _ _ _ h => h) (Or.inl ⟨by rfl, fun w' hSw => by (obtain ⟨s0, s1⟩ := hSw; go_simp)⟩) hS ?_
  try simp only [Act.put, List.setIfInBounds_toArray, List.set_cons_zero, List.set_cons_succ]
  refine anyG_take (i := 3) (v := .pointer (some ⟨n0, 4, none⟩)) rfl (by kernel_rfl) (by kernel_rfl) (by kernel_rfl) (by kernel_rfl) (by kernel_rfl) (fun _ _ _ h => h) (Or.inl ⟨by rfl, fun w' hSw => by (obtain ⟨s0, s1⟩ := hSw; go_simp)⟩) hS ?_
  try simp only [Act.put, List.setIfInBounds_toArray, List.set_cons_zero, List.set_cons_succ]
  refine anyG_take (i := 4) (v := .slice wA now.length wc) rfl (by kernel_rfl) (by kernel_rfl) (by kernel_rfl) (by kernel_rfl) (by kernel_rfl) (fun _ _ _ h => h) (Or.inl ⟨by rfl, fun w' hSw => by (obtain ⟨s0, s1⟩ := hSw; go_simp)⟩) hS ?_
  try simp only [Act.put, List.setIfInBounds_toArray, List.set_cons_zero, List.set_cons_succ]
  refine anyG_step (rs := [2]) (by kernel_rfl) (by simp) ?_
  refine AllG.cons rfl (fun K hK => ?_) AllG.nil
  have C3 := cloneUn_any uA uc us V hl3 hxu
  go_simp
  refine C3.mono ?_
  rintro e W5 ⟨A3, c3, rfl, hS3, hf3, hb5⟩
  clear C3
  have hP5 := hP.below hb5
  have hR5 := hR.below hb5
  replace hxw := hxw.below hb5
  replace hS41 := hS41.below hb5
  replace hS42 := hS42.below hb5
  clear hS
  have hS : Two n0 3 4 (.slice uA us.length uc) (.slice wA now.length wc) W5 := ⟨(pwIn5 hP5).2.2.2.1, (pwIn5 hP5).2.2.2.2⟩
  try go_wp2_with fail
  refine hK.out _ _ hS ?_
  try simp only [Act.put, List.setIfInBounds_toArray, List.set_cons_zero, List.set_cons_succ]
  refine anyG_plain (i := 6) (v := .pointer (some ⟨n0, 3, none⟩)) rfl (by kernel_rfl) (by kernel_rfl) (by kernel_rfl) (by kernel_rfl) (fun _ _ _ h => h) (Or.inl ⟨by rfl, fun w' => by go_simp⟩) (fun _ => hS) ?_
  try simp only [Act.put, List.setIfInBounds_toArray, List.set_cons_zero, List.set_cons_succ]
  refine anyG_step (rs := [5]) (by kernel_rfl) (by simp) ?_
  refine AllG.cons rfl (fun K hK => ?_) AllG.nil
  have C4 := clonePl_any wA wc now W5 hl4 hxw
  go_simp
  refine C4.mono ?_
  rintro e W6 ⟨A4, c4, rfl, hS4, hf4, hb6⟩
  clear C4
  have hP6 := hP5.below hb6
  have hR6 := hR5.below hb6
  replace hS41 := hS41.below hb6
  replace hS42 := hS42.below hb6
  replace hS3 := hS3.below hb6
  have hB6 := hB.trans ((below_then hb5 hb6).mono (by have := hB.size; omega))
  have hl5 := hP5.lt
  have hl51 := hR5.lt
  clear hS
  have hS : Two n0 3 4 (.slice uA us.length uc) (.slice wA now.length wc) W6 := ⟨(pwIn5 hP6).2.2.2.1, (pwIn5 hP6).2.2.2.2⟩
  try go_wp2_with fail
  refine hK.out _ _ hS ?_
  try simp only [Act.put, List.setIfInBounds_toArray, List.set_cons_zero, List.set_cons_succ]
  refine anyG_step (rs := [7]) (by kernel_rfl) (by simp) ?_
  refine AllG.last (n := 7) rfl (fun K hK => ?_)
  obtain ⟨q0, q1, q2, q3, q4⟩ := pwIn5 hP6
  have qf := hP6.frozen
  go_simp
  refine hK.out _ _ ?_
  try simp only [Act.put, List.setIfInBounds_toArray, List.set_cons_zero, List.set_cons_succ]
  clear q0 q1 q2 q3 q4 qf hS hK
  have hP7 := hP6.put ⟨A1, c1, base, t, A2, c2, ops, A3, c3, us, wA, wc, now⟩ 3 (.slice A3 us.length c3) rfl
  have hg7 := by_cell W6 n0 3 (.slice A3 us.length c3)
  have hR7 := hR6.other n0 3 (.slice A3 us.length c3) hn10
  refine anyG_plain_after (i := 8) (v := .pointer (some ⟨n0, 4, none⟩)) rfl (by kernel_rfl) (by kernel_rfl) (by kernel_rfl) (by kernel_rfl) (fun _ _ _ h => h) (Or.inl ⟨by rfl, fun w' => by go_simp⟩) (by kernel_rfl) ?_
  try simp only [Act.put, List.setIfInBounds_toArray, List.set_cons_zero, List.set_cons_succ]
  refine anyG_step (rs := [9]) (by kernel_rfl) (by simp) ?_
  refine AllG.after rfl (by kernel_rfl) (fun K hK => ?_) AllG.nil
  obtain ⟨q0, q1, q2, q3, q4⟩ := pwIn5 hP7
  have qf := hP7.frozen
  go_simp
  refine hK.out _ _ ?_
  try simp only [Act.put, List.setIfInBounds_toArray, List.set_cons_zero, List.set_cons_succ]
  clear q0 q1 q2 q3 q4 qf hK
  refine anyG_done (by kernel_rfl) ?_ _
  have hP8 := hP7.put ⟨A1, c1, base, t, A2, c2, ops, A3, c3, us, A4, c4, now⟩ 4 (.slice A4 now.length c4) rfl
  have hg8 := by_cell2 hg7 4 (.slice A4 now.length c4)
  have hR8 := hR7.other n0 4 (.slice A4 now.length c4) hn10
  have hB8 := hB6.grown hg8 hB6.size (fun j e => by have := Option.some.inj e; have := HN.out; omega)
  have hf1' : Frs W.heap.size A1 := hf1
  have h81 : SlV plE ((W6.setCell ⟨n0, 3, none⟩ (.slice A3 us.length c3)).setCell ⟨n0, 4, none⟩ (.slice A4 now.length c4)) A1 c1 base := hS41.keep hf1 hg8 hl0
  have h82 := hS42.keep hf2 hg8 hl1'
  have h83 := hS3.keep hf3 hg8 hl0w
  have h84 := hS4.keep hf4 hg8 hl5
  have hlz : n1 < W.heap.size ∧ n1 < W1.heap.size := by
    refine ⟨?_, ?_⟩
    · exact hlW.1
    · exact hlW.2
  generalize (W6.setCell ⟨n0, 3, none⟩ (.slice A3 us.length c3)).setCell ⟨n0, 4, none⟩ (.slice A4 now.length c4) = V8 at *
  clear hg7 hg8 hP7 hR7
  have HW := Lib.hid (show w.heap.size ≤ W.heap.size ∧ w.heap.size ≤ W1.heap.size ∧ w.heap.size ≤ V.heap.size ∧ w.heap.size ≤ W5.heap.size from ⟨hwW.1, hwW.2, hB.size, by have := hB.size; have := hb5.size; omega⟩)
  go_wp2_with (first | (refine El.load pwRow rfl _ rfl n0 0 rfl ⟨A1, c1, base, t, A2, c2, ops, A3, c3, us, A4, c4, now⟩ hP8.at #[.slice A1 base.length c1, .int .i64 t, .slice A2 ops.length c2, .slice A3 us.length c3, .slice A4 now.length c4] rfl ?_) | (refine El.store pwRow rfl _ _ rfl n1 ⟨A1, c1, base, t, A2, c2, ops, A3, c3, us, A4, c4, now⟩ #[.slice A1 base.length c1, .int .i64 t, .slice A2 ops.length c2, .slice A3 us.length c3, .slice A4 now.length c4] rfl rfl rfl Pw.zero hR8 ?_))
  refine El.ret1 pwRow (hR8.set ⟨A1, c1, base, t, A2, c2, ops, A3, c3, us, A4, c4, now⟩ #[.slice A1 base.length c1, .int .i64 t, .slice A2 ops.length c2, .slice A3 us.length c3, .slice A4 now.length c4] rfl) rfl rfl rfl #[.slice A1 base.length c1, .int .i64 t, .slice A2 ops.length c2, .slice A3 us.length c3, .slice A4 now.length c4] rfl ?_
  have hw1 : w.heap.size ≤ n1 := by have := HN.out; omega
  have hgz := by_row V8 n1 #[.slice A1 base.length c1, .int .i64 t, .slice A2 ops.length c2, .slice A3 us.length c3, .slice A4 now.length c4]
  exact ⟨⟨A1, c1, base, t, A2, c2, ops, A3, c3, us, A4, c4, now⟩, rfl, ⟨h81.keep hf1 hgz hlz.1, h82.keep hf2 hgz hlz.2, h83.keep hf3 hgz hl1w, h84.keep hf4 hgz hl51⟩, rfl, ⟨hf1.mono HW.out.1, hf2.mono HW.out.2.1, hf3.mono HW.out.2.2.1, hf4.mono HW.out.2.2.2⟩, below_setRow hB8 hw1 _⟩
end Go.Proofs.Ytoidondngoljaaa

/- Moves undone from the last one on. -/
namespace Go.Proofs.Ytoidondngoljaaa
open Go.RowKit Tre Cod Pst

theorem undo_at {base : List Pl} (hs : Sorted base) (o : List Mv) (j : Nat) (h : j < o.length) :
    ∃ u, (foldL base (mvs o)).2[j]? = some u ∧ backL (fold1 base o (j + 1)) o[j].K u = fold1 base o j := by
  have hm : j < (mvs o).length := by rw [mvs_len]; exact h
  have e : (mvs o)[j]'hm = mvPl o[j] := List.getElem_map mvPl
  refine ⟨_, foldL_un base (mvs o) j hm, ?_⟩
  have h2 := foldL_undo hs (mvs o) j hm
  unfold fold1
  rw [← mvs_take, ← mvs_take]
  rw [e] at h2 ⊢
  exact h2

set_option maxRecDepth 100000 in
set_option maxHeartbeats 4000000 in
theorem undone_any (A : Option Addr) (c : Nat) (base now : List Pl) (O : Option Addr) (oc : Nat) (o : List Mv) (U : Option Addr) (uc : Nat) (us : List Un) (w : World) (hl : base.length + o.length ≤ 890) (hs : Sorted base)
    (hnow : now = (foldL base (mvs o)).1) (hus : us = (foldL base (mvs o)).2) (hT : SlV plE w A c now) (hO : opE.Sl w O o) (hU : unE.Sl w U us) :
    Calls Try.prog 37 #[.slice A now.length c, .slice O o.length oc, .slice U us.length uc] w fun e w' => ∃ A' c', e = .returned (.slice A' base.length c') ∧ SlV plE w' A' c' base ∧ Below w.heap.size w w' := by
  have hul : us.length = o.length := by rw [hus, foldL_len, mvs_len]
  have hUN := fun j h => undo_at hs o j h
  rw [← hus] at hUN
  have hn0 : now = fold1 base o o.length := by rw [fold1_all]; exact hnow
  have HUN := Lib.hid hUN
  have HUL := Lib.hid hul
  clear hnow hus hUN hul
  subst hn0
  go_enter Try.func37, Try.ntmps37
  go_wp2
  go_loopw [0, 7] (fun x y wr => ∃ (k : Nat) (z : Int) (A' : Option Addr) (c' : Nat), k ≤ o.length ∧ z + 1 = k ∧ y = .int .i64 z ∧ x = .slice A' (fold1 base o k).length c' ∧ SlV plE wr A' c' (fold1 base o k) ∧ Below w.heap.size w wr) (fun _ y _ => (intOf y + 1).toNat)
  case atStart => exact ⟨o.length, (o.length : Int) - 1, A, c, Nat.le_refl _, by omega, by go_num, rfl, hT, Below.refl _ _⟩
  case round =>
    clear hT
    obtain ⟨k, z, A', c', hk, hz, rfl, rfl, hS, hB⟩ := hrel
    by_cases hpos : 0 ≤ z
    · obtain ⟨j, rfl⟩ : ∃ j : Nat, z = j := ⟨z.toNat, by omega⟩
      obtain rfl : k = j + 1 := by omega
      obtain ⟨b, off, rfl, hbw, hc⟩ := hO (by omega)
      obtain ⟨b2, off2, rfl, hbw2, hc2⟩ := hU (by rw [HUL.out]; omega)
      have hju : j < us.length := by rw [HUL.out]; omega
      have hat : opE.At wr b (off + j * 7) _ := (hc j (by omega)).below hB hbw
      have hat2 : unE.At wr b2 (off2 + j * 5) _ := (hc2 j hju).below hB hbw2
      obtain ⟨u, hu, hback⟩ := HUN.out j (by omega)
      have hu2 : us[j] = u := by rw [List.getElem?_eq_getElem hju] at hu; exact Option.some.inj hu
      obtain ⟨m, hm⟩ : ∃ m, o[j] = m := ⟨_, rfl⟩
      rw [hm] at hat hback
      rw [hu2] at hat2
      have hl1 := fold1_len base o (j + 1)
      have hs1 := fold1_sorted hs o (j + 1)
      have CB := fun (wx : World) (hx : Below wr.heap.size wr wx) => back_any A' c' (fold1 base o (j + 1)) m u wx (by omega) hs1 (hS.below hx)
      rw [hback] at CB
      have HCB := Lib.hid CB
      have hbw' : b < wr.heap.size := Nat.lt_of_lt_of_le hbw hB.size
      have hbw2' : b2 < wr.heap.size := Nat.lt_of_lt_of_le hbw2 hB.size
      have HB := Lib.hid hB
      have hjl : j < o.length := by omega
      clear CB hback hl1 hs1 hc hc2 hm hu hu2 hS hz
      generalize fold1 base o (j + 1) = T1 at *
      go_wp2_with fail
      replace hat : opE.At wr.drew b (off + j * 7) m := hat
      replace hat2 : unE.At wr.drew b2 (off2 + j * 5) u := hat2
      have hdr : Below wr.heap.size wr wr.drew := (Below.refl _ wr).drew
      go_region_held3 (fun w' => (w'.cell? ⟨b, off + j * 7, none⟩ = some (.int .i64 m.C) ∧ w'.cell? ⟨b, off + j * 7 + 1, none⟩ = some (.int .i64 m.D) ∧ w'.cell? ⟨b, off + j * 7 + 2, none⟩ = some (.int .i64 m.I) ∧ w'.cell? ⟨b, off + j * 7 + 3, none⟩ = some (.int .i64 m.M) ∧ w'.cell? ⟨b, off + j * 7 + 4, none⟩ = some (.int .i64 m.K) ∧ w'.cell? ⟨b, off + j * 7 + 5, none⟩ = some (.int .i64 m.U) ∧ w'.cell? ⟨b, off + j * 7 + 6, none⟩ = some (.string m.s)) ∧ (w'.cell? ⟨b2, off2 + j * 5, none⟩ = some (.int .i64 u.was.n) ∧ w'.cell? ⟨b2, off2 + j * 5 + 1, none⟩ = some (.int .i64 u.was.u) ∧ w'.cell? ⟨b2, off2 + j * 5 + 2, none⟩ = some (.string u.was.s) ∧ w'.cell? ⟨b2, off2 + j * 5 + 3, none⟩ = some (.bool u.had) ∧ w'.cell? ⟨b2, off2 + j * 5 + 4, none⟩ = some (.bool u.did))) (with_reducible first | exact ⟨opAt hat, unAt hat2⟩ | exact ⟨opAt hat5, unAt hat25⟩) (first | (go_at_call 73; (with_reducible refine (HCB.out _ hdr).mono ?_); rintro e w5 ⟨A5, c5, rfl, hS5, hf5, hb5⟩; have hat5 := hat.below hb5 hbw'; have hat25 := hat2.below hb5 hbw2'))
      all_goals
        go_wp2
        go_roundw
        case rel =>
          exact ⟨j, (j : Int) - 1, A5, c5, by omega, by omega, by go_num, rfl, hS5, below_then HB.out (below_then hdr hb5)⟩
        case measure => simp [intOf]
    · obtain rfl : z = -1 := by omega
      obtain rfl : k = 0 := by omega
      rw [fold1_zero] at hS ⊢
      go_wp2
      go_ret
      exact ⟨A', c', rfl, hS, hB⟩
end Go.Proofs.Ytoidondngoljaaa

/- Add of the program: what comes too late, or a second time. -/
namespace Go.Proofs.Ytoidondngoljaaa
open Go.RowKit Tre Cod Pst

set_option maxRecDepth 100000 in
set_option maxHeartbeats 4000000 in
theorem pAdd_late (x : Pw) (m : Mv) (w : World) (hx : PastOk w x) (hI : PInv x.v) (hl : x.ops.length ≤ 200) (h : has Mv.C Mv.D x.ops m = true ∨ (has Mv.C Mv.D x.ops m = false ∧ m.C ≤ x.t)) :
    Calls Try.prog 12 #[.agg #[.slice x.bA x.base.length x.bc, .int .i64 x.t, .slice x.oA x.ops.length x.oc, .slice x.uA x.us.length x.uc, .slice x.wA x.now.length x.wc], .agg #[.int .i64 m.C, .int .i64 m.D, .int .i64 m.I, .int .i64 m.M, .int .i64 m.K, .int .i64 m.U, .string m.s]] w fun e w' => ∃ y : Pw, e = .returned (.tuple #[.agg #[.slice y.bA y.base.length y.bc, .int .i64 y.t, .slice y.oA y.ops.length y.oc, .slice y.uA y.us.length y.uc, .slice y.wA y.now.length y.wc], .bool (addV x.v m).2]) ∧ PastOk w' y ∧ y.v = (addV x.v m).1 ∧ Below w.heap.size w w' := by
  have ha : addV x.v m = (x.v, false) := by
    rcases h with h | h
    · by_cases h1 : m.C ≤ x.t
      · exact addV_late' h1
      · exact addV_same' h1 h
    · exact addV_late' h.2
  have hl1 : x.base.length ≤ 62 := tree_len hI.tree
  have hl4 : x.now.length ≤ 62 := tree_len hI.ntree
  have hl3 : x.us.length = x.ops.length := hI.ulen
  have hI' : Ris Mv.C Mv.D x.ops := hI.ris
  rw [ha]
  obtain ⟨bA, bc, base, t, oA, oc, ops, uA, uc, us, wA, wc, now⟩ := x
  simp only at hl h hl1 hl3 hl4 hI'
  have HU := Lib.hid hl3
  clear ha hl3 hI
  rcases h with h | ⟨h, ht⟩
  · skip
    have hP : pwE.In (((w.alloc (.cells #[.slice bA base.length bc, .int .i64 t, .slice oA ops.length oc, .slice uA us.length uc, .slice wA now.length wc] 29)).alloc (.cells #[.int .i64 m.C, .int .i64 m.D, .int .i64 m.I, .int .i64 m.M, .int .i64 m.K, .int .i64 m.U, .string m.s] 35)).alloc (.cells #[.slice none 0 0, .int .i64 0, .slice none 0 0, .slice none 0 0, .slice none 0 0] 29)) w.heap.size (⟨bA, bc, base, t, oA, oc, ops, uA, uc, us, wA, wc, now⟩ : Pw) := ((El.In.new (E := pwE) w (⟨bA, bc, base, t, oA, oc, ops, uA, uc, us, wA, wc, now⟩ : Pw) _ rfl).alloc _).alloc _
    have hO : opE.In (((w.alloc (.cells #[.slice bA base.length bc, .int .i64 t, .slice oA ops.length oc, .slice uA us.length uc, .slice wA now.length wc] 29)).alloc (.cells #[.int .i64 m.C, .int .i64 m.D, .int .i64 m.I, .int .i64 m.M, .int .i64 m.K, .int .i64 m.U, .string m.s] 35)).alloc (.cells #[.slice none 0 0, .int .i64 0, .slice none 0 0, .slice none 0 0, .slice none 0 0] 29)) (w.heap.size + 1) m := by
      have h := (El.In.new (E := opE) (w.alloc (.cells #[.slice bA base.length bc, .int .i64 t, .slice oA ops.length oc, .slice uA us.length uc, .slice wA now.length wc] 29)) m #[.int .i64 m.C, .int .i64 m.D, .int .i64 m.I, .int .i64 m.M, .int .i64 m.K, .int .i64 m.U, .string m.s] rfl).alloc (.cells #[.slice none 0 0, .int .i64 0, .slice none 0 0, .slice none 0 0, .slice none 0 0] 29)
      rw [alloc_size] at h; exact h
    have hR : pwE.In (((w.alloc (.cells #[.slice bA base.length bc, .int .i64 t, .slice oA ops.length oc, .slice uA us.length uc, .slice wA now.length wc] 29)).alloc (.cells #[.int .i64 m.C, .int .i64 m.D, .int .i64 m.I, .int .i64 m.M, .int .i64 m.K, .int .i64 m.U, .string m.s] 35)).alloc (.cells #[.slice none 0 0, .int .i64 0, .slice none 0 0, .slice none 0 0, .slice none 0 0] 29)) (w.heap.size + 2) Pw.zero := by
      have h := El.In.new (E := pwE) ((w.alloc (.cells #[.slice bA base.length bc, .int .i64 t, .slice oA ops.length oc, .slice uA us.length uc, .slice wA now.length wc] 29)).alloc (.cells #[.int .i64 m.C, .int .i64 m.D, .int .i64 m.I, .int .i64 m.M, .int .i64 m.K, .int .i64 m.U, .string m.s] 35)) Pw.zero #[.slice none 0 0, .int .i64 0, .slice none 0 0, .slice none 0 0, .slice none 0 0] rfl
      rw [alloc_size, alloc_size] at h; exact h
    have hB := below_alloc (below_alloc (below_alloc (Below.refl w.heap.size w) (.cells #[.slice bA base.length bc, .int .i64 t, .slice oA ops.length oc, .slice uA us.length uc, .slice wA now.length wc] 29)) (.cells #[.int .i64 m.C, .int .i64 m.D, .int .i64 m.I, .int .i64 m.M, .int .i64 m.K, .int .i64 m.U, .string m.s] 35)) (.cells #[.slice none 0 0, .int .i64 0, .slice none 0 0, .slice none 0 0, .slice none 0 0] 29)
    have HL := Lib.hid hx
    have hx0 := hx.below hB
    have CF := pfind_any oA oc ops m (((w.alloc (.cells #[.slice bA base.length bc, .int .i64 t, .slice oA ops.length oc, .slice uA us.length uc, .slice wA now.length wc] 29)).alloc (.cells #[.int .i64 m.C, .int .i64 m.D, .int .i64 m.I, .int .i64 m.M, .int .i64 m.K, .int .i64 m.U, .string m.s] 35)).alloc (.cells #[.slice none 0 0, .int .i64 0, .slice none 0 0, .slice none 0 0, .slice none 0 0] 29)) hI' (by omega) hx0.o.1
    clear hx hx0
    go_enter Try.func12, Try.ntmps12
    go_wp2_with fail
    generalize ((w.alloc (.cells #[.slice bA base.length bc, .int .i64 t, .slice oA ops.length oc, .slice uA us.length uc, .slice wA now.length wc] 29)).alloc (.cells #[.int .i64 m.C, .int .i64 m.D, .int .i64 m.I, .int .i64 m.M, .int .i64 m.K, .int .i64 m.U, .string m.s] 35)).alloc (.cells #[.slice none 0 0, .int .i64 0, .slice none 0 0, .slice none 0 0, .slice none 0 0] 29) = W at *
    obtain ⟨n2, h2⟩ : ∃ n, w.heap.size + 2 = n := ⟨_, rfl⟩
    obtain ⟨n1, h1⟩ : ∃ n, w.heap.size + 1 = n := ⟨_, rfl⟩
    obtain ⟨n0, h0⟩ : ∃ n, w.heap.size = n := ⟨_, rfl⟩
    have HN := Lib.hid (show w.heap.size ≤ n0 ∧ n1 = n0 + 1 ∧ n2 = n0 + 2 by omega)
    have hn20 : n2 ≠ n0 := by omega
    try rw [show w.heap.size + 1 + 1 = n2 by omega]
    rw [h2] at hR
    rw [h1] at hO ⊢
    rw [h0] at hP ⊢
    try rw [h2]
    clear h0 h1 h2
    refine CF.mono ?_
    rintro e W1 ⟨rfl, hb⟩
    clear CF
    replace hP := hP.below hb
    replace hO := hO.below hb
    replace hR := hR.below hb
    replace hB := hB.trans (hb.mono (by have := hB.size; omega))
    clear hb
    obtain ⟨p0, p1, p2, p3, p4⟩ := pwIn5 hP
    obtain ⟨o0, o1, o2, o3, o4, o5, o6⟩ := opIn7 hO
    rw [h]
    clear p0 p1 p2 p3 p4 o0 o1 o2 o3 o4 o5 o6
    have hx1 := HL.out.below hB
    have CS := psame_any (⟨bA, bc, base, t, oA, oc, ops, uA, uc, us, wA, wc, now⟩ : Pw) W1 hx1 (by simp only; omega) (by simp only; omega) (by simp only; rw [HU.out]; omega) (by simp only; omega)
    simp only at CS
    have HCS := Lib.hid CS
    clear CS
    go_wp2_with (first | (refine El.load pwRow rfl _ rfl n0 0 rfl (⟨bA, bc, base, t, oA, oc, ops, uA, uc, us, wA, wc, now⟩ : Pw) hP.at #[.slice bA base.length bc, .int .i64 t, .slice oA ops.length oc, .slice uA us.length uc, .slice wA now.length wc] rfl ?_) | (go_at_call 34; (with_reducible refine HCS.out.mono ?_); rintro e W2 ⟨y, rfl, hy, hyv, hyf, hb2⟩; have hR2 := hR.below hb2) | (refine El.store pwRow rfl _ _ rfl n2 y #[.slice y.bA y.base.length y.bc, .int .i64 y.t, .slice y.oA y.ops.length y.oc, .slice y.uA y.us.length y.uc, .slice y.wA y.now.length y.wc] rfl rfl rfl Pw.zero hR2 ?_))
    refine El.ret2 pwRow (v := .bool false) (hR2.set y #[.slice y.bA y.base.length y.bc, .int .i64 y.t, .slice y.oA y.ops.length y.oc, .slice y.uA y.us.length y.uc, .slice y.wA y.now.length y.wc] rfl) rfl rfl rfl rfl #[.slice y.bA y.base.length y.bc, .int .i64 y.t, .slice y.oA y.ops.length y.oc, .slice y.uA y.us.length y.uc, .slice y.wA y.now.length y.wc] rfl ?_
    have hw2 : w.heap.size ≤ n2 := by have := HN.out; omega
    have hB2 := hB.trans (hb2.mono (by have := hB.size; omega))
    have hl2 := hR.lt
    exact ⟨y, rfl, hy.keep hyf (by_row _ _ _) hl2, hyv, below_setRow hB2 hw2 _⟩
  · skip
    have hP : pwE.In (((w.alloc (.cells #[.slice bA base.length bc, .int .i64 t, .slice oA ops.length oc, .slice uA us.length uc, .slice wA now.length wc] 29)).alloc (.cells #[.int .i64 m.C, .int .i64 m.D, .int .i64 m.I, .int .i64 m.M, .int .i64 m.K, .int .i64 m.U, .string m.s] 35)).alloc (.cells #[.slice none 0 0, .int .i64 0, .slice none 0 0, .slice none 0 0, .slice none 0 0] 29)) w.heap.size (⟨bA, bc, base, t, oA, oc, ops, uA, uc, us, wA, wc, now⟩ : Pw) := ((El.In.new (E := pwE) w (⟨bA, bc, base, t, oA, oc, ops, uA, uc, us, wA, wc, now⟩ : Pw) _ rfl).alloc _).alloc _
    have hO : opE.In (((w.alloc (.cells #[.slice bA base.length bc, .int .i64 t, .slice oA ops.length oc, .slice uA us.length uc, .slice wA now.length wc] 29)).alloc (.cells #[.int .i64 m.C, .int .i64 m.D, .int .i64 m.I, .int .i64 m.M, .int .i64 m.K, .int .i64 m.U, .string m.s] 35)).alloc (.cells #[.slice none 0 0, .int .i64 0, .slice none 0 0, .slice none 0 0, .slice none 0 0] 29)) (w.heap.size + 1) m := by
      have h := (El.In.new (E := opE) (w.alloc (.cells #[.slice bA base.length bc, .int .i64 t, .slice oA ops.length oc, .slice uA us.length uc, .slice wA now.length wc] 29)) m #[.int .i64 m.C, .int .i64 m.D, .int .i64 m.I, .int .i64 m.M, .int .i64 m.K, .int .i64 m.U, .string m.s] rfl).alloc (.cells #[.slice none 0 0, .int .i64 0, .slice none 0 0, .slice none 0 0, .slice none 0 0] 29)
      rw [alloc_size] at h; exact h
    have hR : pwE.In (((w.alloc (.cells #[.slice bA base.length bc, .int .i64 t, .slice oA ops.length oc, .slice uA us.length uc, .slice wA now.length wc] 29)).alloc (.cells #[.int .i64 m.C, .int .i64 m.D, .int .i64 m.I, .int .i64 m.M, .int .i64 m.K, .int .i64 m.U, .string m.s] 35)).alloc (.cells #[.slice none 0 0, .int .i64 0, .slice none 0 0, .slice none 0 0, .slice none 0 0] 29)) (w.heap.size + 2) Pw.zero := by
      have h := El.In.new (E := pwE) ((w.alloc (.cells #[.slice bA base.length bc, .int .i64 t, .slice oA ops.length oc, .slice uA us.length uc, .slice wA now.length wc] 29)).alloc (.cells #[.int .i64 m.C, .int .i64 m.D, .int .i64 m.I, .int .i64 m.M, .int .i64 m.K, .int .i64 m.U, .string m.s] 35)) Pw.zero #[.slice none 0 0, .int .i64 0, .slice none 0 0, .slice none 0 0, .slice none 0 0] rfl
      rw [alloc_size, alloc_size] at h; exact h
    have hB := below_alloc (below_alloc (below_alloc (Below.refl w.heap.size w) (.cells #[.slice bA base.length bc, .int .i64 t, .slice oA ops.length oc, .slice uA us.length uc, .slice wA now.length wc] 29)) (.cells #[.int .i64 m.C, .int .i64 m.D, .int .i64 m.I, .int .i64 m.M, .int .i64 m.K, .int .i64 m.U, .string m.s] 35)) (.cells #[.slice none 0 0, .int .i64 0, .slice none 0 0, .slice none 0 0, .slice none 0 0] 29)
    have HL := Lib.hid hx
    have hx0 := hx.below hB
    have CF := pfind_any oA oc ops m (((w.alloc (.cells #[.slice bA base.length bc, .int .i64 t, .slice oA ops.length oc, .slice uA us.length uc, .slice wA now.length wc] 29)).alloc (.cells #[.int .i64 m.C, .int .i64 m.D, .int .i64 m.I, .int .i64 m.M, .int .i64 m.K, .int .i64 m.U, .string m.s] 35)).alloc (.cells #[.slice none 0 0, .int .i64 0, .slice none 0 0, .slice none 0 0, .slice none 0 0] 29)) hI' (by omega) hx0.o.1
    clear hx hx0
    go_enter Try.func12, Try.ntmps12
    go_wp2_with fail
    generalize ((w.alloc (.cells #[.slice bA base.length bc, .int .i64 t, .slice oA ops.length oc, .slice uA us.length uc, .slice wA now.length wc] 29)).alloc (.cells #[.int .i64 m.C, .int .i64 m.D, .int .i64 m.I, .int .i64 m.M, .int .i64 m.K, .int .i64 m.U, .string m.s] 35)).alloc (.cells #[.slice none 0 0, .int .i64 0, .slice none 0 0, .slice none 0 0, .slice none 0 0] 29) = W at *
    obtain ⟨n2, h2⟩ : ∃ n, w.heap.size + 2 = n := ⟨_, rfl⟩
    obtain ⟨n1, h1⟩ : ∃ n, w.heap.size + 1 = n := ⟨_, rfl⟩
    obtain ⟨n0, h0⟩ : ∃ n, w.heap.size = n := ⟨_, rfl⟩
    have HN := Lib.hid (show w.heap.size ≤ n0 ∧ n1 = n0 + 1 ∧ n2 = n0 + 2 by omega)
    have hn20 : n2 ≠ n0 := by omega
    try rw [show w.heap.size + 1 + 1 = n2 by omega]
    rw [h2] at hR
    rw [h1] at hO ⊢
    rw [h0] at hP ⊢
    try rw [h2]
    clear h0 h1 h2
    refine CF.mono ?_
    rintro e W1 ⟨rfl, hb⟩
    clear CF
    replace hP := hP.below hb
    replace hO := hO.below hb
    replace hR := hR.below hb
    replace hB := hB.trans (hb.mono (by have := hB.size; omega))
    clear hb
    obtain ⟨p0, p1, p2, p3, p4⟩ := pwIn5 hP
    obtain ⟨o0, o1, o2, o3, o4, o5, o6⟩ := opIn7 hO
    rw [h]
    have hx1 := HL.out.below hB
    have CS := psame_any (⟨bA, bc, base, t, oA, oc, ops, uA, uc, us, wA, wc, now⟩ : Pw) W1 hx1 (by simp only; omega) (by simp only; omega) (by simp only; rw [HU.out]; omega) (by simp only; omega)
    simp only at CS
    have HCS := Lib.hid CS
    clear CS
    go_wp2_with (first | (refine El.load pwRow rfl _ rfl n0 0 rfl (⟨bA, bc, base, t, oA, oc, ops, uA, uc, us, wA, wc, now⟩ : Pw) hP.at #[.slice bA base.length bc, .int .i64 t, .slice oA ops.length oc, .slice uA us.length uc, .slice wA now.length wc] rfl ?_) | (go_at_call 34; (with_reducible refine HCS.out.mono ?_); rintro e W2 ⟨y, rfl, hy, hyv, hyf, hb2⟩; have hR2 := hR.below hb2) | (refine El.store pwRow rfl _ _ rfl n2 y #[.slice y.bA y.base.length y.bc, .int .i64 y.t, .slice y.oA y.ops.length y.oc, .slice y.uA y.us.length y.uc, .slice y.wA y.now.length y.wc] rfl rfl rfl Pw.zero hR2 ?_))
    refine El.ret2 pwRow (v := .bool false) (hR2.set y #[.slice y.bA y.base.length y.bc, .int .i64 y.t, .slice y.oA y.ops.length y.oc, .slice y.uA y.us.length y.uc, .slice y.wA y.now.length y.wc] rfl) rfl rfl rfl rfl #[.slice y.bA y.base.length y.bc, .int .i64 y.t, .slice y.oA y.ops.length y.oc, .slice y.uA y.us.length y.uc, .slice y.wA y.now.length y.wc] rfl ?_
    have hw2 : w.heap.size ≤ n2 := by have := HN.out; omega
    have hB2 := hB.trans (hb2.mono (by have := hB.size; omega))
    have hl2 := hR.lt
    exact ⟨y, rfl, hy.keep hyf (by_row _ _ _) hl2, hyv, below_setRow hB2 hw2 _⟩
end Go.Proofs.Ytoidondngoljaaa
