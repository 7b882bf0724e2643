/- Texts laid one behind the other: Wk, Wl, Tc, Td, Te, Wm, Xb, Ea, Qa, Ia, Ib, Gk, Ka, Kb, Kc, Kd, Ke, Kf. -/
import Derived.Test.YtfpgfclmmdihjaaGreatB03
import Derived.Test.YtfpgfclmmdihjaaGreatChecked
import Derived.WalkKit
import Derived.Lib.Hide
import Derived.KernelRfl
import Derived.Handy
import Derived.BigQuiet
import Derived.Deep.QuietTactic
import Derived.Laws.IdiomStrings
import Derived.Lib.SmallJoins
/- Whether operations may be, rise, and come behind a counter: rightOps of the program. -/
namespace Go.Proofs.YtfpgfclmmdihjaaGreat
open Go.RowKit Tre Cod Pst

/-- The first k may be, rise, and come behind t. -/
def OpsTo (l : List Mv) (t : Int) (k : Nat) : Prop := ∀ i (h : i < l.length), i < k → l[i].ok ∧ t < l[i].C ∧ ∀ (h0 : 0 < i), bef Mv.C Mv.D (l[i - 1]'(by omega)) l[i]
def OpsR (l : List Mv) (t : Int) : Prop := OpsTo l t l.length
theorem OpsTo.zero (l : List Mv) (t : Int) : OpsTo l t 0 := fun i h hi => by omega
theorem OpsTo.next {l : List Mv} {t : Int} {k : Nat} (h : OpsTo l t k) (hk : k < l.length) (h1 : l[k].ok) (h2 : t < l[k].C) (h3 : ∀ (h0 : 0 < k), bef Mv.C Mv.D (l[k - 1]'(by omega)) l[k]) : OpsTo l t (k + 1) := fun i hi hik => by
  by_cases e : i = k
  · subst e; exact ⟨h1, h2, h3⟩
  · exact h i hi (by omega)
theorem OpsR.at {l : List Mv} {t : Int} (h : OpsR l t) (k : Nat) (hk : k < l.length) : l[k].ok ∧ t < l[k].C ∧ ∀ (h0 : 0 < k), bef Mv.C Mv.D (l[k - 1]'(by omega)) l[k] := h k hk hk

theorem false_of_not {b : Bool} {P : Prop} (h : b = true ↔ P) (hn : ¬ P) : b = false := by
  cases b
  · rfl
  · exact absurd (h.1 rfl) hn
theorem bool_for (P : Prop) : ∃ b : Bool, b = true ↔ P := by
  by_cases h : P
  · exact ⟨true, fun _ => h, fun _ => rfl⟩
  · exact ⟨false, fun e => (by cases e), fun k => absurd k h⟩

set_option maxRecDepth 100000 in
set_option maxHeartbeats 4000000 in
theorem rightOps_any (A : Option Addr) (c : Nat) (l : List Mv) (t : Int) (w : World) (hl : l.length ≤ 50000) (hsz : ∀ m ∈ l, m.s.size ≤ 9223372036854775807) (hT : opE.Sl w A l) (bv : Bool) (hbv : bv = true ↔ OpsR l t) :
    Calls Tryz.prog 39 #[.slice A l.length c, .int .i64 t] w fun e w' => e = .returned (.bool bv) ∧ Below w.heap.size w w' := by
  have HV := Lib.hid hbv
  clear hbv
  go_enter Tryz.func39, Tryz.ntmps39
  go_wp2
  go_loopw [9] (fun y wr => ∃ k : Nat, k ≤ l.length ∧ y = .int .i64 k ∧ OpsTo l t k ∧ Below w.heap.size w wr) (fun y _ => l.length - (intOf y).toNat)
  case atStart => exact ⟨0, Nat.zero_le _, rfl, OpsTo.zero l t, Below.refl _ _⟩
  case round =>
    obtain ⟨k, hk, rfl, hto, hnx⟩ := hrel
    by_cases hkl : k < l.length
    · obtain ⟨b, off, rfl, hbw, hc⟩ := hT (by omega)
      have hat : opE.At wr b (off + k * 7) l[k] := (hc k hkl).below hnx hbw
      have hprev : ∀ (h0 : 0 < k), opE.At wr b (off + (k - 1) * 7) (l[k - 1]'(by omega)) := fun h0 => (hc (k - 1) (by omega)).below hnx hbw
      have hms : l[k].s.size ≤ 9223372036854775807 := hsz _ (List.getElem_mem _)
      have HNK := Lib.hid (fun (h : OpsR l t) => h.at k hkl)
      have HT := Lib.hid hto
      obtain ⟨mk, hmk⟩ : ∃ mk, l[k] = mk := ⟨_, rfl⟩
      rw [hmk] at hat hms HNK
      have hb1 : Below wr.heap.size wr ((wr.alloc (.cells #[.int .i64 0, .int .i64 0, .int .i64 0, .int .i64 0, .int .i64 0, .int .i64 0, .string ⟨#[]⟩] 102)).setRow wr.heap.size #[.int .i64 mk.C, .int .i64 mk.D, .int .i64 mk.I, .int .i64 mk.M, .int .i64 mk.K, .int .i64 mk.U, .string mk.s]) := below_setRow (below_alloc (Below.refl _ _) _) (Nat.le_refl _) _
      have hI : opE.In ((wr.alloc (.cells #[.int .i64 0, .int .i64 0, .int .i64 0, .int .i64 0, .int .i64 0, .int .i64 0, .string ⟨#[]⟩] 102)).setRow wr.heap.size #[.int .i64 mk.C, .int .i64 mk.D, .int .i64 mk.I, .int .i64 mk.M, .int .i64 mk.K, .int .i64 mk.U, .string mk.s]) wr.heap.size mk := (El.In.new (E := opE) wr zeroMv #[.int .i64 0, .int .i64 0, .int .i64 0, .int .i64 0, .int .i64 0, .int .i64 0, .string ⟨#[]⟩] rfl).set mk #[.int .i64 mk.C, .int .i64 mk.D, .int .i64 mk.I, .int .i64 mk.M, .int .i64 mk.K, .int .i64 mk.U, .string mk.s] rfl
      have hz : opE.In (wr.alloc (.cells #[.int .i64 0, .int .i64 0, .int .i64 0, .int .i64 0, .int .i64 0, .int .i64 0, .string ⟨#[]⟩] 102)) wr.heap.size zeroMv := El.In.new (E := opE) wr zeroMv #[.int .i64 0, .int .i64 0, .int .i64 0, .int .i64 0, .int .i64 0, .int .i64 0, .string ⟨#[]⟩] rfl
      have hbr := Nat.lt_of_lt_of_le hbw hnx.size
      have hprev2 := fun h0 => (hprev h0).below hb1 hbr
      go_wp2_with (first | (refine El.load opRow rfl _ rfl b (off + k * 7) rfl mk hat #[.int .i64 mk.C, .int .i64 mk.D, .int .i64 mk.I, .int .i64 mk.M, .int .i64 mk.K, .int .i64 mk.U, .string mk.s] rfl ?_) | (refine El.store opRow rfl _ _ rfl wr.heap.size mk #[.int .i64 mk.C, .int .i64 mk.D, .int .i64 mk.I, .int .i64 mk.M, .int .i64 mk.K, .int .i64 mk.U, .string mk.s] rfl rfl rfl zeroMv hz ?_))
      try simp only [Act.put, List.setIfInBounds_toArray, List.set_cons_zero, List.set_cons_succ]
      have HBW := Lib.hid (below_then hnx hb1)
      generalize (wr.alloc (.cells #[.int .i64 0, .int .i64 0, .int .i64 0, .int .i64 0, .int .i64 0, .int .i64 0, .string ⟨#[]⟩] 102)).setRow wr.heap.size #[.int .i64 mk.C, .int .i64 mk.D, .int .i64 mk.I, .int .i64 mk.M, .int .i64 mk.K, .int .i64 mk.U, .string mk.s] = W at *
      generalize wr.heap.size = n0 at *
      obtain ⟨o0, o1, o2, o3, o4, o5, o6⟩ := opIn7 hI
      have k0 := cell_regrown o0
      have k1 := cell_regrown o1
      have k2 := cell_regrown o2
      have k3 := cell_regrown o3
      have k4 := cell_regrown o4
      have k5 := cell_regrown o5
      have k6 := cell_regrown o6
      obtain ⟨r, hr⟩ : ∃ r, opB mk.C mk.D mk.I mk.M mk.K mk.U mk.s = r := ⟨_, rfl⟩
      have CR := fun w => opRight_any mk.C mk.D mk.I mk.M mk.K mk.U mk.s w hms
      rw [hr] at CR
      have HCR := Lib.hid CR
      have HR := Lib.hid hr
      have HTO := Lib.hid hto
      have d1 : ∀ d os, Calls Tryz.prog 63 #[.agg #[.int .i64 mk.C, .int .i64 mk.D, .int .i64 mk.I, .int .i64 mk.M, .int .i64 mk.K, .int .i64 mk.U, .string mk.s]] (Sort.grow (redrawn W d) os) fun e w'' => e = .returned (.bool r) ∧ ∃ p : Regrown, w'' = Sort.grow (redrawn W p.d) p.os := fun d os => Calls.regrown_of (HCR.out _)
      have d2 : ∀ d os, Calls Tryz.prog 63 #[.agg #[.int .i64 mk.C, .int .i64 mk.D, .int .i64 mk.I, .int .i64 mk.M, .int .i64 mk.K, .int .i64 mk.U, .string mk.s]] (Sort.grow (redrawn W d) os) fun e w'' => e = .returned (.bool r) ∧ ∃ p : Regrown, w'' = Sort.grow (redrawn W p.d) p.os := d1
      have HMK := Lib.hid hmk
      have HPV := Lib.hid hprev2
      clear o0 o1 o2 o3 o4 o5 o6 CR hr hat hprev hprev2 hc hmk hI hb1 hto HCR
      cases r
      · have HNO := Lib.hid (show ¬ OpsR l t from fun h => by have := (HNK.out h).1; unfold Mv.ok at this; rw [HR.out] at this; cases this)
        refine wp_region_quiet_below (by kernel_rfl) (by kernel_rfl) ?_
        repeat (go_big_quiet_step ((with_reducible (first | exact d1 _ _ | exact d2 _ _))))
        refine wpQuiet_nil ?_
        intro _ hw'
        obtain ⟨⟨dq, osq⟩, hw''⟩ := hw'
        subst hw''
        have hq := below_regrown W dq osq
        generalize Sort.grow (redrawn W dq) osq = W1 at *
        go_wp2_with fail
        go_ret
        exact ⟨by rw [false_of_not HV.out HNO.out]; rfl, HBW.out.trans (hq.mono HBW.out.size)⟩
      · have HOK := Lib.hid (show mk.ok from HR.out)
        by_cases htc : t < mk.C
        · have HTC := Lib.hid htc
          have hdc : decide (mk.C ≤ t) = false := decide_eq_false (by omega)
          by_cases h0 : k = 0
          · subst h0
            have HBF := Lib.hid (fun (h0 : 0 < 0) => (absurd h0 (Nat.lt_irrefl 0) : bef Mv.C Mv.D (l[0 - 1]'(by omega)) mk))
            refine wp_region_quiet_below (by kernel_rfl) (by kernel_rfl) ?_
            repeat (go_big_quiet_step ((with_reducible (first | exact d1 _ _ | exact d2 _ _))))
            refine wpQuiet_nil ?_
            intro _ hw'
            obtain ⟨⟨dq, osq⟩, hw''⟩ := hw'
            subst hw''
            have hq := below_regrown W dq osq
            generalize Sort.grow (redrawn W dq) osq = W1 at *
            go_wp2_with fail
            go_roundw
            case rel => exact ⟨0 + 1, by omega, by go_num, HT.out.next hkl (by rw [HMK.out]; exact HOK.out) (by rw [HMK.out]; exact HTC.out) (by intro h0; omega), HBW.out.trans (hq.mono HBW.out.size)⟩
            case measure => simp [intOf]; omega
          · obtain ⟨j, rfl⟩ : ∃ j, k = j + 1 := ⟨k - 1, by omega⟩
            have hpv := HPV.out (by omega)
            simp only [Nat.add_sub_cancel] at hpv
            obtain ⟨pv, hpve⟩ : ∃ pv, l[j]'(by omega) = pv := ⟨_, rfl⟩
            rw [hpve] at hpv
            obtain ⟨t0, t1, t2, t3, t4, t5, t6⟩ := opAt hpv
            have k7 := cell_regrown t0
            have k8 := cell_regrown t1
            have C2 := fun w => before_any pv.C pv.D mk.C mk.D w
            obtain ⟨bb, hbb⟩ : ∃ bb, befB pv.C pv.D mk.C mk.D = bb := ⟨_, rfl⟩
            rw [hbb] at C2
            rw [bef_iff] at hbb
            have HC2 := Lib.hid C2
            have HBB := Lib.hid hbb
            have HPE := Lib.hid hpve
            clear t0 t1 t2 t3 t4 t5 t6 C2 hbb hpve hpv d2
            have d2 : ∀ d os, Calls Tryz.prog 64 #[.agg #[.int .i64 pv.C, .int .i64 pv.D], .agg #[.int .i64 mk.C, .int .i64 mk.D]] (Sort.grow (redrawn W d) os) fun e w'' => e = .returned (.bool bb) ∧ ∃ p : Regrown, w'' = Sort.grow (redrawn W p.d) p.os := fun d os => Calls.regrown_of (HC2.out _)
            have hd0 : decide ((0 : Int) < ((j + 1 : Nat) : Int)) = true := decide_eq_true (by omega)
            have hd1 : decide ((0 : Int) < (j : Int) + 1) = true := decide_eq_true (by omega)
            cases bb
            · have HNO := Lib.hid (show ¬ OpsR l t from fun h => of_decide_eq_false HBB.out (by have h9 : bef Mv.C Mv.D (l[j]'(by omega)) mk := (HNK.out h).2.2 (Nat.succ_pos j); rw [HPE.out] at h9; exact h9))
              refine wp_region_quiet_below (by kernel_rfl) (by kernel_rfl) ?_
              repeat (go_big_quiet_step ((with_reducible (first | exact d1 _ _ | exact d2 _ _))))
              refine wpQuiet_nil ?_
              intro _ hw'
              obtain ⟨⟨dq, osq⟩, hw''⟩ := hw'
              subst hw''
              have hq := below_regrown W dq osq
              generalize Sort.grow (redrawn W dq) osq = W1 at *
              go_wp2_with fail
              go_ret
              exact ⟨by rw [false_of_not HV.out HNO.out]; rfl, HBW.out.trans (hq.mono HBW.out.size)⟩
            · have HBF := Lib.hid (show ∀ (h0 : 0 < j + 1), bef Mv.C Mv.D (l[j + 1 - 1]'(by omega)) mk from fun _ => by show bef Mv.C Mv.D (l[j]'(by omega)) mk; rw [HPE.out]; exact of_decide_eq_true HBB.out)
              refine wp_region_quiet_below (by kernel_rfl) (by kernel_rfl) ?_
              repeat (go_big_quiet_step ((with_reducible (first | exact d1 _ _ | exact d2 _ _))))
              refine wpQuiet_nil ?_
              intro _ hw'
              obtain ⟨⟨dq, osq⟩, hw''⟩ := hw'
              subst hw''
              have hq := below_regrown W dq osq
              generalize Sort.grow (redrawn W dq) osq = W1 at *
              go_wp2_with fail
              go_roundw
              case rel => exact ⟨j + 1 + 1, by omega, by go_num, HT.out.next hkl (by rw [HMK.out]; exact HOK.out) (by rw [HMK.out]; exact HTC.out) (by intro h0; rw [HMK.out]; exact HBF.out h0), HBW.out.trans (hq.mono HBW.out.size)⟩
              case measure => simp [intOf]; omega
        · have hdc : decide (mk.C ≤ t) = true := decide_eq_true (by omega)
          have HNO := Lib.hid (show ¬ OpsR l t from fun h => htc (HNK.out h).2.1)
          refine wp_region_quiet_below (by kernel_rfl) (by kernel_rfl) ?_
          repeat (go_big_quiet_step ((with_reducible (first | exact d1 _ _ | exact d2 _ _))))
          refine wpQuiet_nil ?_
          intro _ hw'
          obtain ⟨⟨dq, osq⟩, hw''⟩ := hw'
          subst hw''
          have hq := below_regrown W dq osq
          generalize Sort.grow (redrawn W dq) osq = W1 at *
          go_wp2_with fail
          go_ret
          exact ⟨by rw [false_of_not HV.out HNO.out]; rfl, HBW.out.trans (hq.mono HBW.out.size)⟩
    · obtain rfl : k = l.length := by omega
      go_wp2
      go_ret
      exact ⟨by rw [HV.out.2 hto]; rfl, hnx⟩
end Go.Proofs.YtfpgfclmmdihjaaGreat

/- The library's Equal, of places and of undos. -/
namespace Go.Proofs.YtfpgfclmmdihjaaGreat
open Go.RowKit Tre Cod

end Go.Proofs.YtfpgfclmmdihjaaGreat

/- What may be a tree: of the program. -/
namespace Go.Proofs.YtfpgfclmmdihjaaGreat
open Go.RowKit Tre Nam Cod

theorem okPl_five {n u : Int} {P : Prop} (h1 : ¬ 2 ≤ n → P) (h2 : 2 ≤ n → ¬ n < 64 → P) (h3 : 2 ≤ n → n < 64 → ¬ 0 ≤ u → P) (h4 : 2 ≤ n → n < 64 → 0 ≤ u → ¬ u < 64 → P) (h5 : 2 ≤ n → n < 64 → 0 ≤ u → u < 64 → P) : P := by
  by_cases a : 2 ≤ n
  · by_cases b : n < 64
    · by_cases c : 0 ≤ u
      · by_cases d : u < 64
        · exact h5 a b c d
        · exact h4 a b c d
      · exact h3 a b c
    · exact h2 a b
  · exact h1 a
theorem okPl_false {p : Pl} (h : ¬ (2 ≤ p.n ∧ p.n < 64 ∧ 0 ≤ p.u ∧ p.u < 64)) : okPl p = false := by
  unfold okPl; rw [decide_eq_false h]; rfl
theorem okPl_name {p : Pl} (h : 2 ≤ p.n ∧ p.n < 64 ∧ 0 ≤ p.u ∧ p.u < 64) : okPl p = isName (L p.s) := by
  unfold okPl; rw [decide_eq_true h]; rfl

theorem rightPlace_any (p : Pl) (w : World) (hs : p.s.size ≤ 9223372036854775807) :
    Calls Tryz.prog 93 #[.agg #[.int .i64 p.n, .int .i64 p.u, .string p.s]] w fun e w' => e = .returned (.bool (okPl p)) ∧ Below w.heap.size w w' := by
  have c := fun w => nmRight_any p.s w hs
  refine okPl_five (n := p.n) (u := p.u) ?_ ?_ ?_ ?_ ?_
  · intro h1
    rw [okPl_false (by omega)]
    go_enter Tryz.func93, Tryz.ntmps93
    go_wp2
    go_ret
    exact ⟨rfl, below_alloc (Below.refl _ _) _⟩
  · intro h1 h2
    rw [okPl_false (by omega)]
    go_enter Tryz.func93, Tryz.ntmps93
    go_wp2
    go_ret
    exact ⟨rfl, below_alloc (Below.refl _ _) _⟩
  · intro h1 h2 h3
    rw [okPl_false (by omega)]
    go_enter Tryz.func93, Tryz.ntmps93
    go_wp2
    go_ret
    exact ⟨rfl, below_alloc (Below.refl _ _) _⟩
  · intro h1 h2 h3 h4
    rw [okPl_false (by omega)]
    go_enter Tryz.func93, Tryz.ntmps93
    go_wp2
    go_ret
    exact ⟨rfl, below_alloc (Below.refl _ _) _⟩
  · intro h1 h2 h3 h4
    rw [okPl_name ⟨h1, h2, h3, h4⟩]
    generalize isName (L p.s) = x at *
    have C := Lib.hid c
    clear c
    go_enter Tryz.func93, Tryz.ntmps93
    go_wp2_with (go_at_call 81; (with_reducible refine (C.out _).mono ?_); rintro e w1 ⟨rfl, rfl⟩)
    go_ret
    exact ⟨rfl, below_alloc (Below.refl _ _) _⟩

/-- The places ahead of i may be, and rise. -/
def GoodTo (l : List Pl) (i : Nat) : Prop := ∀ k (h : k < l.length), k < i → okPl l[k] = true ∧ ∀ (h0 : 0 < k), (l[k - 1]'(by omega)).n < l[k].n
theorem goodTo_next {l : List Pl} {i : Nat} (h : GoodTo l i) (hi : i < l.length) (h1 : okPl l[i] = true) (h2 : ∀ (h0 : 0 < i), (l[i - 1]'(by omega)).n < l[i].n) : GoodTo l (i + 1) := by
  intro k hk hlt
  by_cases e : k = i
  · subst e; exact ⟨h1, h2⟩
  · exact h k hk (by omega)
theorem rising_of : ∀ {l : List Pl}, (∀ k (h : k < l.length) (h0 : 0 < k), (l[k - 1]'(by omega)).n < l[k].n) → rising l = true
  | [], _ => rfl
  | [_], _ => rfl
  | p :: q :: l, h => by
    unfold rising
    rw [Bool.and_eq_true, decide_eq_true_iff]
    refine ⟨h 1 (by simp) (by omega), rising_of (l := q :: l) fun k hk h0 => ?_⟩
    have := h (k + 1) (by simpa using hk) (by omega)
    obtain ⟨m, rfl⟩ : ∃ m, k = m + 1 := ⟨k - 1, by omega⟩
    simpa using this
def riseB (l : List Pl) : Bool := l.all okPl && rising l
theorem goodTo_all {l : List Pl} (h : GoodTo l l.length) : riseB l = true := by
  unfold riseB
  rw [Bool.and_eq_true, List.all_eq_true]
  refine ⟨fun p hp => ?_, rising_of fun k hk h0 => (h k hk hk).2 h0⟩
  obtain ⟨k, hk, rfl⟩ := List.getElem_of_mem hp
  exact (h k hk hk).1
theorem goodTo_back {l : List Pl} (h : riseB l = true) : (∀ k (h : k < l.length), okPl l[k] = true) ∧ Sorted l := by
  unfold riseB at h
  rw [Bool.and_eq_true, List.all_eq_true] at h
  exact ⟨fun k hk => h.1 _ (List.getElem_mem hk), rising_sorted h.2⟩
theorem goodTo_bad {l : List Pl} {i : Nat} (hi : i < l.length) (h : ¬ (okPl l[i] = true ∧ ∀ (h0 : 0 < i), (l[i - 1]'(by omega)).n < l[i].n)) : riseB l = false := by
  rcases e : riseB l with _ | _
  · rfl
  · obtain ⟨h1, h2⟩ := goodTo_back e
    exact absurd ⟨h1 i hi, fun h0 => h2 _ _ (by omega) hi (by omega)⟩ h

set_option maxHeartbeats 4000000 in
theorem rising_any (A : Option Addr) (cap : Nat) (l : List Pl) (w : World) (hl : l.length ≤ 1000) (hsz : ∀ p ∈ l, p.s.size ≤ 9223372036854775807) (hT : Tr w A l) :
    Calls Tryz.prog 76 #[.slice A l.length cap] w fun e w' => e = .returned (.bool (riseB l)) ∧ Below w.heap.size w w' := by
  go_enter Tryz.func76, Tryz.ntmps76
  go_wp2
  go_loopw [7] (fun x wr => ∃ k : Nat, k ≤ l.length ∧ x = .int .i64 k ∧ GoodTo l k ∧ Below w.heap.size w wr) (fun x _ => l.length - (intOf x).toNat)
  case atStart => exact ⟨0, Nat.zero_le _, rfl, fun k h hk => by omega, Below.refl _ _⟩
  case round =>
    obtain ⟨k, hk, rfl, hgd, hnx⟩ := hrel
    by_cases hlt : k < l.length
    · obtain ⟨bb, off, rfl, hbw, hc⟩ := hT (by omega)
      have hbr := Nat.lt_of_lt_of_le hbw hnx.size
      have hat := (hc k hlt).below hnx hbw
      obtain ⟨p, hp⟩ : ∃ p, l[k] = p := ⟨_, rfl⟩
      have c := fun w => rightPlace_any p w (hsz p (hp ▸ List.getElem_mem hlt))
      have hbad := goodTo_bad hlt
      have hnext := goodTo_next hgd hlt
      rw [hp] at hat hbad hnext
      have hprev : ∀ h0 : 0 < k, AtPl wr bb (off + (k - 1) * 3) (l[k - 1]'(by omega)) := fun h0 => (hc (k - 1) (by omega)).below hnx hbw
      obtain ⟨q0, q1, q2⟩ := hat
      have HG := Lib.hid hgd
      have HB := Lib.hid hbad
      have HN := Lib.hid hnext
      clear hgd hbad hnext hc hsz
      cases hok : okPl p
      · rw [hok] at c
        have C := Lib.hid c
        have hr : riseB l = false := HB.out (fun h => by rw [hok] at h; exact absurd h.1 (by simp))
        have HR := Lib.hid hr
        clear c hr hok hprev hp
        go_wp2
        have hO := PlIn.new wr p
        have hB0 := below_alloc hnx (.cells #[.int .i64 p.n, .int .i64 p.u, .string p.s] 117)
        generalize wr.alloc (.cells #[.int .i64 p.n, .int .i64 p.u, .string p.s] 117) = W at *
        obtain ⟨g0, g1, g2⟩ := hO.cells
        have k0 := cell_regrown g0
        have k1 := cell_regrown g1
        have k2 := cell_regrown g2
        clear g0 g1 g2 hO
        have d1 : ∀ d os, Calls Tryz.prog 93 #[.agg #[.int .i64 p.n, .int .i64 p.u, .string p.s]] (Sort.grow (redrawn W d) os) fun e w'' => e = .returned (.bool false) ∧ ∃ p : Regrown, w'' = Sort.grow (redrawn W p.d) p.os := fun d os => Calls.regrown_of (C.out _)
        refine wp_region_quiet_below (by kernel_rfl) (by kernel_rfl) ?_
        repeat (go_big_quiet_step ((with_reducible (exact d1 _ _))))
        refine wpQuiet_nil ?_
        intro _ hw'
        obtain ⟨⟨dq, osq⟩, hw''⟩ := hw'
        subst hw''
        go_wp2
        go_ret
        exact ⟨by rw [HR.out]; rfl, below_then hB0 (below_regrown W dq osq)⟩
      · rw [hok] at c
        have C := Lib.hid c
        clear c
        by_cases h0 : 0 < k
        · obtain ⟨t0, t1, t2⟩ := hprev h0
          obtain ⟨q, hq⟩ : ∃ q, l[k - 1]'(by omega) = q := ⟨_, rfl⟩
          rw [hq] at t0 t1 t2
          have hix : ((k : Int) - 1).toNat = k - 1 := by omega
          by_cases hc2 : q.n < p.n
          · have HQ : ∀ h0 : 0 < k, (l[k - 1]'(by omega)).n < p.n := fun _ => by rw [hq]; exact hc2
            have HQ := Lib.hid HQ
            clear hq hp hprev
            go_wp2
            have hO := PlIn.new wr p
            have hB0 := below_alloc hnx (.cells #[.int .i64 p.n, .int .i64 p.u, .string p.s] 117)
            have hw0 := below_alloc (Below.refl _ wr) (.cells #[.int .i64 p.n, .int .i64 p.u, .string p.s] 117)
            rw [← (bcell hw0).1 _ _ hbr] at t0
            clear hw0
            generalize wr.alloc (.cells #[.int .i64 p.n, .int .i64 p.u, .string p.s] 117) = W at *
            obtain ⟨g0, g1, g2⟩ := hO.cells
            have k0 := cell_regrown g0
            have k1 := cell_regrown g1
            have k2 := cell_regrown g2
            have kt0 := cell_regrown t0
            clear t0 t1 t2
            clear g0 g1 g2 hO
            have d1 : ∀ d os, Calls Tryz.prog 93 #[.agg #[.int .i64 p.n, .int .i64 p.u, .string p.s]] (Sort.grow (redrawn W d) os) fun e w'' => e = .returned (.bool true) ∧ ∃ p : Regrown, w'' = Sort.grow (redrawn W p.d) p.os := fun d os => Calls.regrown_of (C.out _)
            refine wp_region_quiet_below (by kernel_rfl) (by kernel_rfl) ?_
            repeat (go_big_quiet_step ((with_reducible (exact d1 _ _))))
            refine wpQuiet_nil ?_
            intro _ hw'
            obtain ⟨⟨dq, osq⟩, hw''⟩ := hw'
            subst hw''
            go_wp2
            go_roundw
            case rel => exact ⟨k + 1, by omega, by go_num, HN.out hok fun h0 => HQ.out h0, below_then hB0 (below_regrown W dq osq)⟩
            case measure => simp [intOf]; omega
          · have hr : riseB l = false := HB.out (fun h => by have := h.2 h0; rw [hq] at this; exact hc2 this)
            have HR := Lib.hid hr
            clear hr hq hp hprev
            go_wp2
            have hO := PlIn.new wr p
            have hB0 := below_alloc hnx (.cells #[.int .i64 p.n, .int .i64 p.u, .string p.s] 117)
            have hw0 := below_alloc (Below.refl _ wr) (.cells #[.int .i64 p.n, .int .i64 p.u, .string p.s] 117)
            rw [← (bcell hw0).1 _ _ hbr] at t0
            clear hw0
            generalize wr.alloc (.cells #[.int .i64 p.n, .int .i64 p.u, .string p.s] 117) = W at *
            obtain ⟨g0, g1, g2⟩ := hO.cells
            have k0 := cell_regrown g0
            have k1 := cell_regrown g1
            have k2 := cell_regrown g2
            have kt0 := cell_regrown t0
            clear t0 t1 t2
            clear g0 g1 g2 hO
            have d1 : ∀ d os, Calls Tryz.prog 93 #[.agg #[.int .i64 p.n, .int .i64 p.u, .string p.s]] (Sort.grow (redrawn W d) os) fun e w'' => e = .returned (.bool true) ∧ ∃ p : Regrown, w'' = Sort.grow (redrawn W p.d) p.os := fun d os => Calls.regrown_of (C.out _)
            refine wp_region_quiet_below (by kernel_rfl) (by kernel_rfl) ?_
            repeat (go_big_quiet_step ((with_reducible (exact d1 _ _))))
            refine wpQuiet_nil ?_
            intro _ hw'
            obtain ⟨⟨dq, osq⟩, hw''⟩ := hw'
            subst hw''
            go_wp2
            go_ret
            exact ⟨by rw [HR.out]; rfl, below_then hB0 (below_regrown W dq osq)⟩
        · have hd : decide ((0 : Int) < (k : Int)) = false := decide_eq_false (by omega)
          have HK := Lib.hid h0
          clear hprev hp
          go_wp2
          have hO := PlIn.new wr p
          have hB0 := below_alloc hnx (.cells #[.int .i64 p.n, .int .i64 p.u, .string p.s] 117)
          generalize wr.alloc (.cells #[.int .i64 p.n, .int .i64 p.u, .string p.s] 117) = W at *
          obtain ⟨g0, g1, g2⟩ := hO.cells
          have k0 := cell_regrown g0
          have k1 := cell_regrown g1
          have k2 := cell_regrown g2
          clear g0 g1 g2 hO
          have d1 : ∀ d os, Calls Tryz.prog 93 #[.agg #[.int .i64 p.n, .int .i64 p.u, .string p.s]] (Sort.grow (redrawn W d) os) fun e w'' => e = .returned (.bool true) ∧ ∃ p : Regrown, w'' = Sort.grow (redrawn W p.d) p.os := fun d os => Calls.regrown_of (C.out _)
          refine wp_region_quiet_below (by kernel_rfl) (by kernel_rfl) ?_
          repeat (go_big_quiet_step ((with_reducible (exact d1 _ _))))
          refine wpQuiet_nil ?_
          intro _ hw'
          obtain ⟨⟨dq, osq⟩, hw''⟩ := hw'
          subst hw''
          go_wp2
          go_roundw
          case rel => exact ⟨k + 1, by omega, by go_num, HN.out hok fun h0 => absurd h0 HK.out, below_then hB0 (below_regrown W dq osq)⟩
          case measure => simp [intOf]; omega
    · obtain rfl : k = l.length := by omega
      have HR := Lib.hid (goodTo_all hgd)
      clear hgd
      go_wp2
      go_ret
      exact ⟨by rw [HR.out]; rfl, hnx⟩
end Go.Proofs.YtfpgfclmmdihjaaGreat

/- What may be a tree: Right of both. -/
namespace Go.Proofs.YtfpgfclmmdihjaaGreat
open Go.RowKit Tre Nam Cod

def ringless (l : List Pl) : Bool := l.all fun p => !above l p.n p.u
theorem treeB_two (l : List Pl) : treeB l = (riseB l && ringless l) := by unfold treeB riseB ringless; rw [Bool.and_assoc]
def FreeTo (l : List Pl) (i : Nat) : Prop := ∀ k (h : k < l.length), k < i → above l l[k].n l[k].u = false
theorem free_next {l : List Pl} {i : Nat} (h : FreeTo l i) (hi : i < l.length) (h1 : above l l[i].n l[i].u = false) : FreeTo l (i + 1) := by
  intro k hk hlt
  by_cases e : k = i
  · subst e; exact h1
  · exact h k hk (by omega)
theorem free_all {l : List Pl} (h : FreeTo l l.length) : ringless l = true := by
  unfold ringless
  rw [List.all_eq_true]
  intro p hp
  obtain ⟨k, hk, rfl⟩ := List.getElem_of_mem hp
  rw [h k hk hk]; rfl
theorem free_bad {l : List Pl} {i : Nat} (hi : i < l.length) (h : above l l[i].n l[i].u = true) : ringless l = false := by
  rcases e : ringless l with _ | _
  · rfl
  · unfold ringless at e
    rw [List.all_eq_true] at e
    have := e _ (List.getElem_mem hi)
    rw [h] at this; exact this.symm

theorem noLoop_any (A : Option Addr) (cap : Nat) (l : List Pl) (w : World) (hl : l.length ≤ 1000) (hs : Sorted l) (hT : Tr w A l) :
    Calls Tryz.prog 77 #[.slice A l.length cap] w fun e w' => e = .returned (.bool (ringless l)) ∧ Below w.heap.size w w' := by
  have C := fun w a b (hT : Tr w A l) => above_any A cap l a b w hl hs hT
  go_enter Tryz.func77, Tryz.ntmps77
  go_wp2
  go_loopw [7] (fun x wr => ∃ k : Nat, k ≤ l.length ∧ x = .int .i64 k ∧ FreeTo l k ∧ Below w.heap.size w wr) (fun x _ => l.length - (intOf x).toNat)
  case atStart => exact ⟨0, Nat.zero_le _, rfl, fun k h hk => by omega, Below.refl _ _⟩
  case round =>
    obtain ⟨k, hk, rfl, hgd, hnx⟩ := hrel
    by_cases hlt : k < l.length
    · obtain ⟨bb, off, hAe, hbw, hc⟩ := hT (by omega)
      have hbr := Nat.lt_of_lt_of_le hbw hnx.size
      have hat := (hc k hlt).below hnx hbw
      have hbad := free_bad hlt
      have hnext := free_next hgd hlt
      obtain ⟨p, hp⟩ : ∃ p, l[k] = p := ⟨_, rfl⟩
      rw [hp] at hat hbad hnext
      obtain ⟨q0, q1, q2⟩ := hat
      have hTa := (hT.below hnx).below (below_alloc (Below.refl _ wr) (.cells #[.int .i64 p.n, .int .i64 p.u, .string p.s] 117))
      have C := C _ p.n p.u hTa
      have HB := Lib.hid hbad
      have HN := Lib.hid hnext
      clear hgd hbad hnext hc hp
      subst hAe
      cases hab : above l p.n p.u
      · rw [hab] at C
        have HN := Lib.hid (HN.out hab)
        clear hab
        go_wp2_with (go_at_call 84; (with_reducible refine C.mono ?_); rintro e w1 ⟨rfl, hb1⟩)
        go_roundw
        case rel => exact ⟨k + 1, by omega, by go_num, HN.out, below_then (below_alloc hnx _) hb1⟩
        case measure => simp [intOf]; omega
      · rw [hab] at C
        have HR := Lib.hid (HB.out hab)
        clear hab
        go_wp2_with (go_at_call 84; (with_reducible refine C.mono ?_); rintro e w1 ⟨rfl, hb1⟩)
        go_ret
        exact ⟨by rw [HR.out]; rfl, below_then (below_alloc hnx _) hb1⟩
    · obtain rfl : k = l.length := by omega
      have HR := Lib.hid (free_all hgd)
      clear hgd
      go_wp2
      go_ret
      exact ⟨by rw [HR.out]; rfl, hnx⟩

theorem right_any (A : Option Addr) (cap : Nat) (l : List Pl) (w : World) (hl : l.length ≤ 1000) (hsz : ∀ p ∈ l, p.s.size ≤ 9223372036854775807) (hT : Tr w A l) :
    Calls Tryz.prog 61 #[.slice A l.length cap] w fun e w' => e = .returned (.bool (treeB l)) ∧ Below w.heap.size w w' := by
  have C1 := rising_any A cap l w hl hsz hT
  rw [treeB_two]
  cases hr : riseB l
  · rw [hr] at C1
    have HC := Lib.hid C1
    clear C1
    go_enter Tryz.func61, Tryz.ntmps61
    go_wp2_with (go_at_call 76; (with_reducible refine HC.out.mono ?_); rintro e w1 ⟨rfl, hb1⟩)
    go_ret
    exact ⟨rfl, hb1⟩
  · rw [hr] at C1
    have C2 := fun w (hT : Tr w A l) => noLoop_any A cap l w hl (goodTo_back hr).2 hT
    generalize ringless l = x at *
    have HC := Lib.hid C1
    have HD := Lib.hid C2
    clear C1 C2
    go_enter Tryz.func61, Tryz.ntmps61
    go_wp2_with (first | (go_at_call 76; (with_reducible refine HC.out.mono ?_); rintro e w1 ⟨rfl, hb1⟩; have hT1 := hT.below hb1) | (go_at_call 77; (with_reducible refine (HD.out _ hT1).mono ?_); rintro e w2 ⟨rfl, hb2⟩))
    go_ret
    exact ⟨by simp, below_then hb1 hb2⟩
end Go.Proofs.YtfpgfclmmdihjaaGreat

/- What may be a tree: of the document. -/
namespace Go.Proofs.YtfpgfclmmdihjaaGreat
open Go.RowKit Tre Nam Cod

set_option maxRecDepth 100000 in
set_option maxHeartbeats 4000000 in
theorem refRight_any (A : Option Addr) (cap : Nat) (l : List Pl) (w : World) (hl : l.length ≤ 1000) (hsz : ∀ p ∈ l, p.s.size ≤ 9223372036854775807) (hT : Tr w A l) :
    Calls Tryz.prog 68 #[.slice A l.length cap] w fun e w' => e = .returned (.bool (treeB l)) ∧ Below w.heap.size w w' := by
  have HZ := Lib.hid hsz
  have HT2 := Lib.hid (treeB_two l)
  clear hsz
  go_enter Tryz.func68, Tryz.ntmps68
  go_wp2
  go_loopw [3] (fun x wr => ∃ k : Nat, k ≤ l.length ∧ x = .int .i64 k ∧ GoodTo l k ∧ Below w.heap.size w wr) (fun x _ => l.length - (intOf x).toNat)
  case atStart => exact ⟨0, Nat.zero_le _, rfl, fun k h hk => by omega, Below.refl _ _⟩
  case round =>
    obtain ⟨k, hk, rfl, hgd, hnx⟩ := hrel
    by_cases hlt : k < l.length
    · obtain ⟨bb, off, hAe, hbw, hc⟩ := hT (by omega)
      have hbr := Nat.lt_of_lt_of_le hbw hnx.size
      have hat := (hc k hlt).below hnx hbw
      obtain ⟨p, hp⟩ : ∃ p, l[k] = p := ⟨_, rfl⟩
      have c := fun w => (nmRefRight_any p.s w (HZ.out p (hp ▸ List.getElem_mem hlt))).mono (fun e w' (h : _ ∧ w = w') => (⟨h.1, h.2 ▸ Below.refl _ _⟩ : e = .returned (.bool (isName (L p.s))) ∧ Below w.heap.size w w'))
      have hbad := goodTo_bad hlt
      have hnext := goodTo_next hgd hlt
      rw [hp] at hat hbad hnext
      have hprev : ∀ h0 : 0 < k, AtPl wr bb (off + (k - 1) * 3) (l[k - 1]'(by omega)) := fun h0 => (hc (k - 1) (by omega)).below hnx hbw
      obtain ⟨q0, q1, q2⟩ := hat
      have HG := Lib.hid hgd
      have HB := Lib.hid hbad
      have HN := Lib.hid hnext
      clear hgd hbad hnext hc
      subst hAe
      have hf : okPl p = false → riseB l = false := fun h => HB.out (fun h2 => by rw [h] at h2; exact absurd h2.1 (by simp))
      have HF := Lib.hid hf
      clear hf
      refine okPl_five (n := p.n) (u := p.u) ?_ ?_ ?_ ?_ ?_
      · intro h1
        have HR := Lib.hid (HF.out (okPl_false (by omega)))
        have e0 : decide (p.n < 2) = true := decide_eq_true (by omega)
        clear hprev hp c HF
        go_wp2
        have hO := PlIn.new wr p
        have hB0 := below_alloc hnx (.cells #[.int .i64 p.n, .int .i64 p.u, .string p.s] 117)
        generalize wr.alloc (.cells #[.int .i64 p.n, .int .i64 p.u, .string p.s] 117) = W at *
        obtain ⟨g0, g1, g2⟩ := hO.cells
        have k0 := cell_regrown g0
        have k1 := cell_regrown g1
        have k2 := cell_regrown g2
        clear g0 g1 g2 hO q0 q1 q2
        refine wp_region_quiet_below (by kernel_rfl) (by kernel_rfl) ?_
        repeat (go_big_quiet_step ((with_reducible (exact d1 _ _))))
        refine wpQuiet_nil ?_
        intro _ hw'
        obtain ⟨⟨dq, osq⟩, hw''⟩ := hw'
        subst hw''
        go_wp2
        go_ret
        exact ⟨by rw [HT2.out, HR.out]; rfl, below_then hB0 (below_regrown W dq osq)⟩
      · intro h1 h2
        have HR := Lib.hid (HF.out (okPl_false (by omega)))
        have e0 : decide (p.n < 2) = false := decide_eq_false (by omega)
        have e1 : decide (64 ≤ p.n) = true := decide_eq_true (by omega)
        clear hprev hp c HF
        go_wp2
        have hO := PlIn.new wr p
        have hB0 := below_alloc hnx (.cells #[.int .i64 p.n, .int .i64 p.u, .string p.s] 117)
        generalize wr.alloc (.cells #[.int .i64 p.n, .int .i64 p.u, .string p.s] 117) = W at *
        obtain ⟨g0, g1, g2⟩ := hO.cells
        have k0 := cell_regrown g0
        have k1 := cell_regrown g1
        have k2 := cell_regrown g2
        clear g0 g1 g2 hO q0 q1 q2
        refine wp_region_quiet_below (by kernel_rfl) (by kernel_rfl) ?_
        repeat (go_big_quiet_step ((with_reducible (exact d1 _ _))))
        refine wpQuiet_nil ?_
        intro _ hw'
        obtain ⟨⟨dq, osq⟩, hw''⟩ := hw'
        subst hw''
        go_wp2
        go_ret
        exact ⟨by rw [HT2.out, HR.out]; rfl, below_then hB0 (below_regrown W dq osq)⟩
      · intro h1 h2 h3
        have HR := Lib.hid (HF.out (okPl_false (by omega)))
        have e0 : decide (p.n < 2) = false := decide_eq_false (by omega)
        have e1 : decide (64 ≤ p.n) = false := decide_eq_false (by omega)
        have e2 : decide (p.u < 0) = true := decide_eq_true (by omega)
        clear hprev hp c HF
        go_wp2
        have hO := PlIn.new wr p
        have hB0 := below_alloc hnx (.cells #[.int .i64 p.n, .int .i64 p.u, .string p.s] 117)
        generalize wr.alloc (.cells #[.int .i64 p.n, .int .i64 p.u, .string p.s] 117) = W at *
        obtain ⟨g0, g1, g2⟩ := hO.cells
        have k0 := cell_regrown g0
        have k1 := cell_regrown g1
        have k2 := cell_regrown g2
        clear g0 g1 g2 hO q0 q1 q2
        refine wp_region_quiet_below (by kernel_rfl) (by kernel_rfl) ?_
        repeat (go_big_quiet_step ((with_reducible (exact d1 _ _))))
        refine wpQuiet_nil ?_
        intro _ hw'
        obtain ⟨⟨dq, osq⟩, hw''⟩ := hw'
        subst hw''
        go_wp2
        go_ret
        exact ⟨by rw [HT2.out, HR.out]; rfl, below_then hB0 (below_regrown W dq osq)⟩
      · intro h1 h2 h3 h4
        have HR := Lib.hid (HF.out (okPl_false (by omega)))
        have e0 : decide (p.n < 2) = false := decide_eq_false (by omega)
        have e1 : decide (64 ≤ p.n) = false := decide_eq_false (by omega)
        have e2 : decide (p.u < 0) = false := decide_eq_false (by omega)
        have e3 : decide (64 ≤ p.u) = true := decide_eq_true (by omega)
        clear hprev hp c HF
        go_wp2
        have hO := PlIn.new wr p
        have hB0 := below_alloc hnx (.cells #[.int .i64 p.n, .int .i64 p.u, .string p.s] 117)
        generalize wr.alloc (.cells #[.int .i64 p.n, .int .i64 p.u, .string p.s] 117) = W at *
        obtain ⟨g0, g1, g2⟩ := hO.cells
        have k0 := cell_regrown g0
        have k1 := cell_regrown g1
        have k2 := cell_regrown g2
        clear g0 g1 g2 hO q0 q1 q2
        refine wp_region_quiet_below (by kernel_rfl) (by kernel_rfl) ?_
        repeat (go_big_quiet_step ((with_reducible (exact d1 _ _))))
        refine wpQuiet_nil ?_
        intro _ hw'
        obtain ⟨⟨dq, osq⟩, hw''⟩ := hw'
        subst hw''
        go_wp2
        go_ret
        exact ⟨by rw [HT2.out, HR.out]; rfl, below_then hB0 (below_regrown W dq osq)⟩
      · intro h1 h2 h3 h4
        have e0 : decide (p.n < 2) = false := decide_eq_false (by omega)
        have e1 : decide (64 ≤ p.n) = false := decide_eq_false (by omega)
        have e2 : decide (p.u < 0) = false := decide_eq_false (by omega)
        have e3 : decide (64 ≤ p.u) = false := decide_eq_false (by omega)
        have hon := okPl_name (p := p) ⟨h1, h2, h3, h4⟩
        rw [← hon] at c
        clear hon
        cases hok : okPl p
        · rw [hok] at c
          have C := Lib.hid c
          have HR := Lib.hid (HF.out hok)
          clear c hok hprev hp HF
          go_wp2
          have hO := PlIn.new wr p
          have hB0 := below_alloc hnx (.cells #[.int .i64 p.n, .int .i64 p.u, .string p.s] 117)
          generalize wr.alloc (.cells #[.int .i64 p.n, .int .i64 p.u, .string p.s] 117) = W at *
          obtain ⟨g0, g1, g2⟩ := hO.cells
          have k0 := cell_regrown g0
          have k1 := cell_regrown g1
          have k2 := cell_regrown g2
          have d1 : ∀ d os, Calls Tryz.prog 87 #[.string p.s] (Sort.grow (redrawn W d) os) fun e w'' => e = .returned (.bool false) ∧ ∃ p : Regrown, w'' = Sort.grow (redrawn W p.d) p.os := fun d os => Calls.regrown_of (C.out _)
          clear g0 g1 g2 hO q0 q1 q2
          refine wp_region_quiet_below (by kernel_rfl) (by kernel_rfl) ?_
          repeat (go_big_quiet_step ((with_reducible (exact d1 _ _))))
          refine wpQuiet_nil ?_
          intro _ hw'
          obtain ⟨⟨dq, osq⟩, hw''⟩ := hw'
          subst hw''
          go_wp2
          go_ret
          exact ⟨by rw [HT2.out, HR.out]; rfl, below_then hB0 (below_regrown W dq osq)⟩
        · rw [hok] at c
          have C := Lib.hid c
          have hok := Lib.hid hok
          clear c
          by_cases h0 : 0 < k
          · obtain ⟨t0, t1, t2⟩ := hprev h0
            obtain ⟨q, hq⟩ : ∃ q, l[k - 1]'(by omega) = q := ⟨_, rfl⟩
            rw [hq] at t0 t1 t2
            have hix : ((k : Int) - 1).toNat = k - 1 := by omega
            by_cases hc2 : q.n < p.n
            · have HQ : ∀ h0 : 0 < k, (l[k - 1]'(by omega)).n < p.n := fun _ => by rw [hq]; exact hc2
              have HQ := Lib.hid HQ
              clear hq hp hprev
              go_wp2
              have hO := PlIn.new wr p
              have hB0 := below_alloc hnx (.cells #[.int .i64 p.n, .int .i64 p.u, .string p.s] 117)
              have hw0 := below_alloc (Below.refl _ wr) (.cells #[.int .i64 p.n, .int .i64 p.u, .string p.s] 117)
              rw [← (bcell hw0).1 _ _ hbr] at t0
              clear hw0
              generalize wr.alloc (.cells #[.int .i64 p.n, .int .i64 p.u, .string p.s] 117) = W at *
              obtain ⟨g0, g1, g2⟩ := hO.cells
              have k0 := cell_regrown g0
              have k1 := cell_regrown g1
              have k2 := cell_regrown g2
              have kt0 := cell_regrown t0
              clear t0 t1 t2
              have d1 : ∀ d os, Calls Tryz.prog 87 #[.string p.s] (Sort.grow (redrawn W d) os) fun e w'' => e = .returned (.bool true) ∧ ∃ p : Regrown, w'' = Sort.grow (redrawn W p.d) p.os := fun d os => Calls.regrown_of (C.out _)
              clear g0 g1 g2 hO q0 q1 q2
              refine wp_region_quiet_below (by kernel_rfl) (by kernel_rfl) ?_
              repeat (go_big_quiet_step ((with_reducible (exact d1 _ _))))
              refine wpQuiet_nil ?_
              intro _ hw'
              obtain ⟨⟨dq, osq⟩, hw''⟩ := hw'
              subst hw''
              go_wp2
              go_roundw
              case rel => exact ⟨k + 1, by omega, by go_num, HN.out hok.out fun h0 => HQ.out h0, below_then hB0 (below_regrown W dq osq)⟩
              case measure => simp [intOf]; omega
            · have HR := Lib.hid (HB.out (fun h => by have := h.2 h0; rw [hq] at this; exact hc2 this))
              clear hq hp hprev
              go_wp2
              have hO := PlIn.new wr p
              have hB0 := below_alloc hnx (.cells #[.int .i64 p.n, .int .i64 p.u, .string p.s] 117)
              have hw0 := below_alloc (Below.refl _ wr) (.cells #[.int .i64 p.n, .int .i64 p.u, .string p.s] 117)
              rw [← (bcell hw0).1 _ _ hbr] at t0
              clear hw0
              generalize wr.alloc (.cells #[.int .i64 p.n, .int .i64 p.u, .string p.s] 117) = W at *
              obtain ⟨g0, g1, g2⟩ := hO.cells
              have k0 := cell_regrown g0
              have k1 := cell_regrown g1
              have k2 := cell_regrown g2
              have kt0 := cell_regrown t0
              clear t0 t1 t2
              have d1 : ∀ d os, Calls Tryz.prog 87 #[.string p.s] (Sort.grow (redrawn W d) os) fun e w'' => e = .returned (.bool true) ∧ ∃ p : Regrown, w'' = Sort.grow (redrawn W p.d) p.os := fun d os => Calls.regrown_of (C.out _)
              clear g0 g1 g2 hO q0 q1 q2
              refine wp_region_quiet_below (by kernel_rfl) (by kernel_rfl) ?_
              repeat (go_big_quiet_step ((with_reducible (exact d1 _ _))))
              refine wpQuiet_nil ?_
              intro _ hw'
              obtain ⟨⟨dq, osq⟩, hw''⟩ := hw'
              subst hw''
              go_wp2
              go_ret
              exact ⟨by rw [HT2.out, HR.out]; rfl, below_then hB0 (below_regrown W dq osq)⟩
          · have hd : decide ((0 : Int) < (k : Int)) = false := decide_eq_false (by omega)
            have HK := Lib.hid h0
            clear hprev hp
            go_wp2
            have hO := PlIn.new wr p
            have hB0 := below_alloc hnx (.cells #[.int .i64 p.n, .int .i64 p.u, .string p.s] 117)
            generalize wr.alloc (.cells #[.int .i64 p.n, .int .i64 p.u, .string p.s] 117) = W at *
            obtain ⟨g0, g1, g2⟩ := hO.cells
            have k0 := cell_regrown g0
            have k1 := cell_regrown g1
            have k2 := cell_regrown g2
            have d1 : ∀ d os, Calls Tryz.prog 87 #[.string p.s] (Sort.grow (redrawn W d) os) fun e w'' => e = .returned (.bool true) ∧ ∃ p : Regrown, w'' = Sort.grow (redrawn W p.d) p.os := fun d os => Calls.regrown_of (C.out _)
            clear g0 g1 g2 hO q0 q1 q2
            refine wp_region_quiet_below (by kernel_rfl) (by kernel_rfl) ?_
            repeat (go_big_quiet_step ((with_reducible (exact d1 _ _))))
            refine wpQuiet_nil ?_
            intro _ hw'
            obtain ⟨⟨dq, osq⟩, hw''⟩ := hw'
            subst hw''
            go_wp2
            go_roundw
            case rel => exact ⟨k + 1, by omega, by go_num, HN.out hok.out fun h0 => absurd h0 HK.out, below_then hB0 (below_regrown W dq osq)⟩
            case measure => simp [intOf]; omega
    · obtain rfl : k = l.length := by omega
      have hr := goodTo_all hgd
      have HR := Lib.hid hr
      have hB1 := hnx
      have C := fun w a b (hT : Tr w A l) => refAbove_any A cap l a b w hl hT
      have C := Lib.hid C
      clear hgd hr
      go_wp2
      go_loopw [5] (fun x wr => ∃ k : Nat, k ≤ l.length ∧ x = .int .i64 k ∧ FreeTo l k ∧ Below w.heap.size w wr) (fun x _ => l.length - (intOf x).toNat)
      case atStart => exact ⟨0, Nat.zero_le _, rfl, fun k h hk => by omega, hB1⟩
      case round =>
        obtain ⟨j, hj, rfl, hgd, hnx⟩ := hrel
        by_cases hlt : j < l.length
        · obtain ⟨bb, off, hAe, hbw, hc⟩ := hT (by omega)
          have hbr := Nat.lt_of_lt_of_le hbw hnx.size
          have hat := (hc j hlt).below hnx hbw
          have hTr := hT.below hnx
          have hbad := free_bad hlt
          have hnext := free_next hgd hlt
          obtain ⟨p, hp⟩ : ∃ p, l[j] = p := ⟨_, rfl⟩
          rw [hp] at hat hbad hnext
          obtain ⟨q0, q1, q2⟩ := hat
          have C := fun w hT => C.out w p.n p.u hT
          have HB := Lib.hid hbad
          have HN := Lib.hid hnext
          clear hgd hbad hnext hc hp
          subst hAe
          have k0 := cell_regrown q0
          have k1 := cell_regrown q1
          clear q0 q1 q2
          cases hab : above l p.n p.u
          · rw [hab] at C
            have HN := Lib.hid (HN.out hab)
            have d1 : ∀ d os, Calls Tryz.prog 88 #[.slice (some ⟨bb, off, none⟩) l.length cap, .int .i64 p.n, .int .i64 p.u] (Sort.grow (redrawn wr d) os) fun e w'' => e = .returned (.bool false) ∧ ∃ p : Regrown, w'' = Sort.grow (redrawn wr p.d) p.os := fun d os => Calls.regrown_of (C _ (hTr.below (below_regrown wr d os)))
            clear hab C
            go_wp2
            refine wp_region_quiet_below (by kernel_rfl) (by kernel_rfl) ?_
            repeat (go_big_quiet_step ((with_reducible (exact d1 _ _))))
            refine wpQuiet_nil ?_
            intro _ hw'
            obtain ⟨⟨dq, osq⟩, hw''⟩ := hw'
            subst hw''
            go_wp2
            go_roundw
            case rel => exact ⟨j + 1, by omega, by go_num, HN.out, below_then hnx (below_regrown wr dq osq)⟩
            case measure => simp [intOf]; omega
          · rw [hab] at C
            have HF := Lib.hid (HB.out hab)
            have d1 : ∀ d os, Calls Tryz.prog 88 #[.slice (some ⟨bb, off, none⟩) l.length cap, .int .i64 p.n, .int .i64 p.u] (Sort.grow (redrawn wr d) os) fun e w'' => e = .returned (.bool true) ∧ ∃ p : Regrown, w'' = Sort.grow (redrawn wr p.d) p.os := fun d os => Calls.regrown_of (C _ (hTr.below (below_regrown wr d os)))
            clear hab C
            go_wp2
            refine wp_region_quiet_below (by kernel_rfl) (by kernel_rfl) ?_
            repeat (go_big_quiet_step ((with_reducible (exact d1 _ _))))
            refine wpQuiet_nil ?_
            intro _ hw'
            obtain ⟨⟨dq, osq⟩, hw''⟩ := hw'
            subst hw''
            go_wp2
            go_ret
            exact ⟨by rw [HT2.out, HR.out, HF.out]; rfl, below_then hnx (below_regrown wr dq osq)⟩
        · obtain rfl : j = l.length := by omega
          have HF := Lib.hid (free_all hgd)
          clear hgd
          go_wp2
          go_ret
          exact ⟨by rw [HT2.out, HR.out, HF.out]; rfl, hnx⟩
end Go.Proofs.YtfpgfclmmdihjaaGreat

/- Whether a past is one: Right of the program. -/
namespace Go.Proofs.YtfpgfclmmdihjaaGreat
open Go.RowKit Tre Cod Pst Nam

def PastR (q : Pv) : Prop := treeB q.base = true ∧ 0 ≤ q.t ∧ q.t ≤ 1099511627776 ∧ OpsR q.ops q.t ∧ q.now = (foldL q.base (mvs q.ops)).1 ∧ q.us = (foldL q.base (mvs q.ops)).2
theorem PInv.right {q : Pv} (h : PInv q) : PastR q :=
  ⟨h.tree, h.t0, h.t1, fun i hi _ => ⟨h.ok _ (List.getElem_mem hi), h.gt _ (List.getElem_mem hi), fun h0 => ris_get h.ris (by omega) hi (by omega)⟩, h.nw, h.un⟩

end Go.Proofs.YtfpgfclmmdihjaaGreat

/- Whether a past is one: the document's answer. -/
namespace Go.Proofs.YtfpgfclmmdihjaaGreat
open Go.RowKit Tre Cod Pst Nam

set_option maxRecDepth 100000 in
set_option maxHeartbeats 8000000 in
theorem refPastRight_any (x : Pw) (w : World) (hx : PastOk w x) (hl1 : x.base.length ≤ 200) (hl2 : x.ops.length ≤ 200) (hl3 : x.us.length ≤ 200) (hl4 : x.now.length ≤ 200) (hsb : ∀ p ∈ x.base, p.s.size ≤ 9223372036854775807) (hso : ∀ m ∈ x.ops, m.s.size ≤ 9223372036854775807) (bv : Bool) (hbv : bv = true ↔ PastR x.v) :
    Calls Tryz.prog 47 #[.agg #[.slice x.bA x.base.length x.bc, .int .i64 x.t, .slice x.oA x.ops.length x.oc, .slice x.uA x.us.length x.uc, .slice x.wA x.now.length x.wc]] w fun e w' => e = .returned (.bool bv) ∧ Below w.heap.size w w' := by
  obtain ⟨bA, bc, base, t, oA, oc, ops, uA, uc, us, wA, wc, now⟩ := x
  simp only at hl1 hl2 hl3 hl4 hsb hso
  have HV := Lib.hid hbv
  clear hbv
  have hP : pwE.In (w.alloc (.cells #[.slice bA base.length bc, .int .i64 t, .slice oA ops.length oc, .slice uA us.length uc, .slice wA now.length wc] 39)) w.heap.size (⟨bA, bc, base, t, oA, oc, ops, uA, uc, us, wA, wc, now⟩ : Pw) := El.In.new (E := pwE) w (⟨bA, bc, base, t, oA, oc, ops, uA, uc, us, wA, wc, now⟩ : Pw) _ rfl
  have hB := below_alloc (Below.refl w.heap.size w) (.cells #[.slice bA base.length bc, .int .i64 t, .slice oA ops.length oc, .slice uA us.length uc, .slice wA now.length wc] 39)
  have hx1 := hx.below hB
  clear hx
  by_cases h1 : 0 ≤ t ∧ t ≤ 1099511627776
  · obtain ⟨h1, h2⟩ := h1
    have CT := refRight_any bA bc base (w.alloc (.cells #[.slice bA base.length bc, .int .i64 t, .slice oA ops.length oc, .slice uA us.length uc, .slice wA now.length wc] 39)) (by omega) hsb (plSl.1 hx1.b.1)
    go_enter Tryz.func47, Tryz.ntmps47
    go_wp2_with fail
    generalize w.alloc (.cells #[.slice bA base.length bc, .int .i64 t, .slice oA ops.length oc, .slice uA us.length uc, .slice wA now.length wc] 39) = W at *
    obtain ⟨n0, h0⟩ : ∃ n, w.heap.size = n := ⟨_, rfl⟩
    rw [h0] at hP ⊢
    clear h0
    cases ht : treeB base
    · have HNO := Lib.hid (show ¬ PastR (⟨bA, bc, base, t, oA, oc, ops, uA, uc, us, wA, wc, now⟩ : Pw).v from fun h => by have := h.1; simp only [Pw.v] at this; rw [ht] at this; cases this)
      rw [ht] at CT
      refine CT.mono ?_
      rintro e W1 ⟨rfl, hb1⟩
      replace hB := hB.trans (hb1.mono (by have := hB.size; omega))
      go_wp2_with fail
      go_ret
      exact ⟨by rw [false_of_not HV.out HNO.out]; rfl, hB⟩
    · rw [ht] at CT
      refine CT.mono ?_
      rintro e W1 ⟨rfl, hb1⟩
      replace hB := hB.trans (hb1.mono (by have := hB.size; omega))
      replace hP := hP.below hb1
      replace hx1 := hx1.below hb1
      clear CT hb1
      go_wp2_with fail
      go_loopw [3] (fun yi wr => ∃ k : Nat, k ≤ ops.length ∧ yi = .int .i64 k ∧ OpsTo ops t k ∧ pwE.In wr n0 (⟨bA, bc, base, t, oA, oc, ops, uA, uc, us, wA, wc, now⟩ : Pw) ∧ PastOk wr (⟨bA, bc, base, t, oA, oc, ops, uA, uc, us, wA, wc, now⟩ : Pw) ∧ Below w.heap.size w wr) (fun yi _ => ops.length - (intOf yi).toNat)
      case atStart => exact ⟨0, Nat.zero_le _, rfl, OpsTo.zero ops t, hP, hx1, hB⟩
      case round =>
        clear hP hx1 hB
        obtain ⟨k, hk, rfl, hto, hP, hx1, hB⟩ := hrel
        have p1 := (pwIn5 hP).2.1
        have p2 := (pwIn5 hP).2.2.1
        simp only at p1 p2
        by_cases hkl : k < ops.length
        · obtain ⟨b, off, hoA, hbw, hc⟩ := hx1.o.1 (show 0 < ops.length by omega)
          simp only at hoA hc
          have hat : opE.At wr b (off + k * 7) ops[k] := hc k hkl
          have hprev : ∀ (h0 : 0 < k), opE.At wr b (off + (k - 1) * 7) (ops[k - 1]'(by omega)) := fun h0 => hc (k - 1) (show k - 1 < ops.length by omega)
          have hms : ops[k].s.size ≤ 9223372036854775807 := hso _ (List.getElem_mem _)
          have HNK := Lib.hid (fun (h : OpsR ops t) => h.at k hkl)
          have HT := Lib.hid hto
          obtain ⟨mk, hmk⟩ : ∃ mk, ops[k] = mk := ⟨_, rfl⟩
          rw [hmk] at hat hms HNK
          subst hoA
          obtain ⟨o0, o1, o2, o3, o4, o5, o6⟩ := opAt hat
          have k0 := cell_regrown o0
          have k1 := cell_regrown o1
          have k2 := cell_regrown o2
          have k3 := cell_regrown o3
          have k4 := cell_regrown o4
          have k5 := cell_regrown o5
          have k6 := cell_regrown o6
          have k9 := cell_regrown p1
          have k10 := cell_regrown p2
          obtain ⟨r, hr⟩ : ∃ r, opB mk.C mk.D mk.I mk.M mk.K mk.U mk.s = r := ⟨_, rfl⟩
          have CR := fun w => opRefRight_any mk.C mk.D mk.I mk.M mk.K mk.U mk.s w hms
          rw [hr] at CR
          have HCR := Lib.hid CR
          have HR := Lib.hid hr
          have d1 : ∀ d os, Calls Tryz.prog 69 #[.agg #[.int .i64 mk.C, .int .i64 mk.D, .int .i64 mk.I, .int .i64 mk.M, .int .i64 mk.K, .int .i64 mk.U, .string mk.s]] (Sort.grow (redrawn wr d) os) fun e w'' => e = .returned (.bool r) ∧ ∃ p : Regrown, w'' = Sort.grow (redrawn wr p.d) p.os := fun d os => Calls.regrown_of (HCR.out _)
          have d2 : ∀ d os, Calls Tryz.prog 69 #[.agg #[.int .i64 mk.C, .int .i64 mk.D, .int .i64 mk.I, .int .i64 mk.M, .int .i64 mk.K, .int .i64 mk.U, .string mk.s]] (Sort.grow (redrawn wr d) os) fun e w'' => e = .returned (.bool r) ∧ ∃ p : Regrown, w'' = Sort.grow (redrawn wr p.d) p.os := d1
          have HMK := Lib.hid hmk
          have HPV := Lib.hid hprev
          clear o0 o1 o2 o3 o4 o5 o6 CR hr hat hprev hc hmk hto HCR
          cases r
          · have HNO := Lib.hid (show ¬ PastR (Pw.v (⟨bA, bc, base, t, some ⟨b, off, none⟩, oc, ops, uA, uc, us, wA, wc, now⟩ : Pw)) from fun h => by have := (HNK.out h.2.2.2.1).1; unfold Mv.ok at this; rw [HR.out] at this; cases this)
            go_wp2_with fail
            refine wp_region_quiet_below (by kernel_rfl) (by kernel_rfl) ?_
            repeat (go_big_quiet_step ((with_reducible (first | exact d1 _ _ | exact d2 _ _))))
            refine wpQuiet_nil ?_
            intro _ hw'
            obtain ⟨⟨dq, osq⟩, hw''⟩ := hw'
            subst hw''
            have hq := below_regrown wr dq osq
            replace hP := hP.below hq
            replace hx1 := hx1.below hq
            replace hB := hB.trans (hq.mono hB.size)
            generalize Sort.grow (redrawn wr dq) osq = W1 at *
            go_wp2_with fail
            go_ret
            exact ⟨by rw [false_of_not HV.out HNO.out]; rfl, hB⟩
          · have HOK := Lib.hid (show mk.ok from HR.out)
            by_cases htc : t < mk.C
            · have HTC := Lib.hid htc
              have hdc : decide (mk.C ≤ t) = false := decide_eq_false (by omega)
              by_cases h0 : k = 0
              · subst h0
                simp only [Nat.zero_mul, Nat.add_zero] at k0 k1 k2 k3 k4 k5 k6
                go_wp2_with fail
                refine wp_region_quiet_below (by kernel_rfl) (by kernel_rfl) ?_
                repeat (go_big_quiet_step ((with_reducible (first | exact d1 _ _ | exact d2 _ _))))
                refine wpQuiet_nil ?_
                intro _ hw'
                obtain ⟨⟨dq, osq⟩, hw''⟩ := hw'
                subst hw''
                have hq := below_regrown wr dq osq
                replace hP := hP.below hq
                replace hx1 := hx1.below hq
                replace hB := hB.trans (hq.mono hB.size)
                generalize Sort.grow (redrawn wr dq) osq = W1 at *
                go_wp2_with fail
                exact ⟨⟨0 + 1, by omega, by go_num, HT.out.next hkl (by rw [HMK.out]; exact HOK.out) (by rw [HMK.out]; exact HTC.out) (by intro h0; omega), hP, hx1, hB⟩, by simp [intOf]; omega⟩
              · obtain ⟨j, rfl⟩ : ∃ j, k = j + 1 := ⟨k - 1, by omega⟩
                have hpv := HPV.out (by omega)
                simp only [Nat.add_sub_cancel] at hpv
                obtain ⟨pv, hpve⟩ : ∃ pv, ops[j]'(by omega) = pv := ⟨_, rfl⟩
                rw [hpve] at hpv
                obtain ⟨t0, t1, t2, t3, t4, t5, t6⟩ := opAt hpv
                have k7 := cell_regrown t0
                have k8 := cell_regrown t1
                have C2 := fun w => refBefore_any pv.C pv.D mk.C mk.D w
                obtain ⟨bb, hbb⟩ : ∃ bb, befB pv.C pv.D mk.C mk.D = bb := ⟨_, rfl⟩
                rw [hbb] at C2
                rw [bef_iff] at hbb
                have HC2 := Lib.hid C2
                have HBB := Lib.hid hbb
                have HPE := Lib.hid hpve
                have hjl : j < ops.length := by omega
                clear t0 t1 t2 t3 t4 t5 t6 C2 hbb hpve hpv d2
                have d2 : ∀ d os, Calls Tryz.prog 71 #[.agg #[.int .i64 pv.C, .int .i64 pv.D], .agg #[.int .i64 mk.C, .int .i64 mk.D]] (Sort.grow (redrawn wr d) os) fun e w'' => e = .returned (.bool bb) ∧ ∃ p : Regrown, w'' = Sort.grow (redrawn wr p.d) p.os := fun d os => Calls.regrown_of (HC2.out _)
                have hd0 : decide ((0 : Int) < ((j + 1 : Nat) : Int)) = true := decide_eq_true (by omega)
                have hd1 : decide ((0 : Int) < (j : Int) + 1) = true := decide_eq_true (by omega)
                cases bb
                · have HNO := Lib.hid (show ¬ PastR (Pw.v (⟨bA, bc, base, t, some ⟨b, off, none⟩, oc, ops, uA, uc, us, wA, wc, now⟩ : Pw)) from fun h => of_decide_eq_false HBB.out (by have h9 : bef Mv.C Mv.D (ops[j]'(by omega)) mk := (HNK.out h.2.2.2.1).2.2 (Nat.succ_pos j); rw [HPE.out] at h9; exact h9))
                  go_wp2_with fail
                  refine wp_region_quiet_below (by kernel_rfl) (by kernel_rfl) ?_
                  repeat (go_big_quiet_step ((with_reducible (first | exact d1 _ _ | exact d2 _ _))))
                  refine wpQuiet_nil ?_
                  intro _ hw'
                  obtain ⟨⟨dq, osq⟩, hw''⟩ := hw'
                  subst hw''
                  have hq := below_regrown wr dq osq
                  replace hP := hP.below hq
                  replace hx1 := hx1.below hq
                  replace hB := hB.trans (hq.mono hB.size)
                  generalize Sort.grow (redrawn wr dq) osq = W1 at *
                  go_wp2_with fail
                  go_ret
                  exact ⟨by rw [false_of_not HV.out HNO.out]; rfl, hB⟩
                · have HBF := Lib.hid (show ∀ (h0 : 0 < j + 1), bef Mv.C Mv.D (ops[j + 1 - 1]'(by omega)) mk from fun _ => by show bef Mv.C Mv.D (ops[j]'(by omega)) mk; rw [HPE.out]; exact of_decide_eq_true HBB.out)
                  go_wp2_with fail
                  refine wp_region_quiet_below (by kernel_rfl) (by kernel_rfl) ?_
                  repeat (go_big_quiet_step ((with_reducible (first | exact d1 _ _ | exact d2 _ _))))
                  refine wpQuiet_nil ?_
                  intro _ hw'
                  obtain ⟨⟨dq, osq⟩, hw''⟩ := hw'
                  subst hw''
                  have hq := below_regrown wr dq osq
                  replace hP := hP.below hq
                  replace hx1 := hx1.below hq
                  replace hB := hB.trans (hq.mono hB.size)
                  generalize Sort.grow (redrawn wr dq) osq = W1 at *
                  go_wp2_with fail
                  exact ⟨⟨j + 1 + 1, by omega, by go_num, HT.out.next hkl (by rw [HMK.out]; exact HOK.out) (by rw [HMK.out]; exact HTC.out) (by intro h0; rw [HMK.out]; exact HBF.out h0), hP, hx1, hB⟩, by simp [intOf]; omega⟩
            · have hdc : decide (mk.C ≤ t) = true := decide_eq_true (by omega)
              have HNO := Lib.hid (show ¬ PastR (Pw.v (⟨bA, bc, base, t, some ⟨b, off, none⟩, oc, ops, uA, uc, us, wA, wc, now⟩ : Pw)) from fun h => htc (HNK.out h.2.2.2.1).2.1)
              go_wp2_with fail
              refine wp_region_quiet_below (by kernel_rfl) (by kernel_rfl) ?_
              repeat (go_big_quiet_step ((with_reducible (first | exact d1 _ _ | exact d2 _ _))))
              refine wpQuiet_nil ?_
              intro _ hw'
              obtain ⟨⟨dq, osq⟩, hw''⟩ := hw'
              subst hw''
              have hq := below_regrown wr dq osq
              replace hP := hP.below hq
              replace hx1 := hx1.below hq
              replace hB := hB.trans (hq.mono hB.size)
              generalize Sort.grow (redrawn wr dq) osq = W1 at *
              go_wp2_with fail
              go_ret
              exact ⟨by rw [false_of_not HV.out HNO.out]; rfl, hB⟩
        · obtain rfl : k = ops.length := by omega
          have hfl1 := foldL_len1 base (mvs ops)
          have hfl2 := foldL_len base (mvs ops)
          rw [mvs_len] at hfl1 hfl2
          have CF := mvRefFold_any bA bc base oA oc ops wr (by omega) hx1.b hx1.o.1
          have HBV := Lib.hid (show PastR (⟨bA, bc, base, t, oA, oc, ops, uA, uc, us, wA, wc, now⟩ : Pw).v ↔ (now = (foldL base (mvs ops)).1 ∧ us = (foldL base (mvs ops)).2) from ⟨fun h => h.2.2.2.2, fun h => ⟨ht, h1, h2, hto, h.1, h.2⟩⟩)
          generalize (foldL base (mvs ops)).1 = now2 at *
          generalize (foldL base (mvs ops)).2 = us2 at *
          have HFL := Lib.hid hfl2
          clear hfl2
          have HCF := Lib.hid CF
          have HT := Lib.hid hto
          have p0 := (pwIn5 hP).1
          simp only at p0
          clear CF hto
          go_wp2_with fail
          clear p0 p1 p2
          refine HCF.out.mono ?_
          rintro e W3 ⟨A3, c3, U3, uc3, rfl, hS3, hU3, hf3, hfu3, hb3⟩
          replace hP := hP.below hb3
          replace hx1 := hx1.below hb3
          replace hB := hB.trans (hb3.mono hB.size)
          clear hb3 hf3 hfu3 HCF
          have p4 := (pwIn5 hP).2.2.2.2
          simp only at p4
          go_wp2_with fail
          clear p4
          refine (samePl_any wA A3 wc c3 now now2 W3 (by omega) (by omega) hx1.w.1 hS3.1).mono ?_
          rintro e W4 ⟨b1, rfl, hb1, hb4⟩
          replace hP := hP.below hb4
          replace hx1 := hx1.below hb4
          replace hU3 := hU3.below hb4
          replace hB := hB.trans (hb4.mono hB.size)
          clear hb4
          have HB1 := Lib.hid hb1
          clear hb1
          have p3 := (pwIn5 hP).2.2.2.1
          simp only at p3
          cases b1
          · go_wp2_with fail
            go_ret
            refine ⟨?_, hB⟩
            have hbf := false_of_not HV.out (fun h => Bool.noConfusion (HB1.out.2 (HBV.out.1 h).1))
            clear HV HBV HB1
            subst hbf
            rfl
          · go_wp2_with fail
            have HSU := Lib.hid (sameUn_any uA U3 uc uc3 us us2 W4 (by omega) (by have := HFL.out; omega) hx1.u.1 hU3.1)
            (with_reducible refine HSU.out.mono ?_)
            rintro e W5 ⟨b2, rfl, hb2, hb5⟩
            have hbe : bv = b2 := by
              rw [Bool.eq_iff_iff, HV.out, HBV.out, hb2]
              exact ⟨fun h => h.2, fun h => ⟨HB1.out.1 (by trivial), h⟩⟩
            clear hb2 HV HBV HB1
            subst hbe
            go_wp2_with fail
            go_ret
            refine ⟨?_, hB.trans (hb5.mono hB.size)⟩
            rfl
  · have HNO := Lib.hid (show ¬ PastR (⟨bA, bc, base, t, oA, oc, ops, uA, uc, us, wA, wc, now⟩ : Pw).v from fun h => h1 ⟨h.2.1, h.2.2.1⟩)
    rcases (show t < 0 ∨ (¬ t < 0 ∧ 1099511627776 < t) by omega) with h2 | ⟨h2, h3⟩
    all_goals
      clear h1
      go_enter Tryz.func47, Tryz.ntmps47
      go_wp2_with fail
      go_ret
      refine ⟨?_, hB⟩
      have hbf := false_of_not HV.out HNO.out
      clear HV HNO
      subst hbf
      rfl
end Go.Proofs.YtfpgfclmmdihjaaGreat

/- Entries as values: which may be, their bytes, what is read of bytes, what counts come to behind them. No call in it. -/
namespace Go.Proofs.YtfpgfclmmdihjaaGreat
open Go.RowKit Nam Cod

structure En where
  k : Int
  d : Int
  i : Int
  o : Mv
def zeroB (o : Mv) : Bool := decide (o.C = 0 ∧ o.D = 0 ∧ o.I = 0 ∧ o.M = 0 ∧ o.K = 0 ∧ o.U = 0 ∧ o.s = ⟨#[]⟩)
theorem zeroB_iff {o : Mv} : zeroB o = true ↔ o = zeroMv := by
  unfold zeroB zeroMv
  rw [decide_eq_true_iff]
  obtain ⟨C, D, I, M, K, U, s⟩ := o
  simp
def okB (o : Mv) : Bool := opB o.C o.D o.I o.M o.K o.U o.s
def lifeB (d i : Int) : Bool := decide (0 ≤ d ∧ d < 12 ∧ 1 ≤ i ∧ i ≤ 1099511627776)
def entB (e : En) : Bool := if e.k = 1 then decide (e.d = 0 ∧ e.i = 0) && okB e.o else if e.k = 2 ∨ e.k = 3 then lifeB e.d e.i && zeroB e.o else false
def entBytes (e : En) : ByteArray := if e.k = 1 then bytesOf e.k ++ e.o.bytes else bytesOf e.k ++ bytesOf e.d ++ bytesOf e.i
def zeroEn : En := ⟨0, 0, 0, zeroMv⟩
def isEnt (s : ByteArray) (p : Nat) (bad : Bool) : Option (En × Nat) :=
  (isNum s p bad).bind fun a => if a.1 = 1 then (isOp s a.2 false).bind fun b => some (⟨1, 0, 0, b.1⟩, b.2) else
    (isNum s a.2 false).bind fun b => (isNum s b.2 false).bind fun c => if entB ⟨a.1, b.1, c.1, zeroMv⟩ = true then some (⟨a.1, b.1, c.1, zeroMv⟩, c.2) else none
def parseEnt (s : ByteArray) : Option En := (isEnt s 0 false).bind fun x => if x.2 = s.size then some x.1 else none

theorem entB_op {o : Mv} (h : okB o = true) : entB ⟨1, 0, 0, o⟩ = true := by
  unfold entB; simp [h]
theorem entB_one {e : En} (h : entB e = true) (h1 : e.k = 1) : e.d = 0 ∧ e.i = 0 ∧ okB e.o = true := by
  unfold entB at h
  rw [if_pos h1, Bool.and_eq_true, decide_eq_true_iff] at h
  exact ⟨h.1.1, h.1.2, h.2⟩
theorem entB_two {e : En} (h : entB e = true) (h1 : ¬ e.k = 1) : (e.k = 2 ∨ e.k = 3) ∧ (0 ≤ e.d ∧ e.d < 12 ∧ 1 ≤ e.i ∧ e.i ≤ 1099511627776) ∧ e.o = zeroMv := by
  unfold entB at h
  rw [if_neg h1] at h
  by_cases h2 : e.k = 2 ∨ e.k = 3
  · rw [if_pos h2, Bool.and_eq_true] at h
    unfold lifeB at h
    rw [decide_eq_true_iff, zeroB_iff] at h
    exact ⟨h2, h.1, h.2⟩
  · rw [if_neg h2] at h; cases h
theorem i64_of {n : Int} (h : -1099511627776 ≤ n ∧ n ≤ 1099511627776) : i64 n := by unfold i64; omega
theorem op_there' (A Z : ByteArray) {o : Mv} (h : okB o = true) : isOp (A ++ (o.bytes ++ Z)) A.size false = some (o, A.size + o.bytes.size) := by
  obtain ⟨C, D, I, M, K, U, s⟩ := o
  exact op_there A Z C D I M K U s h
theorem ent_there (A Z : ByteArray) (e : En) (h : entB e = true) : isEnt (A ++ (entBytes e ++ Z)) A.size false = some (e, A.size + (entBytes e).size) := by
  by_cases h1 : e.k = 1
  · obtain ⟨h2, h3, h4⟩ := entB_one h h1
    obtain ⟨k, d, i, o⟩ := e
    dsimp only at h1 h2 h3 h4
    subst h1 h2 h3
    have hE : entBytes ⟨1, 0, 0, o⟩ = bytesOf 1 ++ o.bytes := rfl
    rw [hE]
    have hN := num_at (A ++ (bytesOf 1 ++ o.bytes ++ Z)) A (o.bytes ++ Z) 1 A.size (by rw [ByteArray.append_assoc]) rfl (i64_of (by omega))
    have hO := op_there' (A ++ bytesOf 1) Z h4
    rw [show A ++ bytesOf 1 ++ (o.bytes ++ Z) = A ++ (bytesOf 1 ++ o.bytes ++ Z) by rw [ByteArray.append_assoc, ByteArray.append_assoc], ByteArray.size_append] at hO
    unfold isEnt
    rw [hN, Option.bind_some, if_pos rfl, hO, Option.bind_some, ByteArray.size_append, Nat.add_assoc]
  · obtain ⟨h2, h3, h4⟩ := entB_two h h1
    obtain ⟨k, d, i, o⟩ := e
    dsimp only at h1 h2 h3 h4
    subst h4
    have hE : entBytes ⟨k, d, i, zeroMv⟩ = bytesOf k ++ bytesOf d ++ bytesOf i := by unfold entBytes; rw [if_neg h1]
    rw [hE]
    have hN := num_at (A ++ (bytesOf k ++ bytesOf d ++ bytesOf i ++ Z)) A (bytesOf d ++ (bytesOf i ++ Z)) k A.size (by simp only [ByteArray.append_assoc]) rfl (i64_of (by omega))
    have hD := num_at (A ++ (bytesOf k ++ bytesOf d ++ bytesOf i ++ Z)) (A ++ bytesOf k) (bytesOf i ++ Z) d (A.size + (bytesOf k).size) (by simp only [ByteArray.append_assoc]) (by rw [ByteArray.size_append]) (i64_of (by omega))
    have hI := num_at (A ++ (bytesOf k ++ bytesOf d ++ bytesOf i ++ Z)) (A ++ bytesOf k ++ bytesOf d) Z i (A.size + (bytesOf k).size + (bytesOf d).size) (by simp only [ByteArray.append_assoc]) (by rw [ByteArray.size_append, ByteArray.size_append]) (i64_of (by omega))
    unfold isEnt
    rw [hN, Option.bind_some, if_neg h1, hD, Option.bind_some, hI, Option.bind_some, if_pos h, ByteArray.size_append, ByteArray.size_append]
    simp only [Nat.add_assoc]
theorem ent_bytes {s : ByteArray} {p : Nat} {bad : Bool} {e : En} {q : Nat} (h : isEnt s p bad = some (e, q)) : entB e = true ∧ (L s).drop p = L (entBytes e) ++ (L s).drop q := by
  unfold isEnt at h
  cases ha : isNum s p bad with
  | none => rw [ha] at h; cases h
  | some a =>
    obtain ⟨k, qk⟩ := a
    rw [ha, Option.bind_some] at h
    have h1 := num_bytes ha
    dsimp only at h
    by_cases hk : k = 1
    · rw [if_pos hk] at h
      cases hb : isOp s qk false with
      | none => rw [hb] at h; cases h
      | some b =>
        obtain ⟨o, qo⟩ := b
        rw [hb, Option.bind_some] at h
        injection h with h
        injection h with h2 h3
        subst h2 h3
        obtain ⟨g1, g2⟩ := op_bytes hb
        refine ⟨entB_op g1, ?_⟩
        have hE : entBytes ⟨1, 0, 0, o⟩ = bytesOf 1 ++ o.bytes := rfl
        rw [h1, g2, hE, L_app, List.append_assoc, hk]; rfl
    · rw [if_neg hk] at h
      cases hb : isNum s qk false with
      | none => rw [hb] at h; cases h
      | some b =>
        obtain ⟨d, qd⟩ := b
        rw [hb, Option.bind_some] at h
        dsimp only at h
        cases hc : isNum s qd false with
        | none => rw [hc] at h; cases h
        | some c =>
          obtain ⟨i, qi⟩ := c
          rw [hc, Option.bind_some] at h
          dsimp only at h
          by_cases hB : entB ⟨k, d, i, zeroMv⟩ = true
          · rw [if_pos hB] at h
            injection h with h
            injection h with h2 h3
            subst h2 h3
            refine ⟨hB, ?_⟩
            have hE : entBytes ⟨k, d, i, zeroMv⟩ = bytesOf k ++ bytesOf d ++ bytesOf i := by unfold entBytes; rw [if_neg hk]
            rw [h1, num_bytes hb, num_bytes hc, hE, L_app, L_app, List.append_assoc, List.append_assoc]
          · rw [if_neg hB] at h; cases h
theorem eparse_bytes {s : ByteArray} {e : En} (h : parseEnt s = some e) : entB e = true ∧ entBytes e = s := by
  unfold parseEnt at h
  cases ha : isEnt s 0 false with
  | none => rw [ha] at h; cases h
  | some a =>
    obtain ⟨x, q⟩ := a
    rw [ha, Option.bind_some] at h
    dsimp only at h
    by_cases hq : q = s.size
    · rw [if_pos hq] at h
      injection h with h
      subst h
      obtain ⟨g1, g2⟩ := ent_bytes ha
      refine ⟨g1, ?_⟩
      rw [List.drop_zero, hq, List.drop_eq_nil_of_le (by rw [L_len]; exact Nat.le_refl _), List.append_nil] at g2
      exact (L_inj g2).symm
    · rw [if_neg hq] at h; cases h
theorem ent_self {e : En} (h : entB e = true) : isEnt (entBytes e) 0 false = some (e, (entBytes e).size) := by
  have := ent_there ⟨#[]⟩ ⟨#[]⟩ e h
  have e0 : (⟨#[]⟩ : ByteArray) ++ (entBytes e ++ ⟨#[]⟩) = entBytes e := L_inj (by rw [L_app, L_app]; simp [L])
  rw [e0, show (⟨#[]⟩ : ByteArray).size = 0 from rfl, Nat.zero_add] at this
  exact this
theorem eparse_self {e : En} (h : entB e = true) : parseEnt (entBytes e) = some e := by
  unfold parseEnt
  rw [ent_self h, Option.bind_some, if_pos rfl]
theorem eprint_inj {a b : En} (ha : entB a = true) (hb : entB b = true) (h : entBytes a = entBytes b) : a = b := by
  have h1 := eparse_self ha
  rw [h, eparse_self hb] at h1
  injection h1 with h1
  exact h1.symm
theorem ent_le {e : En} (h : entB e = true) : (entBytes e).size ≤ 96 := by
  unfold entBytes
  have hb : ∀ n, i64 n → (bytesOf n).size ≤ 10 := fun n hn => by
    rw [bytesOf_size]; exact enc_ten _ (fold_lt n hn.1 hn.2)
  by_cases h1 : e.k = 1
  · rw [if_pos h1, ByteArray.size_append]
    have h2 := bytes_le (m := e.o) (entB_one h h1).2.2
    have h3 := hb e.k (i64_of (by omega))
    omega
  · obtain ⟨h2, h3, _⟩ := entB_two h h1
    rw [if_neg h1, ByteArray.size_append, ByteArray.size_append]
    have g1 := hb e.k (i64_of (by omega))
    have g2 := hb e.d (i64_of (by omega))
    have g3 := hb e.i (i64_of (by omega))
    omega

/-- Entries one behind the other. -/
def ecat : List En → ByteArray
  | [] => ⟨#[]⟩
  | e :: l => entBytes e ++ ecat l
theorem ecat_app : ∀ l m : List En, ecat (l ++ m) = ecat l ++ ecat m
  | [], m => L_inj (by show L (ecat m) = L (⟨#[]⟩ ++ ecat m); rw [L_app]; simp [L])
  | e :: l, m => by rw [List.cons_append, ecat, ecat, ecat_app l m, ByteArray.append_assoc]
theorem ecat_one (e : En) : ecat [e] = entBytes e := L_inj (by show L (entBytes e ++ ⟨#[]⟩) = _; rw [L_app]; simp [L])
theorem ecat_next (l : List En) (k : Nat) (h : k < l.length) : ecat (l.take (k + 1)) = ecat (l.take k) ++ entBytes l[k] := by
  rw [List.take_succ_eq_append_getElem h, ecat_app, ecat_one]
theorem ecat_le : ∀ l : List En, (∀ e ∈ l, entB e = true) → (ecat l).size ≤ 96 * l.length
  | [], _ => Nat.zero_le _
  | e :: l, h => by
    have h1 := ent_le (h e (by simp))
    have h2 := ecat_le l (fun x hx => h x (by simp [hx]))
    rw [ecat, ByteArray.size_append, List.length_cons]; omega
theorem ecat_at (l : List En) (k : Nat) (h : k < l.length) (hok : entB l[k] = true) : isEnt (ecat l) (ecat (l.take k)).size false = some (l[k], (ecat (l.take (k + 1))).size) := by
  have h1 : ecat l = ecat (l.take k) ++ (entBytes l[k] ++ ecat (l.drop (k + 1))) := by
    have h2 : l = l.take k ++ l[k] :: l.drop (k + 1) := by
      rw [List.getElem_cons_drop, List.take_append_drop]
    conv => lhs; rw [h2, ecat_app, ecat]
  have h3 := ent_there (ecat (l.take k)) (ecat (l.drop (k + 1))) l[k] hok
  rw [← h1] at h3
  rw [h3, ecat_next l k h, ByteArray.size_append]
theorem ecat_pos (l : List En) (k : Nat) : (ecat (l.take k)).size ≤ (ecat l).size := by
  conv => rhs; rw [← List.take_append_drop k l, ecat_app, ByteArray.size_append]
  omega

/-- Counts. -/
structure Cn where
  d : Int
  i : Int
  n : Int
deriving DecidableEq
def cntOf (e : En) : Option Cn := if e.k = 1 then some ⟨e.o.D, e.o.I, e.o.M⟩ else if e.k = 3 then some ⟨e.d, e.i, 0⟩ else none
/-- Where a device's count stands, or would stand. -/
def cutC (l : List Cn) (d : Int) : Nat := match l with
  | [] => 0
  | x :: r => if x.d < d then cutC r d + 1 else 0
theorem cutC_le : ∀ (l : List Cn) (d : Int), cutC l d ≤ l.length
  | [], _ => Nat.le_refl _
  | x :: r, d => by
    unfold cutC
    have := cutC_le r d
    split
    · rw [List.length_cons]; omega
    · omega
theorem cutC_lt : ∀ (l : List Cn) (d : Int) (j : Nat) (h : j < l.length), j < cutC l d → l[j].d < d
  | x :: r, d, j, h, hj => by
    unfold cutC at hj
    split at hj
    · cases j with
      | zero => assumption
      | succ j => exact cutC_lt r d j (by simpa using h) (by omega)
    · omega
theorem cutC_ge : ∀ (l : List Cn) (d : Int) (h : cutC l d < l.length), d ≤ l[cutC l d].d
  | x :: r, d, h => by
    by_cases e : x.d < d
    · have hc : cutC (x :: r) d = cutC r d + 1 := by
        conv => lhs; unfold cutC
        rw [if_pos e]
      rw [hc] at h
      have := cutC_ge r d (by simpa using h)
      simp only [hc, List.getElem_cons_succ]
      exact this
    · have hc : cutC (x :: r) d = 0 := by
        conv => lhs; unfold cutC
        rw [if_neg e]
      simp only [hc, List.getElem_cons_zero]
      omega
/-- How many stand there of the device: none or one. -/
def hereC (l : List Cn) (d : Int) : Nat := if h : cutC l d < l.length then (if l[cutC l d].d = d then 1 else 0) else 0
def putC (l : List Cn) (c : Cn) : List Cn := l.take (cutC l c.d) ++ c :: l.drop (cutC l c.d + hereC l c.d)
def tally (l : List Cn) (e : En) : List Cn := match cntOf e with
  | some c => putC l c
  | none => l
def RisC (l : List Cn) : Prop := l.Pairwise fun a b => a.d < b.d
theorem putC_len (l : List Cn) (c : Cn) : (putC l c).length ≤ l.length + 1 := by
  unfold putC
  have := cutC_le l c.d
  rw [List.length_append, List.length_cons, List.length_take, List.length_drop]; omega
theorem tally_len (l : List Cn) (e : En) : (tally l e).length ≤ l.length + 1 := by
  unfold tally
  cases cntOf e with
  | none => exact Nat.le_succ _
  | some c => exact putC_len l c
theorem take_lt {l : List Cn} {d : Int} {x : Cn} (h : x ∈ l.take (cutC l d)) : x.d < d := by
  obtain ⟨j, hj, rfl⟩ := List.getElem_of_mem h
  rw [List.length_take] at hj
  rw [List.getElem_take]
  exact cutC_lt l d j (by omega) (by omega)
theorem drop_gt {l : List Cn} (hr : RisC l) {d : Int} {x : Cn} (h : x ∈ l.drop (cutC l d + hereC l d)) : d < x.d := by
  obtain ⟨j, hj, rfl⟩ := List.getElem_of_mem h
  rw [List.length_drop] at hj
  rw [List.getElem_drop]
  have hc := cutC_le l d
  have hlt : cutC l d < l.length := by omega
  have hge := cutC_ge l d hlt
  have hpw := List.pairwise_iff_getElem.1 hr
  unfold hereC at hj ⊢
  simp only [dif_pos hlt] at hj ⊢
  by_cases e : l[cutC l d].d = d
  · simp only [if_pos e] at hj ⊢
    have := hpw (cutC l d) (cutC l d + 1 + j) hlt (by omega) (by omega)
    omega
  · simp only [if_neg e] at hj ⊢
    by_cases hj0 : j = 0
    · subst hj0
      simp only [Nat.add_zero] at *
      omega
    · have := hpw (cutC l d) (cutC l d + 0 + j) hlt (by omega) (by omega)
      omega
theorem putC_ris {l : List Cn} (hr : RisC l) (c : Cn) : RisC (putC l c) := by
  unfold RisC putC
  rw [List.pairwise_append, List.pairwise_cons]
  refine ⟨hr.sublist (List.take_sublist _ _), ⟨fun x hx => drop_gt hr hx, hr.sublist (List.drop_sublist _ _)⟩, fun x hx y hy => ?_⟩
  have h1 := take_lt hx
  rcases List.mem_cons.1 hy with rfl | hy
  · exact h1
  · have := drop_gt hr hy; omega
theorem tally_ris {l : List Cn} (hr : RisC l) (e : En) : RisC (tally l e) := by
  unfold tally
  cases cntOf e with
  | none => exact hr
  | some c => exact putC_ris hr c
theorem mem_putC {l : List Cn} (hr : RisC l) {c x : Cn} (h : x ∈ putC l c) : x = c ∨ x ∈ l ∧ x.d ≠ c.d := by
  unfold putC at h
  rcases List.mem_append.1 h with h | h
  · exact Or.inr ⟨List.mem_of_mem_take h, by have := take_lt h; omega⟩
  · rcases List.mem_cons.1 h with h | h
    · exact Or.inl h
    · exact Or.inr ⟨List.mem_of_mem_drop h, by have := drop_gt hr h; omega⟩
/-- The counts behind entries; and what the last one of a device says. -/
def tallies (l : List En) : List Cn := l.foldl tally []
def zeroCn : Cn := ⟨0, 0, 0⟩
def wantStep (d : Int) (w : Cn) (e : En) : Cn := match cntOf e with
  | some c => if c.d = d then c else w
  | none => w
def wantOf (l : List En) (d : Int) : Cn := l.foldl (wantStep d) zeroCn
theorem tallies_next (l : List En) (k : Nat) (h : k < l.length) : tallies (l.take (k + 1)) = tally (tallies (l.take k)) l[k] := by
  unfold tallies
  rw [List.take_succ_eq_append_getElem h, List.foldl_append]; rfl
theorem wantOf_next (l : List En) (k : Nat) (h : k < l.length) (d : Int) : wantOf (l.take (k + 1)) d = wantStep d (wantOf (l.take k) d) l[k] := by
  unfold wantOf
  rw [List.take_succ_eq_append_getElem h, List.foldl_append]; rfl
theorem tallies_inv (l : List En) : ∀ k, k ≤ l.length → RisC (tallies (l.take k)) ∧ (tallies (l.take k)).length ≤ k ∧ ∀ x ∈ tallies (l.take k), wantOf (l.take k) x.d = x
  | 0, _ => ⟨by rw [List.take_zero]; exact List.Pairwise.nil, by rw [List.take_zero]; exact Nat.le_refl _, fun x hx => by rw [List.take_zero] at hx; cases hx⟩
  | k + 1, h => by
    obtain ⟨h1, h2, h3⟩ := tallies_inv l k (by omega)
    rw [tallies_next l k (by omega)]
    refine ⟨tally_ris h1 _, by have := tally_len (tallies (l.take k)) (l[k]'(by omega)); omega, fun x hx => ?_⟩
    rw [wantOf_next l k (by omega)]
    unfold tally at hx
    unfold wantStep
    cases hc : cntOf (l[k]'(by omega)) with
    | none => rw [hc] at hx; exact h3 x hx
    | some c =>
      rw [hc] at hx
      dsimp only at hx ⊢
      rcases mem_putC h1 hx with rfl | ⟨hm, hne⟩
      · rw [if_pos rfl]
      · rw [if_neg (fun e => hne e.symm)]; exact h3 x hm
end Go.Proofs.YtfpgfclmmdihjaaGreat

/- Queues of operations as values: what is pushed, acknowledged, allowed, sent, told, read. No call in it. -/
namespace Go.Proofs.YtfpgfclmmdihjaaGreat
open Go.RowKit Nam Cod

structure Qu where
  f : Int
  g : Int
  os : List Mv
def newQu : Qu := ⟨1, 0, []⟩
def nilQu : Qu := ⟨0, 0, []⟩
def pushQ (x : Qu) (o : Mv) : Qu := ⟨x.f, x.g, x.os ++ [o]⟩
def ackQ (x : Qu) (a : Int) : Qu := if a < x.f then x else ⟨x.f + min (a - x.f + 1) x.os.length, x.g, x.os.drop (min (a - x.f + 1) x.os.length).toNat⟩
def allowQ (x : Qu) (g : Int) : Qu := ⟨x.f, max x.g g, x.os⟩
def outQ (x : Qu) (most : Int) : List Mv := x.os.take (min most (x.g - x.f + 1)).toNat
def okL (l : List Mv) : Prop := ∀ o ∈ l, okB o = true
def opsBytes : List Mv → ByteArray
  | [] => ⟨#[]⟩
  | o :: l => o.bytes ++ opsBytes l
def quBytes (x : Qu) : ByteArray := bytesOf x.f ++ bytesOf x.g ++ bytesOf x.os.length ++ opsBytes x.os
structure QuR (x : Qu) : Prop where
  f1 : 1 ≤ x.f
  fm : x.f ≤ 1099511627776
  g0 : 0 ≤ x.g
  gm : x.g ≤ 1099511627776
  ok : okL x.os
theorem opsBytes_next (l : List Mv) (k : Nat) (h : k < l.length) : opsBytes (l.take (k + 1)) = opsBytes (l.take k) ++ l[k].bytes := by
  induction l generalizing k with
  | nil => exact absurd h (Nat.not_lt_zero _)
  | cons a l ih =>
    cases k with
    | zero =>
      show opsBytes [a] = opsBytes [] ++ a.bytes
      apply L_inj
      show L (a.bytes ++ ⟨#[]⟩) = L (⟨#[]⟩ ++ a.bytes)
      rw [L_app, L_app]; simp [L]
    | succ k =>
      rw [List.length_cons] at h
      rw [List.take_succ_cons, List.take_succ_cons, opsBytes, opsBytes, ih k (by omega), ByteArray.append_assoc]
      rfl
theorem opsBytes_le : ∀ l : List Mv, (∀ o ∈ l, o.bytes.size ≤ 1000070) → (opsBytes l).size ≤ 1000070 * l.length
  | [], _ => Nat.zero_le _
  | o :: l, h => by
    have h1 := h o (by simp)
    have h2 := opsBytes_le l (fun x hx => h x (by simp [hx]))
    rw [opsBytes, ByteArray.size_append, List.length_cons]; omega
theorem opsBytes_ok : ∀ l : List Mv, okL l → (opsBytes l).size ≤ 86 * l.length
  | [], _ => Nat.zero_le _
  | o :: l, h => by
    have h1 := bytes_le (m := o) (h o (by simp))
    have h2 := opsBytes_ok l (fun x hx => h x (by simp [hx]))
    rw [opsBytes, ByteArray.size_append, List.length_cons]; omega

theorem ackQ_len (x : Qu) (a : Int) : (ackQ x a).os.length ≤ x.os.length := by
  unfold ackQ
  split
  · exact Nat.le_refl _
  · dsimp only; rw [List.length_drop]; omega
theorem ackQ_R {x : Qu} (h : QuR x) (a : Int) (hm : x.f + x.os.length ≤ 1099511627776) : QuR (ackQ x a) := by
  have h1 := h.f1
  have h2 := h.fm
  unfold ackQ
  by_cases c : a < x.f
  · rw [if_pos c]; exact h
  · rw [if_neg c]
    exact ⟨by dsimp only; omega, by dsimp only; omega, h.g0, h.gm, fun o ho => h.ok o (List.mem_of_mem_drop ho)⟩
theorem ackQ_zero {x : Qu} (h : 1 ≤ x.f) : ackQ x 0 = x := by unfold ackQ; rw [if_pos (by omega)]
/-- What is acknowledged in two goes is acknowledged. -/
theorem ackQ_two (x : Qu) {a b : Int} (h : a ≤ b) : ackQ (ackQ x a) b = ackQ x b := by
  unfold ackQ
  by_cases c : a < x.f
  · rw [if_pos c]
  · rw [if_neg c, if_neg (show ¬ b < x.f by omega)]
    dsimp only
    rw [List.length_drop]
    by_cases c2 : b < x.f + min (a - x.f + 1) x.os.length
    · rw [if_pos c2]
      have e1 : min (a - x.f + 1) (x.os.length : Int) = min (b - x.f + 1) x.os.length := by omega
      rw [e1]
    · rw [if_neg c2, List.drop_drop]
      congr 1
      · omega
      · congr 1; omega
/-- An acknowledgement that came changes nothing. -/
theorem ackQ_old (x : Qu) {a b : Int} (h : a ≤ b) : ackQ (ackQ x b) a = ackQ x b := by
  obtain ⟨f, g, os⟩ := x
  unfold ackQ
  dsimp only
  by_cases c : b < f
  · rw [if_pos c]
    dsimp only
    rw [if_pos (by omega)]
  · rw [if_neg c]
    dsimp only
    rw [List.length_drop]
    by_cases c2 : a < f + min (b - f + 1) os.length
    · rw [if_pos c2]
    · rw [if_neg c2]
      have e1 : min (a - (f + min (b - f + 1) (os.length : Int)) + 1) (((os.length - (min (b - f + 1) (os.length : Int)).toNat : Nat)) : Int) = 0 := by omega
      rw [e1]
      simp

/-- Read from bytes. -/
def isOps (s : ByteArray) : Nat → Nat → Option (List Mv × Nat)
  | 0, p => some ([], p)
  | n + 1, p => (isOp s p false).bind fun a => (isOps s n a.2).bind fun b => some (a.1 :: b.1, b.2)
def isQu (s : ByteArray) (p : Nat) (bad : Bool) : Option (Qu × Nat) :=
  (isNum s p bad).bind fun a => (isNum s a.2 false).bind fun b => (isCount s b.2 false 4096).bind fun c => (isOps s c.1.toNat c.2).bind fun d =>
    if 1 ≤ a.1 ∧ a.1 ≤ 1099511627776 ∧ 0 ≤ b.1 ∧ b.1 ≤ 1099511627776 then some (⟨a.1, b.1, d.1⟩, d.2) else none
theorem isOps_next (s : ByteArray) : ∀ (k p : Nat), isOps s (k + 1) p = (isOps s k p).bind fun a => (isOp s a.2 false).bind fun e => some (a.1 ++ [e.1], e.2)
  | 0, p => by
    rw [isOps, isOps, Option.bind_some]
    cases isOp s p false with
    | none => rfl
    | some a => rfl
  | k + 1, p => by
    rw [isOps]
    cases h : isOp s p false with
    | none => rw [isOps, h]; rfl
    | some a =>
      rw [Option.bind_some, isOps_next s k a.2, isOps, h, Option.bind_some]
      cases isOps s k a.2 with
      | none => rfl
      | some b =>
        simp only [Option.bind_some]
        cases isOp s b.2 false with
        | none => rfl
        | some c => rfl
theorem isOps_none (s : ByteArray) (p k : Nat) (h : isOps s k p = none) : ∀ d, isOps s (k + d) p = none
  | 0 => h
  | d + 1 => by rw [← Nat.add_assoc, isOps_next, isOps_none s p k h d]; rfl
theorem ops_there : ∀ (l : List Mv) (A Z : ByteArray), okL l → isOps (A ++ (opsBytes l ++ Z)) l.length A.size = some (l, A.size + (opsBytes l).size)
  | [], A, Z, _ => rfl
  | o :: l, A, Z, h => by
    rw [List.length_cons, isOps, opsBytes]
    have h1 := op_there' A (opsBytes l ++ Z) (o := o) (h o (by simp))
    rw [show A ++ (o.bytes ++ opsBytes l ++ Z) = A ++ (o.bytes ++ (opsBytes l ++ Z)) by simp only [ByteArray.append_assoc], h1, Option.bind_some]
    have h2 := ops_there l (A ++ o.bytes) Z (fun y hy => h y (by simp [hy]))
    rw [ByteArray.append_assoc, ByteArray.size_append] at h2
    dsimp only
    rw [h2, Option.bind_some, ByteArray.size_append, Nat.add_assoc]
theorem ops_bytes : ∀ (n : Nat) (s : ByteArray) (p : Nat) (l : List Mv) (q : Nat), isOps s n p = some (l, q) → l.length = n ∧ okL l ∧ (L s).drop p = L (opsBytes l) ++ (L s).drop q
  | 0, s, p, l, q, h => by
    injection h with h
    injection h with h1 h2
    subst h1 h2
    exact ⟨rfl, (fun e he => by cases he), rfl⟩
  | n + 1, s, p, l, q, h => by
    rw [isOps] at h
    cases ha : isOp s p false with
    | none => rw [ha] at h; cases h
    | some a =>
      obtain ⟨e, qe⟩ := a
      rw [ha, Option.bind_some] at h
      dsimp only at h
      cases hb : isOps s n qe with
      | none => rw [hb] at h; cases h
      | some b =>
        obtain ⟨r, qr⟩ := b
        rw [hb, Option.bind_some] at h
        injection h with h
        injection h with h1 h2
        subst h1 h2
        obtain ⟨g1, g2⟩ := op_bytes ha
        obtain ⟨g3, g4, g5⟩ := ops_bytes n s qe r _ hb
        refine ⟨by rw [List.length_cons, g3], fun y hy => ?_, ?_⟩
        · rcases List.mem_cons.1 hy with rfl | hy
          · exact g1
          · exact g4 y hy
        · rw [g2, g5, opsBytes, L_app, List.append_assoc]; rfl
theorem isQu_some {s : ByteArray} {p : Nat} {bad : Bool} {x : Qu} {q : Nat} (h : isQu s p bad = some (x, q)) : ∃ q1 q2 q3, isNum s p bad = some (x.f, q1) ∧ isNum s q1 false = some (x.g, q2) ∧ isCount s q2 false 4096 = some ((x.os.length : Int), q3) ∧ isOps s x.os.length q3 = some (x.os, q) ∧ QuR x := by
  unfold isQu at h
  cases ha : isNum s p bad with
  | none => rw [ha] at h; cases h
  | some a =>
    obtain ⟨a, qa⟩ := a
    rw [ha, Option.bind_some] at h
    dsimp only at h
    cases hb : isNum s qa false with
    | none => rw [hb] at h; cases h
    | some b =>
      obtain ⟨b, qb⟩ := b
      rw [hb, Option.bind_some] at h
      dsimp only at h
      cases hc : isCount s qb false 4096 with
      | none => rw [hc] at h; cases h
      | some c =>
        obtain ⟨c, qc⟩ := c
        rw [hc, Option.bind_some] at h
        dsimp only at h
        cases hd : isOps s c.toNat qc with
        | none => rw [hd] at h; cases h
        | some d =>
          obtain ⟨l, qd⟩ := d
          rw [hd, Option.bind_some] at h
          dsimp only at h
          by_cases hl : 1 ≤ a ∧ a ≤ 1099511627776 ∧ 0 ≤ b ∧ b ≤ 1099511627776
          · rw [if_pos hl] at h
            injection h with h
            injection h with h1 h2
            subst h1 h2
            obtain ⟨g1, g2, _⟩ := ops_bytes _ _ _ _ _ hd
            obtain ⟨_, g3, g4⟩ := isCount_some hc
            have e1 : c = (l.length : Int) := by omega
            subst e1
            exact ⟨qa, qb, qc, rfl, hb, hc, hd, hl.1, hl.2.1, hl.2.2.1, hl.2.2.2, g2⟩
          · rw [if_neg hl] at h; cases h
theorem qu_of {s : ByteArray} {p : Nat} {bad : Bool} {a b c : Int} {q1 q2 q3 q : Nat} {l : List Mv} (h1 : isNum s p bad = some (a, q1)) (h2 : isNum s q1 false = some (b, q2)) (h3 : isCount s q2 false 4096 = some (c, q3)) (h4 : isOps s c.toNat q3 = some (l, q)) : isQu s p bad = if 1 ≤ a ∧ a ≤ 1099511627776 ∧ 0 ≤ b ∧ b ≤ 1099511627776 then some (⟨a, b, l⟩, q) else none := by
  unfold isQu
  rw [h1, Option.bind_some]
  dsimp only
  rw [h2, Option.bind_some]
  dsimp only
  rw [h3, Option.bind_some]
  dsimp only
  rw [h4, Option.bind_some]
theorem qu_bytes {s : ByteArray} {p : Nat} {bad : Bool} {x : Qu} {q : Nat} (h : isQu s p bad = some (x, q)) : QuR x ∧ x.os.length ≤ 4096 ∧ (L s).drop p = L (quBytes x) ++ (L s).drop q := by
  obtain ⟨q1, q2, q3, h1, h2, h3, h4, h5⟩ := isQu_some h
  obtain ⟨h6, _, h7⟩ := isCount_some h3
  obtain ⟨_, _, h8⟩ := ops_bytes _ _ _ _ _ h4
  refine ⟨h5, by omega, ?_⟩
  unfold quBytes
  rw [num_bytes h1, num_bytes h2, num_bytes h6, h8]
  simp only [L_app, List.append_assoc]
theorem qu_self {x : Qu} (h : QuR x) (hl : x.os.length ≤ 4096) : isQu (quBytes x) 0 false = some (x, (quBytes x).size) := by
  obtain ⟨a, b, l⟩ := x
  obtain ⟨h0, h1, h2, h3, h4⟩ := h
  dsimp only at h0 h1 h2 h3 h4 hl
  have hE : quBytes ⟨a, b, l⟩ = bytesOf a ++ bytesOf b ++ bytesOf l.length ++ opsBytes l := rfl
  have e0 : ∀ B : ByteArray, (⟨#[]⟩ : ByteArray) ++ B = B := fun B => L_inj (by rw [L_app]; simp [L])
  have e1 : ∀ B : ByteArray, B ++ (⟨#[]⟩ : ByteArray) = B := fun B => L_inj (by rw [L_app]; simp [L])
  have hA := num_at (quBytes ⟨a, b, l⟩) ⟨#[]⟩ (bytesOf b ++ bytesOf l.length ++ opsBytes l) a 0 (by rw [hE, e0]; simp only [ByteArray.append_assoc]) rfl (i64_of (by omega))
  have hB := num_at (quBytes ⟨a, b, l⟩) (bytesOf a) (bytesOf l.length ++ opsBytes l) b (0 + (bytesOf a).size) (by rw [hE]; simp only [ByteArray.append_assoc]) (by omega) (i64_of (by omega))
  have hC := count_there (bytesOf a ++ bytesOf b) (opsBytes l) l.length 4096 (by omega) (by omega) (by omega)
  have hD := ops_there l (bytesOf a ++ bytesOf b ++ bytesOf l.length) ⟨#[]⟩ h4
  rw [e1, ← hE] at hD
  rw [show bytesOf a ++ bytesOf b ++ (bytesOf (l.length : Int) ++ opsBytes l) = quBytes ⟨a, b, l⟩ by rw [hE]; simp only [ByteArray.append_assoc]] at hC
  rw [qu_of hA hB (by rw [show 0 + (bytesOf a).size + (bytesOf b).size = (bytesOf a ++ bytesOf b).size by rw [ByteArray.size_append]; omega]; exact hC) (by rw [show (bytesOf a ++ bytesOf b).size + (bytesOf (l.length : Int)).size = (bytesOf a ++ bytesOf b ++ bytesOf (l.length : Int)).size by rw [ByteArray.size_append (a := bytesOf a ++ bytesOf b)]]; exact hD), if_pos ⟨h0, h1, h2, h3⟩, hE]
  simp only [ByteArray.size_append]

/-- Steps. -/
def someO (n : Int) : Mv := ⟨1 + n, 0, 1, 1 + n, 2 + n % 9, 0, ⟨#[97]⟩⟩
structure Ad where
  k : Int
  n : Int
def stepQ (x : Qu) (c : Ad) (i : Int) : Qu := if c.k = 0 then pushQ x (someO i) else if c.k = 1 then ackQ x c.n else if c.k = 2 then allowQ x c.n else x
def fineA (c : Ad) : Prop := -549755813888 ≤ c.n ∧ c.n ≤ 549755813888
def playQ : List Ad → Int → Qu → Qu
  | [], _, x => x
  | c :: l, i, x => playQ l (i + 1) (stepQ x c i)
def qAt (l : List Ad) (k : Nat) : Qu := playQ (l.take k) 0 newQu
theorem playQ_app : ∀ (l : List Ad) (c : Ad) (i : Int) (x : Qu), playQ (l ++ [c]) i x = stepQ (playQ l i x) c (i + l.length)
  | [], c, i, x => by simp [playQ]
  | a :: l, c, i, x => by
    rw [List.cons_append, playQ, playQ_app l c (i + 1), playQ, List.length_cons]
    have h1 : i + 1 + (l.length : Int) = i + ((l.length + 1 : Nat) : Int) := by omega
    rw [h1]
theorem qAt_next (l : List Ad) (k : Nat) (h : k < l.length) : qAt l (k + 1) = stepQ (qAt l k) l[k] k := by
  unfold qAt
  rw [List.take_succ_eq_append_getElem h, playQ_app, List.length_take, Nat.min_eq_left (by omega), Int.zero_add]
theorem someO_ok {n : Int} (h0 : 0 ≤ n) (h1 : n ≤ 1000) : okB (someO n) = true := by
  have hn : isName (L ⟨#[97]⟩) = true := by decide +kernel
  have h2 : 0 ≤ n % 9 ∧ n % 9 < 9 := by omega
  unfold okB someO
  dsimp only
  rw [opB_in (rightB_iff.2 ⟨by omega, by omega, by omega, by omega⟩) ⟨by omega, by omega, by omega, by omega, by omega, by omega, by omega, by omega, by omega, by omega⟩]
  exact hn
end Go.Proofs.YtfpgfclmmdihjaaGreat

/- Reports as values: which may be, which is newer, what merging comes to, their bytes. No call in it. -/
namespace Go.Proofs.YtfpgfclmmdihjaaGreat
open Go.RowKit Cod

structure Rp where
  d : Int
  i : Int
  b : Int
  t : Int
  m : Int
  p : Int
  c : Int
  s : Int
  k : Int
def zeroRp : Rp := ⟨0, 0, 0, 0, 0, 0, 0, 0, 0⟩
def cnt0 (n : Int) : Bool := decide (0 ≤ n ∧ n ≤ 1099511627776)
def rpB (r : Rp) : Bool := decide (0 ≤ r.d ∧ r.d < 12 ∧ 1 ≤ r.i ∧ (r.m = 1 ∨ r.m = 2)) && (cnt0 r.i && (cnt0 r.b && (cnt0 r.t && (cnt0 r.p && (cnt0 r.c && (cnt0 r.s && cnt0 r.k))))))
structure RpR (r : Rp) : Prop where
  d : 0 ≤ r.d ∧ r.d < 12
  m : r.m = 1 ∨ r.m = 2
  i : 1 ≤ r.i ∧ r.i ≤ 1099511627776
  b : 0 ≤ r.b ∧ r.b ≤ 1099511627776
  t : 0 ≤ r.t ∧ r.t ≤ 1099511627776
  p : 0 ≤ r.p ∧ r.p ≤ 1099511627776
  c : 0 ≤ r.c ∧ r.c ≤ 1099511627776
  s : 0 ≤ r.s ∧ r.s ≤ 1099511627776
  k : 0 ≤ r.k ∧ r.k ≤ 1099511627776
theorem rpB_iff {r : Rp} : rpB r = true ↔ RpR r := by
  unfold rpB cnt0
  simp only [Bool.and_eq_true, decide_eq_true_iff]
  constructor
  · rintro ⟨⟨h1, h2, h3, h4⟩, h5, h6, h7, h8, h9, h10, h11⟩
    exact ⟨⟨h1, h2⟩, h4, ⟨h3, h5.2⟩, h6, h7, h8, h9, h10, h11⟩
  · rintro ⟨h1, h2, h3, h4, h5, h6, h7, h8, h9⟩
    exact ⟨⟨h1.1, h1.2, h3.1, h2⟩, ⟨by omega, h3.2⟩, h4, h5, h6, h7, h8, h9⟩
def newB (a b : Rp) : Bool := if a.i = b.i then (if a.b = b.b then decide (b.t < a.t) else decide (b.b < a.b)) else decide (b.i < a.i)
theorem newB_iff {a b : Rp} : newB a b = true ↔ b.i < a.i ∨ (a.i = b.i ∧ (b.b < a.b ∨ (a.b = b.b ∧ b.t < a.t))) := by
  unfold newB
  split
  · split
    · rw [decide_eq_true_iff]; omega
    · rw [decide_eq_true_iff]; omega
  · rw [decide_eq_true_iff]; omega
theorem newB_self (a : Rp) : newB a a = false := by
  rw [Bool.eq_false_iff]; intro h; rw [newB_iff] at h; omega
theorem newB_trans {a b c : Rp} (h : newB a b = true) (k : newB b c = true) : newB a c = true := by
  rw [newB_iff] at *; omega
theorem newB_anti {a b : Rp} (h : newB a b = true) : newB b a = false := by
  rw [Bool.eq_false_iff]; intro k; rw [newB_iff] at *; omega
theorem newB_not {a b : Rp} (h : newB a b = false) (k : newB b a = false) : a.i = b.i ∧ a.b = b.b ∧ a.t = b.t := by
  rw [Bool.eq_false_iff] at h k
  have h := mt newB_iff.2 h
  have k := mt newB_iff.2 k
  omega

/-- Merged: ahead of the first that isn't of a lesser device, or in its place. -/
def mergeR : List Rp → Rp → List Rp
  | [], r => [r]
  | x :: l, r => if x.d < r.d then x :: mergeR l r else if x.d = r.d then (if newB r x = true then r :: l else x :: l) else r :: x :: l
/-- How many are of lesser devices, at the front. -/
def cutR : List Rp → Int → Nat
  | [], _ => 0
  | x :: l, d => if x.d < d then cutR l d + 1 else 0
theorem cutR_le : ∀ (l : List Rp) (d : Int), cutR l d ≤ l.length
  | [], _ => Nat.le_refl _
  | x :: l, d => by
    unfold cutR
    split
    · rw [List.length_cons]; have := cutR_le l d; omega
    · exact Nat.zero_le _
theorem cutR_lt : ∀ (l : List Rp) (d : Int) (j : Nat) (h : j < l.length), j < cutR l d → l[j].d < d
  | [], _, j, h, _ => absurd h (Nat.not_lt_zero j)
  | x :: l, d, j, h, hc => by
    unfold cutR at hc
    split at hc
    · rename_i hx
      cases j with
      | zero => exact hx
      | succ j => exact cutR_lt l d j (by rw [List.length_cons] at h; omega) (by omega)
    · omega
theorem cutR_at : ∀ (l : List Rp) (d : Int) (h : cutR l d < l.length), ¬ l[cutR l d].d < d
  | [], _, h => absurd h (Nat.not_lt_zero _)
  | x :: l, d, h => by
    by_cases hx : x.d < d
    · have e : cutR (x :: l) d = cutR l d + 1 := if_pos hx
      simp only [e, List.getElem_cons_succ]
      exact cutR_at l d (by rw [e, List.length_cons] at h; omega)
    · have e : cutR (x :: l) d = 0 := if_neg hx
      simp only [e, List.getElem_cons_zero]
      exact hx
theorem mergeR_new : ∀ (l : List Rp) (r : Rp), (∀ h : cutR l r.d < l.length, l[cutR l r.d].d ≠ r.d) → mergeR l r = l.take (cutR l r.d) ++ [r] ++ l.drop (cutR l r.d)
  | [], r, _ => rfl
  | x :: l, r, h => by
    unfold mergeR
    by_cases hx : x.d < r.d
    · have e : cutR (x :: l) r.d = cutR l r.d + 1 := if_pos hx
      rw [if_pos hx, e, mergeR_new l r (fun h2 => by
        have := h (by rw [e, List.length_cons]; omega)
        simp only [e, List.getElem_cons_succ] at this
        exact this)]
      rfl
    · have e : cutR (x :: l) r.d = 0 := if_neg hx
      have hne : x.d ≠ r.d := by
        have := h (by rw [e, List.length_cons]; omega)
        simp only [e, List.getElem_cons_zero] at this
        exact this
      rw [if_neg hx, if_neg hne, e]; rfl
theorem mergeR_old : ∀ (l : List Rp) (r : Rp) (h : cutR l r.d < l.length), l[cutR l r.d].d = r.d → mergeR l r = if newB r l[cutR l r.d] = true then l.set (cutR l r.d) r else l
  | [], _, h, _ => absurd h (Nat.not_lt_zero _)
  | x :: l, r, h, hd => by
    unfold mergeR
    by_cases hx : x.d < r.d
    · have e : cutR (x :: l) r.d = cutR l r.d + 1 := if_pos hx
      simp only [e, List.getElem_cons_succ] at hd ⊢
      rw [if_pos hx, mergeR_old l r (by rw [e, List.length_cons] at h; omega) hd, List.set_cons_succ]
      split <;> rfl
    · have e : cutR (x :: l) r.d = 0 := if_neg hx
      simp only [e, List.getElem_cons_zero] at hd ⊢
      rw [if_neg hx, if_pos hd, List.set_cons_zero]
theorem mergeR_len (l : List Rp) (r : Rp) : (mergeR l r).length ≤ l.length + 1 := by
  induction l with
  | nil => exact Nat.le_refl _
  | cons x l ih =>
    unfold mergeR
    split
    · rw [List.length_cons, List.length_cons]; omega
    · split
      · split
        · rw [List.length_cons, List.length_cons]; omega
        · rw [List.length_cons]; omega
      · rw [List.length_cons, List.length_cons]; omega

/-- Rising devices. -/
def RisR : List Rp → Prop
  | [] => True
  | x :: l => (∀ y ∈ l, x.d < y.d) ∧ RisR l
theorem mergeR_mem : ∀ (l : List Rp) (r y : Rp), y ∈ mergeR l r → y = r ∨ y ∈ l
  | [], r, y, h => by
    have h : y ∈ [r] := h
    rw [List.mem_singleton] at h; exact Or.inl h
  | x :: l, r, y, h => by
    unfold mergeR at h
    split at h
    · rcases List.mem_cons.1 h with h | h
      · exact Or.inr (List.mem_cons.2 (Or.inl h))
      · rcases mergeR_mem l r y h with h | h
        · exact Or.inl h
        · exact Or.inr (List.mem_cons.2 (Or.inr h))
    · split at h
      · split at h
        · rcases List.mem_cons.1 h with h | h
          · exact Or.inl h
          · exact Or.inr (List.mem_cons.2 (Or.inr h))
        · exact Or.inr h
      · rcases List.mem_cons.1 h with h | h
        · exact Or.inl h
        · exact Or.inr h
theorem mergeR_ris : ∀ (l : List Rp) (r : Rp), RisR l → RisR (mergeR l r)
  | [], _, _ => ⟨(fun y h => by cases h), trivial⟩
  | x :: l, r, h => by
    unfold mergeR
    split
    · rename_i hx
      refine ⟨fun y hy => ?_, mergeR_ris l r h.2⟩
      rcases mergeR_mem l r y hy with rfl | hy
      · exact hx
      · exact h.1 y hy
    · rename_i hx
      split
      · rename_i he
        split
        · exact ⟨fun y hy => by rw [← he]; exact h.1 y hy, h.2⟩
        · exact h
      · rename_i he
        refine ⟨fun y hy => ?_, h⟩
        rcases List.mem_cons.1 hy with rfl | hy
        · omega
        · have := h.1 y hy; omega
/-- For each that was there, and for r, there is one that is as new. -/
theorem mergeR_has : ∀ (l : List Rp) (r x : Rp), (∀ y ∈ l, y.d = r.d → newB r y = true ∨ newB y r = true) → (x = r ∨ x ∈ l) → ∃ y ∈ mergeR l r, y.d = x.d ∧ (y = x ∨ newB y x = true)
  | [], r, x, _, h => by
    rcases h with rfl | h
    · exact ⟨x, List.mem_singleton.2 rfl, rfl, Or.inl rfl⟩
    · cases h
  | z :: l, r, x, hc, h => by
    unfold mergeR
    split
    · rcases h with h | h
      · obtain ⟨y, hy, h1, h2⟩ := mergeR_has l r x (fun y hy => hc y (List.mem_cons.2 (Or.inr hy))) (Or.inl h)
        exact ⟨y, List.mem_cons.2 (Or.inr hy), h1, h2⟩
      · rcases List.mem_cons.1 h with rfl | h
        · exact ⟨x, List.mem_cons.2 (Or.inl rfl), rfl, Or.inl rfl⟩
        · obtain ⟨y, hy, h1, h2⟩ := mergeR_has l r x (fun y hy => hc y (List.mem_cons.2 (Or.inr hy))) (Or.inr h)
          exact ⟨y, List.mem_cons.2 (Or.inr hy), h1, h2⟩
    · split
      · rename_i he
        split
        · rename_i hn
          rcases h with rfl | h
          · exact ⟨x, List.mem_cons.2 (Or.inl rfl), rfl, Or.inl rfl⟩
          · rcases List.mem_cons.1 h with rfl | h
            · exact ⟨r, List.mem_cons.2 (Or.inl rfl), he.symm, Or.inr hn⟩
            · exact ⟨x, List.mem_cons.2 (Or.inr h), rfl, Or.inl rfl⟩
        · rename_i hn
          rcases h with rfl | h
          · refine ⟨z, List.mem_cons.2 (Or.inl rfl), he, Or.inr ?_⟩
            rcases hc z (List.mem_cons.2 (Or.inl rfl)) he with h | h
            · exact absurd h hn
            · exact h
          · exact ⟨x, h, rfl, Or.inl rfl⟩
      · rcases h with rfl | h
        · exact ⟨x, List.mem_cons.2 (Or.inl rfl), rfl, Or.inl rfl⟩
        · exact ⟨x, List.mem_cons.2 (Or.inr h), rfl, Or.inl rfl⟩
def foldR (l : List Rp) : List Rp := l.foldl mergeR []
/-- Any two of one device, at two places, differ by what makes one the newer. -/
def Apart (l : List Rp) : Prop := l.Pairwise fun x y => x.d = y.d → newB x y = true ∨ newB y x = true
structure NewestR (l a : List Rp) : Prop where
  ris : RisR a
  mem : ∀ y ∈ a, y ∈ l
  has : ∀ x ∈ l, ∃ y ∈ a, y.d = x.d ∧ (y = x ∨ newB y x = true)
theorem foldR_snoc (l : List Rp) (r : Rp) : foldR (l ++ [r]) = mergeR (foldR l) r := by
  unfold foldR; rw [List.foldl_append]; rfl
theorem foldR_newest {l : List Rp} (h : Apart l) : ∀ k, k ≤ l.length → NewestR (l.take k) (foldR (l.take k))
  | 0, _ => by rw [List.take_zero]; exact ⟨trivial, (fun y h => by cases h), fun y h => by cases h⟩
  | k + 1, hk => by
    have ih := foldR_newest h k (by omega)
    rw [List.take_succ_eq_append_getElem (by omega), foldR_snoc]
    have hap : ∀ x ∈ l.take k, x.d = l[k].d → newB x l[k] = true ∨ newB l[k] x = true := fun x hx => by
      have h2 : (l.take (k + 1)).Pairwise fun x y => x.d = y.d → newB x y = true ∨ newB y x = true := List.Pairwise.sublist (List.take_sublist _ _) h
      rw [List.take_succ_eq_append_getElem (by omega), List.pairwise_append] at h2
      exact h2.2.2 x hx l[k] (by simp)
    refine ⟨mergeR_ris _ _ ih.ris, fun y hy => ?_, fun x hx => ?_⟩
    · rcases mergeR_mem _ _ y hy with rfl | hy
      · exact List.mem_append.2 (Or.inr (List.mem_singleton.2 rfl))
      · exact List.mem_append.2 (Or.inl (ih.mem y hy))
    · have hc : ∀ y ∈ foldR (l.take k), y.d = l[k].d → newB l[k] y = true ∨ newB y l[k] = true := fun y hy hd => (hap y (ih.mem y hy) hd).symm
      rcases List.mem_append.1 hx with hx | hx
      · obtain ⟨y, hy, h1, h2⟩ := ih.has x hx
        obtain ⟨z, hz, h3, h4⟩ := mergeR_has (foldR (l.take k)) l[k] y hc (Or.inr hy)
        refine ⟨z, hz, h3.trans h1, ?_⟩
        rcases h4 with rfl | h4
        · exact h2
        · rcases h2 with rfl | h2
          · exact Or.inr h4
          · exact Or.inr (newB_trans h4 h2)
      · rw [List.mem_singleton] at hx
        subst hx
        exact mergeR_has (foldR (l.take k)) l[k] l[k] hc (Or.inl rfl)
theorem ris_ext : ∀ {a b : List Rp}, RisR a → RisR b → (∀ y, y ∈ a ↔ y ∈ b) → a = b
  | [], [], _, _, _ => rfl
  | [], y :: b, _, _, h => by have := (h y).2 (by simp); cases this
  | x :: a, [], _, _, h => by have := (h x).1 (by simp); cases this
  | x :: a, y :: b, ha, hb, h => by
    have hxy : x = y := by
      rcases List.mem_cons.1 ((h x).1 (by simp)) with e | hx
      · exact e
      · rcases List.mem_cons.1 ((h y).2 (by simp)) with e | hy
        · exact e.symm
        · have h1 := ha.1 y hy
          have h2 := hb.1 x hx
          omega
    subst hxy
    congr 1
    refine ris_ext ha.2 hb.2 fun z => ⟨fun hz => ?_, fun hz => ?_⟩
    · rcases List.mem_cons.1 ((h z).1 (List.mem_cons.2 (Or.inr hz))) with rfl | h1
      · have := ha.1 z hz; omega
      · exact h1
    · rcases List.mem_cons.1 ((h z).2 (List.mem_cons.2 (Or.inr hz))) with rfl | h1
      · have := hb.1 z hz; omega
      · exact h1
theorem newest_sub {l a b : List Rp} (ha : NewestR l a) (hb : NewestR l b) {y : Rp} (hy : y ∈ a) : y ∈ b := by
  have uniq : ∀ {a : List Rp}, RisR a → ∀ x ∈ a, ∀ y ∈ a, x.d = y.d → x = y := by
    intro a
    induction a with
    | nil => intro _ x hx; cases hx
    | cons z a ih =>
      intro h x hx y hy e
      rcases List.mem_cons.1 hx with ex | hx1
      · rcases List.mem_cons.1 hy with ey | hy1
        · rw [ex, ey]
        · have := h.1 y hy1; rw [← ex] at this; omega
      · rcases List.mem_cons.1 hy with ey | hy1
        · have := h.1 x hx1; rw [← ey] at this; omega
        · exact ih h.2 x hx1 y hy1 e
  obtain ⟨z, hz, h1, h2⟩ := hb.has y (ha.mem y hy)
  rcases h2 with rfl | h2
  · exact hz
  · obtain ⟨v, hv, h3, h4⟩ := ha.has z (hb.mem z hz)
    have e : v = y := uniq ha.ris v hv y hy (h3.trans h1)
    subst e
    rcases h4 with rfl | h4
    · exact hz
    · rw [newB_anti h2] at h4; cases h4
/-- Whatever order they come in. -/
theorem newest_one {l a b : List Rp} (ha : NewestR l a) (hb : NewestR l b) : a = b :=
  ris_ext ha.ris hb.ris fun _ => ⟨newest_sub ha hb, newest_sub hb ha⟩
theorem newest_perm {l m a : List Rp} (h : NewestR m a) (hp : ∀ y, y ∈ m ↔ y ∈ l) : NewestR l a :=
  ⟨h.ris, fun y hy => (hp y).1 (h.mem y hy), fun x hx => h.has x ((hp x).2 hx)⟩
end Go.Proofs.YtfpgfclmmdihjaaGreat

/- Reports' bytes: nine numbers, one behind the other; what is read of bytes. No call in it. -/
namespace Go.Proofs.YtfpgfclmmdihjaaGreat
open Go.RowKit Cod

theorem num_atR (X A Z : ByteArray) (n : Int) (p : Nat) (hX : X = A ++ (bytesOf n ++ Z)) (hp : p = A.size) (h : i64 n) : isNum X p false = some (n, p + (bytesOf n).size) := by
  subst hX hp; exact num_there A Z n h.1 h.2
theorem num_bytesR {s : ByteArray} {p : Nat} {bad : Bool} {n : Int} {q : Nat} (h : isNum s p bad = some (n, q)) : (L s).drop p = L (bytesOf n) ++ (L s).drop q := by
  obtain ⟨_, ⟨m, hr, rfl⟩, _⟩ := isNum_some h
  have h1 := (rd_some hr).1
  show s.data.toList.drop p = enc (fold n) ++ s.data.toList.drop (p + m)
  rw [← h1, ← List.drop_drop, List.take_append_drop]
def catN : List Int → ByteArray
  | [] => ⟨#[]⟩
  | n :: l => bytesOf n ++ catN l
def rpL (r : Rp) : List Int := [r.d, r.i, r.b, r.t, r.m, r.p, r.c, r.s, r.k]
def ofL (l : List Int) : Rp := ⟨l.getD 0 0, l.getD 1 0, l.getD 2 0, l.getD 3 0, l.getD 4 0, l.getD 5 0, l.getD 6 0, l.getD 7 0, l.getD 8 0⟩
theorem ofL_rpL (r : Rp) : ofL (rpL r) = r := rfl
theorem rpL_ofL {l : List Int} (h : l.length = 9) : rpL (ofL l) = l := by
  match l, h with
  | [_, _, _, _, _, _, _, _, _], _ => rfl
def rpBytes (r : Rp) : ByteArray := catN (rpL r)
theorem catN_next (l : List Int) (k : Nat) (h : k < l.length) : catN (l.take (k + 1)) = catN (l.take k) ++ bytesOf l[k] := by
  induction l generalizing k with
  | nil => exact absurd h (Nat.not_lt_zero _)
  | cons a l ih =>
    cases k with
    | zero =>
      show catN [a] = catN [] ++ bytesOf a
      apply L_inj
      show L (bytesOf a ++ ⟨#[]⟩) = L (⟨#[]⟩ ++ bytesOf a)
      rw [L_app, L_app]; simp [L]
    | succ k =>
      rw [List.length_cons] at h
      rw [List.take_succ_cons, List.take_succ_cons, catN, catN, ih k (by omega), ByteArray.append_assoc]
      rfl
theorem catN_le : ∀ l : List Int, (∀ n ∈ l, i64 n) → (catN l).size ≤ 10 * l.length
  | [], _ => Nat.zero_le _
  | n :: l, h => by
    have h1 : (bytesOf n).size ≤ 10 := by rw [bytesOf_size]; exact enc_ten _ (fold_lt n (h n (by simp)).1 (h n (by simp)).2)
    have h2 := catN_le l (fun x hx => h x (by simp [hx]))
    rw [catN, ByteArray.size_append, List.length_cons]; omega
/-- So many numbers, one behind the other. -/
def isNums (s : ByteArray) : Nat → Nat → Option (List Int × Nat)
  | 0, p => some ([], p)
  | n + 1, p => (isNum s p false).bind fun a => (isNums s n a.2).bind fun b => some (a.1 :: b.1, b.2)
theorem isNums_next (s : ByteArray) : ∀ (k p : Nat), isNums s (k + 1) p = (isNums s k p).bind fun a => (isNum s a.2 false).bind fun e => some (a.1 ++ [e.1], e.2)
  | 0, p => by
    rw [isNums, isNums, Option.bind_some]
    cases isNum s p false with
    | none => rfl
    | some a => rfl
  | k + 1, p => by
    rw [isNums]
    cases h : isNum s p false with
    | none => rw [isNums, h]; rfl
    | some a =>
      rw [Option.bind_some, isNums_next s k a.2, isNums, h, Option.bind_some]
      cases isNums s k a.2 with
      | none => rfl
      | some b =>
        simp only [Option.bind_some]
        cases isNum s b.2 false with
        | none => rfl
        | some c => rfl
theorem isNums_none (s : ByteArray) (p k : Nat) (h : isNums s k p = none) : ∀ d, isNums s (k + d) p = none
  | 0 => h
  | d + 1 => by rw [← Nat.add_assoc, isNums_next, isNums_none s p k h d]; rfl
theorem nums_there : ∀ (l : List Int) (A Z : ByteArray), (∀ n ∈ l, i64 n) → isNums (A ++ (catN l ++ Z)) l.length A.size = some (l, A.size + (catN l).size)
  | [], A, Z, _ => rfl
  | n :: l, A, Z, h => by
    rw [List.length_cons, isNums, catN]
    have h1 := num_atR (A ++ (bytesOf n ++ catN l ++ Z)) A (catN l ++ Z) n A.size (by simp only [ByteArray.append_assoc]) rfl (h n (by simp))
    rw [h1, Option.bind_some]
    have h2 := nums_there l (A ++ bytesOf n) Z (fun y hy => h y (by simp [hy]))
    rw [ByteArray.append_assoc, ByteArray.size_append] at h2
    dsimp only
    rw [show A ++ (bytesOf n ++ catN l ++ Z) = A ++ (bytesOf n ++ (catN l ++ Z)) by simp only [ByteArray.append_assoc], h2, Option.bind_some, ByteArray.size_append, Nat.add_assoc]
theorem nums_bytes : ∀ (n : Nat) (s : ByteArray) (p : Nat) (l : List Int) (q : Nat), isNums s n p = some (l, q) → l.length = n ∧ (L s).drop p = L (catN l) ++ (L s).drop q
  | 0, s, p, l, q, h => by
    injection h with h
    injection h with h1 h2
    subst h1 h2
    exact ⟨rfl, rfl⟩
  | n + 1, s, p, l, q, h => by
    rw [isNums] at h
    cases ha : isNum s p false with
    | none => rw [ha] at h; cases h
    | some a =>
      obtain ⟨e, qe⟩ := a
      rw [ha, Option.bind_some] at h
      dsimp only at h
      cases hb : isNums s n qe with
      | none => rw [hb] at h; cases h
      | some b =>
        obtain ⟨r, qr⟩ := b
        rw [hb, Option.bind_some] at h
        injection h with h
        injection h with h1 h2
        subst h1 h2
        obtain ⟨g3, g5⟩ := nums_bytes n s qe r _ hb
        exact ⟨by rw [List.length_cons, g3], by rw [num_bytesR ha, g5, catN, L_app, List.append_assoc]⟩
def isRp (s : ByteArray) (p : Nat) (bad : Bool) : Option (Rp × Nat) := if bad then none else (isNums s 9 p).bind fun a => if rpB (ofL a.1) = true then some (ofL a.1, a.2) else none
theorem rp_bytes {s : ByteArray} {p : Nat} {bad : Bool} {x : Rp} {q : Nat} (h : isRp s p bad = some (x, q)) : RpR x ∧ (L s).drop p = L (rpBytes x) ++ (L s).drop q := by
  unfold isRp at h
  cases bad
  · rw [if_neg (by decide)] at h
    cases ha : isNums s 9 p with
    | none => rw [ha] at h; cases h
    | some a =>
      obtain ⟨l, qa⟩ := a
      rw [ha, Option.bind_some] at h
      dsimp only at h
      by_cases hb : rpB (ofL l) = true
      · rw [if_pos hb] at h
        injection h with h
        injection h with h1 h2
        subst h1 h2
        obtain ⟨g1, g2⟩ := nums_bytes _ _ _ _ _ ha
        refine ⟨rpB_iff.1 hb, ?_⟩
        unfold rpBytes
        rw [rpL_ofL g1, g2]
      · rw [if_neg hb] at h; cases h
  · rw [if_pos rfl] at h; cases h
theorem RpR.i64 {r : Rp} (h : RpR r) : ∀ n ∈ rpL r, i64 n := fun n hn => by
  obtain ⟨h1, h2, h3, h4, h5, h6, h7, h8, h9⟩ := h
  unfold rpL at hn
  simp only [List.mem_cons, List.not_mem_nil, or_false] at hn
  unfold Go.Proofs.YtfpgfclmmdihjaaGreat.i64
  rcases hn with rfl | rfl | rfl | rfl | rfl | rfl | rfl | rfl | rfl <;> omega
theorem rp_there (A Z : ByteArray) {x : Rp} (h : RpR x) : isRp (A ++ (rpBytes x ++ Z)) A.size false = some (x, A.size + (rpBytes x).size) := by
  have h1 := nums_there (rpL x) A Z h.i64
  unfold isRp rpBytes
  rw [if_neg (by decide), show (9 : Nat) = (rpL x).length from rfl, h1, Option.bind_some]
  dsimp only
  rw [ofL_rpL, if_pos (rpB_iff.2 h)]
theorem rp_self {x : Rp} (h : RpR x) : isRp (rpBytes x) 0 false = some (x, (rpBytes x).size) := by
  have := rp_there ⟨#[]⟩ ⟨#[]⟩ h
  have e0 : (⟨#[]⟩ : ByteArray) ++ (rpBytes x ++ ⟨#[]⟩) = rpBytes x := L_inj (by rw [L_app, L_app]; simp [L])
  rw [e0, show (⟨#[]⟩ : ByteArray).size = 0 from rfl, Nat.zero_add] at this
  exact this
theorem rp_first {s : ByteArray} {x : Rp} {q : Nat} (hq : q ≤ s.size) (h : isRp s 0 false = some (x, q)) : s.extract 0 q = rpBytes x := by
  obtain ⟨_, h3⟩ := rp_bytes h
  rw [List.drop_zero] at h3
  have hn : (L s).length = s.size := by simp [L]
  have hl := congrArg List.length h3
  rw [List.length_append, List.length_drop, hn] at hl
  apply L_inj
  have e : L (s.extract 0 q) = ((L s).drop 0).take (q - 0) := by
    unfold L
    simp [ByteArray.data_extract, List.extract_eq_take_drop]
  rw [e, List.drop_zero, Nat.sub_zero, h3, List.take_append_of_le_length (by omega), List.take_of_length_le (by omega)]
end Go.Proofs.YtfpgfclmmdihjaaGreat

/- Lists of things that have bytes, whatever the things: their bytes, what is read of bytes, step by step. No call in it. -/
namespace Go.Proofs.YtfpgfclmmdihjaaGreat
open Go.RowKit Cod

/-- A kind of things: which may be, their bytes, what is read of bytes. -/
structure Kd (α : Type) where
  ok : α → Bool
  b : α → ByteArray
  is : ByteArray → Nat → Bool → Option (α × Nat)
  there : ∀ (A Z : ByteArray) (x : α), ok x = true → is (A ++ (b x ++ Z)) A.size false = some (x, A.size + (b x).size)
  back : ∀ {s : ByteArray} {p : Nat} {bad : Bool} {x : α} {q : Nat}, is s p bad = some (x, q) → ok x = true ∧ (L s).drop p = L (b x) ++ (L s).drop q
namespace Kd
variable {α : Type} (K : Kd α)
def cat : List α → ByteArray
  | [] => ⟨#[]⟩
  | x :: l => K.b x ++ cat l
def isL (s : ByteArray) : Nat → Nat → Option (List α × Nat)
  | 0, p => some ([], p)
  | n + 1, p => (K.is s p false).bind fun a => (isL s n a.2).bind fun b => some (a.1 :: b.1, b.2)
theorem cat_next (l : List α) (k : Nat) (h : k < l.length) : K.cat (l.take (k + 1)) = K.cat (l.take k) ++ K.b l[k] := by
  induction l generalizing k with
  | nil => exact absurd h (Nat.not_lt_zero _)
  | cons a l ih =>
    cases k with
    | zero =>
      show K.cat [a] = K.cat [] ++ K.b a
      apply L_inj
      show L (K.b a ++ ⟨#[]⟩) = L (⟨#[]⟩ ++ K.b a)
      rw [L_app, L_app]; simp [L]
    | succ k =>
      rw [List.length_cons] at h
      rw [List.take_succ_cons, List.take_succ_cons, cat, cat, ih k (by omega), ByteArray.append_assoc]
      rfl
theorem cat_le (n : Nat) : ∀ l : List α, (∀ x ∈ l, (K.b x).size ≤ n) → (K.cat l).size ≤ n * l.length
  | [], _ => Nat.zero_le _
  | x :: l, h => by
    have h1 := h x (by simp)
    have h2 := cat_le n l (fun y hy => h y (by simp [hy]))
    rw [cat, ByteArray.size_append, List.length_cons, Nat.mul_add, Nat.mul_one]; omega
theorem isL_next (s : ByteArray) : ∀ (k p : Nat), K.isL s (k + 1) p = (K.isL s k p).bind fun a => (K.is s a.2 false).bind fun e => some (a.1 ++ [e.1], e.2)
  | 0, p => by
    rw [isL, isL, Option.bind_some]
    cases K.is s p false with
    | none => rfl
    | some a => rfl
  | k + 1, p => by
    rw [isL]
    cases h : K.is s p false with
    | none => rw [isL, h]; rfl
    | some a =>
      rw [Option.bind_some, isL_next s k a.2, isL, h, Option.bind_some]
      cases K.isL s k a.2 with
      | none => rfl
      | some b =>
        simp only [Option.bind_some]
        cases K.is s b.2 false with
        | none => rfl
        | some c => rfl
theorem isL_none (s : ByteArray) (p k : Nat) (h : K.isL s k p = none) : ∀ d, K.isL s (k + d) p = none
  | 0 => h
  | d + 1 => by rw [← Nat.add_assoc, isL_next, isL_none s p k h d]; rfl
theorem l_there : ∀ (l : List α) (A Z : ByteArray), (∀ x ∈ l, K.ok x = true) → K.isL (A ++ (K.cat l ++ Z)) l.length A.size = some (l, A.size + (K.cat l).size)
  | [], A, Z, _ => rfl
  | o :: l, A, Z, h => by
    rw [List.length_cons, isL, cat]
    have h1 := K.there A (K.cat l ++ Z) o (h o (by simp))
    rw [show A ++ (K.b o ++ K.cat l ++ Z) = A ++ (K.b o ++ (K.cat l ++ Z)) by simp only [ByteArray.append_assoc], h1, Option.bind_some]
    have h2 := l_there l (A ++ K.b o) Z (fun y hy => h y (by simp [hy]))
    rw [ByteArray.append_assoc, ByteArray.size_append] at h2
    dsimp only
    rw [h2, Option.bind_some, ByteArray.size_append, Nat.add_assoc]
theorem l_bytes : ∀ (n : Nat) (s : ByteArray) (p : Nat) (l : List α) (q : Nat), K.isL s n p = some (l, q) → l.length = n ∧ (∀ x ∈ l, K.ok x = true) ∧ (L s).drop p = L (K.cat l) ++ (L s).drop q
  | 0, s, p, l, q, h => by
    injection h with h
    injection h with h1 h2
    subst h1 h2
    exact ⟨rfl, (fun e he => by cases he), rfl⟩
  | n + 1, s, p, l, q, h => by
    rw [isL] at h
    cases ha : K.is s p false with
    | none => rw [ha] at h; cases h
    | some a =>
      obtain ⟨e, qe⟩ := a
      rw [ha, Option.bind_some] at h
      dsimp only at h
      cases hb : K.isL s n qe with
      | none => rw [hb] at h; cases h
      | some b =>
        obtain ⟨r, qr⟩ := b
        rw [hb, Option.bind_some] at h
        injection h with h
        injection h with h1 h2
        subst h1 h2
        obtain ⟨g1, g2⟩ := K.back ha
        obtain ⟨g3, g4, g5⟩ := l_bytes n s qe r _ hb
        refine ⟨by rw [List.length_cons, g3], fun y hy => ?_, ?_⟩
        · rcases List.mem_cons.1 hy with rfl | hy
          · exact g1
          · exact g4 y hy
        · rw [g2, g5, cat, L_app, List.append_assoc]
/-- How many, and the things. -/
def part (l : List α) : ByteArray := bytesOf l.length ++ K.cat l
def isPart (most : Int) (s : ByteArray) (p : Nat) (bad : Bool) : Option (List α × Nat) := (isCount s p bad most).bind fun c => K.isL s c.1.toNat c.2
theorem part_there (most : Int) (hm : most ≤ 1000) (l : List α) (A Z : ByteArray) (hl : (l.length : Int) ≤ most) (h : ∀ x ∈ l, K.ok x = true) : K.isPart most (A ++ (K.part l ++ Z)) A.size false = some (l, A.size + (K.part l).size) := by
  have h1 := num_atR (A ++ (K.part l ++ Z)) A (K.cat l ++ Z) l.length A.size (by unfold part; simp only [ByteArray.append_assoc]) rfl (by unfold i64; omega)
  have h2 : isCount (A ++ (K.part l ++ Z)) A.size false most = some ((l.length : Int), A.size + (bytesOf l.length).size) := by
    unfold isCount; rw [h1]; dsimp only; rw [if_pos (by omega)]
  unfold isPart
  rw [h2, Option.bind_some]
  have h3 := K.l_there l (A ++ bytesOf l.length) Z h
  rw [ByteArray.append_assoc, ByteArray.size_append] at h3
  rw [show A ++ (K.part l ++ Z) = A ++ (bytesOf l.length ++ (K.cat l ++ Z)) by unfold part; simp only [ByteArray.append_assoc]]
  dsimp only
  rw [show ((l.length : Int)).toNat = l.length from rfl, h3]
  unfold part
  rw [ByteArray.size_append, Nat.add_assoc]
theorem part_bytes {most : Int} {s : ByteArray} {p : Nat} {bad : Bool} {l : List α} {q : Nat} (h : K.isPart most s p bad = some (l, q)) : (l.length : Int) ≤ most ∧ (∀ x ∈ l, K.ok x = true) ∧ (L s).drop p = L (K.part l) ++ (L s).drop q := by
  unfold isPart at h
  cases hc : isCount s p bad most with
  | none => rw [hc] at h; cases h
  | some c =>
    obtain ⟨c, qc⟩ := c
    rw [hc, Option.bind_some] at h
    dsimp only at h
    obtain ⟨g1, g2, g3⟩ := K.l_bytes _ _ _ _ _ h
    obtain ⟨h1, h2, h3⟩ := isCount_some hc
    have e : c = (l.length : Int) := by omega
    subst e
    refine ⟨h3, g2, ?_⟩
    rw [num_bytesR h1, g3, part, L_app, List.append_assoc]
end Kd
theorem Kd.cat_take_le {α : Type} (K : Kd α) (l : List α) : ∀ k, (K.cat (l.take k)).size ≤ (K.cat l).size := by
  induction l with
  | nil => intro k; simp
  | cons x l ih =>
    intro k
    cases k with
    | zero => exact Nat.zero_le _
    | succ k => rw [List.take_succ_cons, Kd.cat, Kd.cat, ByteArray.size_append, ByteArray.size_append]; have := ih k; omega
theorem Kd.item_le {α : Type} (K : Kd α) (l : List α) (k : Nat) (h : k < l.length) : (K.cat (l.take k)).size + (K.b l[k]).size ≤ (K.cat l).size := by
  have h1 := K.cat_take_le l (k + 1)
  rw [K.cat_next l k h, ByteArray.size_append] at h1
  exact h1
def tStepF (most : Int) (s : ByteArray) (p : Nat) (bad : Bool) (v : ByteArray) (q : Nat) (bad' : Bool) : Prop := (isText s p bad most = some (v, q) ∧ bad' = false) ∨ (isText s p bad most = none ∧ v = ⟨#[]⟩ ∧ bad' = true)
def cStepF (most : Int) (s : ByteArray) (p : Nat) (bad : Bool) (v : Nat) (q : Nat) (bad' : Bool) : Prop := (isCount s p bad most = some ((v : Int), q) ∧ bad' = false) ∨ (isCount s p bad most = none ∧ v = 0 ∧ bad' = true)
theorem isCount_badF (s : ByteArray) (p : Nat) (m : Int) : isCount s p true m = none := rfl
/-- A list that is read: there, or it went wrong. -/
def pStep {α : Type} (K : Kd α) (most : Int) (s : ByteArray) (p : Nat) (bad : Bool) (l : List α) (q : Nat) (bd : Bool) : Prop := (K.isPart most s p bad = some (l, q) ∧ bd = false) ∨ (K.isPart most s p bad = none ∧ bd = true)
/-- Behind some of n. -/
def pAt {α : Type} (K : Kd α) (most : Int) (s : ByteArray) (p : Nat) (bad : Bool) (n : Nat) (l : List α) (q : Nat) (bd : Bool) : Prop := (bd = false ∧ ∃ qc, isCount s p bad most = some ((n : Int), qc) ∧ K.isL s l.length qc = some (l, q)) ∨ (bd = true ∧ K.isPart most s p bad = none)
section
variable {α : Type} {K : Kd α} {most : Int} {s : ByteArray} {p : Nat} {bad : Bool} {n : Nat} {l : List α} {q : Nat} {bd : Bool}
theorem pAt.start (h : cStepF most s p bad n q bd) : pAt K most s p bad n [] q bd := by
  rcases h with ⟨h, rfl⟩ | ⟨h, _, rfl⟩
  · exact Or.inl ⟨rfl, q, h, rfl⟩
  · refine Or.inr ⟨rfl, ?_⟩
    unfold Kd.isPart; rw [h]; rfl
theorem pAt.next {x : α} {q' : Nat} {b' : Bool} (h : pAt K most s p bad n l q false) (hj : l.length < n) (hx : (K.is s q false = some (x, q') ∧ b' = false) ∨ (K.is s q false = none ∧ b' = true)) : pAt K most s p bad n (l ++ [x]) q' b' := by
  rcases h with ⟨_, qc, h1, h2⟩ | ⟨h, _⟩
  · rcases hx with ⟨hx, rfl⟩ | ⟨hx, rfl⟩
    · refine Or.inl ⟨rfl, qc, h1, ?_⟩
      rw [List.length_append, List.length_singleton, K.isL_next, h2, Option.bind_some, hx, Option.bind_some]
    · refine Or.inr ⟨rfl, ?_⟩
      have h4 : K.isL s (l.length + 1) qc = none := by rw [K.isL_next, h2, Option.bind_some, hx]; rfl
      have h5 := K.isL_none s qc (l.length + 1) h4 (n - (l.length + 1))
      rw [show l.length + 1 + (n - (l.length + 1)) = n by omega] at h5
      unfold Kd.isPart
      rw [h1, Option.bind_some]
      exact h5
  · cases h
theorem pAt.good (h : pAt K most s p bad n l q false) (hj : ¬ l.length < n) (hl : l.length ≤ n) : pStep K most s p bad l q false := by
  rcases h with ⟨_, qc, h1, h2⟩ | ⟨h, _⟩
  · obtain rfl : l.length = n := by omega
    refine Or.inl ⟨?_, rfl⟩
    unfold Kd.isPart
    rw [h1, Option.bind_some]
    exact h2
  · cases h
theorem pAt.ill (h : pAt K most s p bad n l q true) : pStep K most s p bad l q true := by
  rcases h with ⟨h, _⟩ | ⟨_, h⟩
  · cases h
  · exact Or.inr ⟨h, rfl⟩
end
end Go.Proofs.YtfpgfclmmdihjaaGreat

/- The plain mathematics of the sum: one step of a bit is linear and loses nothing; four steps are one look into the table; four bytes side by side that turn, turn the sum. -/
namespace Go.Proofs.YtfpgfclmmdihjaaGreat.Crc

def P : BitVec 32 := 0xedb88320#32
/-- One step of a bit. -/
def T (x : BitVec 32) : BitVec 32 := if x.getLsbD 0 then (x >>> 1) ^^^ P else x >>> 1
/-- n steps. -/
def Tn : Nat → BitVec 32 → BitVec 32
  | 0, x => x
  | n + 1, x => Tn n (T x)

theorem xor_four (a b c d : BitVec 32) : (a ^^^ b) ^^^ (c ^^^ d) = (a ^^^ c) ^^^ (b ^^^ d) := by
  rw [BitVec.xor_assoc, BitVec.xor_assoc, ← BitVec.xor_assoc b c d, BitVec.xor_comm b c, BitVec.xor_assoc]

theorem T_xor (x y : BitVec 32) : T (x ^^^ y) = T x ^^^ T y := by
  unfold T
  rw [BitVec.getLsbD_xor, BitVec.ushiftRight_xor_distrib]
  cases x.getLsbD 0 <;> cases y.getLsbD 0
  · simp
  · simp [BitVec.xor_assoc]
  · simp [BitVec.xor_assoc, BitVec.xor_comm P]
  · simp only [Bool.xor_self, if_true]
    rw [xor_four, BitVec.xor_self, BitVec.xor_zero]; rfl

theorem Tn_xor (n : Nat) : ∀ x y : BitVec 32, Tn n (x ^^^ y) = Tn n x ^^^ Tn n y := by
  induction n with
  | zero => intro x y; rfl
  | succ n ih => intro x y; simp only [Tn]; rw [T_xor, ih]

theorem Tn_add (m n : Nat) (x : BitVec 32) : Tn (m + n) x = Tn n (Tn m x) := by
  induction m generalizing x with
  | zero => simp [Tn]
  | succ m ih => rw [Nat.succ_add]; simp only [Tn]; exact ih _

theorem T_eq_zero {x : BitVec 32} (h : T x = 0#32) : x = 0#32 := by
  unfold T at h
  by_cases hb : x.getLsbD 0 = true
  · rw [if_pos hb] at h
    have h31 := congrArg (·.getLsbD 31) h
    simp [P, BitVec.getLsbD_ushiftRight] at h31
  · rw [if_neg hb] at h
    apply BitVec.eq_of_getLsbD_eq
    intro i hi
    rcases i with _ | i
    · simpa using hb
    · have := congrArg (·.getLsbD i) h
      simp [BitVec.getLsbD_ushiftRight] at this
      rw [Nat.add_comm] at this
      simpa using this

theorem Tn_eq_zero {n : Nat} : ∀ {x : BitVec 32}, Tn n x = 0#32 → x = 0#32 := by
  induction n with
  | zero => intro x h; exact h
  | succ n ih => intro x h; exact T_eq_zero (ih h)

theorem Tn_inj {n : Nat} {x y : BitVec 32} (h : Tn n x = Tn n y) : x = y := by
  have h2 : Tn n (x ^^^ y) = 0#32 := by rw [Tn_xor, h, BitVec.xor_self]
  exact BitVec.xor_eq_zero_iff.1 (Tn_eq_zero h2)

/-- Low bits that are nought go out without a trace. -/
theorem Tn_shift (n : Nat) (x : BitVec 32) (h : ∀ i, i < n → x.getLsbD i = false) : Tn n x = x >>> n := by
  induction n generalizing x with
  | zero => simp [Tn]
  | succ n ih =>
    simp only [Tn]
    have e : T x = x >>> 1 := by
      have h0 := h 0 (by omega)
      unfold T; rw [h0]; rfl
    rw [e, ih _ (fun i hi => by rw [BitVec.getLsbD_ushiftRight]; exact h _ (by omega))]
    rw [← BitVec.shiftRight_add, Nat.add_comm]

/-- The table. -/
def tab (k : Nat) : BitVec 32 := Tn 4 (BitVec.ofNat 32 k)

theorem split4 (x : BitVec 32) : x = ((x >>> 4) <<< 4) ^^^ BitVec.ofNat 32 (x.toNat % 16) := by
  apply BitVec.eq_of_getLsbD_eq
  intro i hi
  rw [BitVec.getLsbD_xor, BitVec.getLsbD_shiftLeft, BitVec.getLsbD_ushiftRight, BitVec.getLsbD_ofNat]
  have e : (x.toNat % 16).testBit i = (decide (i < 4) && x.getLsbD i) := by
    rw [show (16 : Nat) = 2 ^ 4 from rfl, Nat.testBit_mod_two_pow, BitVec.testBit_toNat]
  rw [e]
  by_cases h4 : i < 4
  · simp [h4, hi]
  · have : 4 + (i - 4) = i := by omega
    simp [h4, hi, this]

theorem Tn4 (x : BitVec 32) : Tn 4 x = (x >>> 4) ^^^ tab (x.toNat % 16) := by
  have h := congrArg (Tn 4) (split4 x)
  rw [Tn_xor, Tn_shift 4 ((x >>> 4) <<< 4) (fun i hi => by rw [BitVec.getLsbD_shiftLeft]; simp [hi])] at h
  rw [h]
  congr 1
  apply BitVec.eq_of_getLsbD_eq
  intro i hi
  rw [BitVec.getLsbD_ushiftRight, BitVec.getLsbD_shiftLeft, BitVec.getLsbD_ushiftRight]
  by_cases h4 : 4 + i < 32
  · have : 4 + i - 4 = i := by omega
    simp [h4, this]
  · simp [h4, BitVec.getLsbD_of_ge x (4 + i) (by omega)]

/-- One byte more. -/
def up (n : BitVec 32) (b : UInt8) : BitVec 32 := Tn 8 (n ^^^ BitVec.ofNat 32 b.toNat)
def run (n : BitVec 32) (l : List UInt8) : BitVec 32 := l.foldl up n
def sumOf (l : List UInt8) : BitVec 32 := ~~~ (run (BitVec.allOnes 32) l)

theorem run_nil (n : BitVec 32) : run n [] = n := rfl
theorem run_cons (n : BitVec 32) (b : UInt8) (l : List UInt8) : run n (b :: l) = run (up n b) l := rfl
theorem run_append (n : BitVec 32) (l r : List UInt8) : run n (l ++ r) = run (run n l) r := by unfold run; rw [List.foldl_append]
theorem run_snoc (n : BitVec 32) (l : List UInt8) (b : UInt8) : run n (l ++ [b]) = up (run n l) b := by rw [run_append]; rfl

theorem ofNat_xor_u8 (a b : UInt8) : BitVec.ofNat 32 (a ^^^ b).toNat = BitVec.ofNat 32 a.toNat ^^^ BitVec.ofNat 32 b.toNat := by
  apply BitVec.eq_of_getLsbD_eq
  intro i hi
  rw [BitVec.getLsbD_xor, BitVec.getLsbD_ofNat, BitVec.getLsbD_ofNat, BitVec.getLsbD_ofNat, UInt8.toNat_xor, Nat.testBit_xor]
  simp [hi]

theorem up_xor (x y : BitVec 32) (a b : UInt8) : up (x ^^^ y) (a ^^^ b) = up x a ^^^ up y b := by
  unfold up
  rw [← Tn_xor, ofNat_xor_u8, xor_four]

theorem run_zip : ∀ (A M : List UInt8) (x y : BitVec 32), A.length = M.length → run (x ^^^ y) (List.zipWith (· ^^^ ·) A M) = run x A ^^^ run y M
  | [], [], _, _, _ => rfl
  | [], _ :: _, _, _, h => by simp at h
  | _ :: _, [], _, _, h => by simp at h
  | a :: A, m :: M, x, y, h => by
    simp only [List.zipWith_cons_cons, run_cons]
    rw [up_xor]
    exact run_zip A M _ _ (by simpa using h)

theorem run_inj : ∀ (l : List UInt8) (x y : BitVec 32), run x l = run y l → x = y
  | [], _, _, h => h
  | b :: l, x, y, h => by
    have h2 := run_inj l _ _ h
    have h3 := Tn_inj h2
    have h4 : (x ^^^ BitVec.ofNat 32 b.toNat) ^^^ BitVec.ofNat 32 b.toNat = (y ^^^ BitVec.ofNat 32 b.toNat) ^^^ BitVec.ofNat 32 b.toNat := by rw [h3]
    rwa [BitVec.xor_assoc, BitVec.xor_assoc, BitVec.xor_self, BitVec.xor_zero, BitVec.xor_zero] at h4

/-- Masks as one number, the first the lowest. -/
def val : List UInt8 → Nat
  | [] => 0
  | m :: l => m.toNat + 256 * val l

theorem val_lt : ∀ l : List UInt8, val l < 256 ^ l.length
  | [] => by decide
  | m :: l => by
    have h := val_lt l
    have hm : m.toNat < 256 := m.toNat_lt
    simp only [val, List.length_cons, Nat.pow_succ]
    omega

theorem val_zero : ∀ {l : List UInt8}, val l = 0 → ∀ m ∈ l, m = 0
  | [], _, m, hm => by cases hm
  | a :: l, h, m, hm => by
    simp only [val] at h
    have h1 : a.toNat = 0 := by omega
    have h2 : val l = 0 := by omega
    rcases List.mem_cons.1 hm with rfl | hm
    · exact UInt8.toNat_inj.1 (by simpa using h1)
    · exact val_zero h2 m hm

theorem join8 (m v : Nat) (hm : m < 256) : BitVec.ofNat 32 m ^^^ BitVec.ofNat 32 (256 * v) = BitVec.ofNat 32 (m + 256 * v) := by
  apply BitVec.eq_of_getLsbD_eq
  intro i hi
  rw [BitVec.getLsbD_xor, BitVec.getLsbD_ofNat, BitVec.getLsbD_ofNat, BitVec.getLsbD_ofNat]
  have e : m + 256 * v = 2 ^ 8 * v + m := by omega
  have e2 : 256 * v = 2 ^ 8 * v := by omega
  rw [e, e2, Nat.testBit_two_pow_mul_add v (by simpa using hm) i, Nat.testBit_two_pow_mul]
  by_cases h8 : i < 8
  · simp [hi, h8, show ¬ 8 ≤ i from by omega]
  · have : m.testBit i = false := Nat.testBit_lt_two_pow (Nat.lt_of_lt_of_le (show m < 2 ^ 8 by simpa using hm) (Nat.pow_le_pow_right (by decide) (by omega)))
    simp [hi, h8, this, show 8 ≤ i from by omega]

theorem shift8 (v : Nat) (hv : v < 16777216) : Tn 8 (BitVec.ofNat 32 (256 * v)) = BitVec.ofNat 32 v := by
  rw [Tn_shift]
  · apply BitVec.eq_of_toNat_eq
    rw [BitVec.toNat_ushiftRight, BitVec.toNat_ofNat, BitVec.toNat_ofNat, Nat.shiftRight_eq_div_pow]
    omega
  · intro i hi
    rw [BitVec.getLsbD_ofNat, show 256 * v = 2 ^ 8 * v from by omega, Nat.testBit_two_pow_mul]
    simp [show ¬ 8 ≤ i from by omega]

theorem run_masks : ∀ (M : List UInt8) (x : BitVec 32), M.length ≤ 4 → run x M = Tn (8 * M.length) (x ^^^ BitVec.ofNat 32 (val M))
  | [], x, _ => by simp [run, Tn, val]
  | m :: l, x, h => by
    have hl : l.length ≤ 3 := by simpa using h
    have hv := val_lt l
    have hp : 256 ^ l.length ≤ 256 ^ 3 := Nat.pow_le_pow_right (by decide) hl
    have hv2 : val l < 16777216 := by omega
    rw [run_cons, run_masks l _ (by omega)]
    unfold up
    rw [← shift8 (val l) hv2, ← Tn_xor, BitVec.xor_assoc, join8 _ _ m.toNat_lt, ← Tn_add, List.length_cons, show 8 * (l.length + 1) = 8 + 8 * l.length from by omega]
    rfl

theorem run_masks_zero {M : List UInt8} (h : M.length ≤ 4) (h0 : run 0#32 M = 0#32) : ∀ m ∈ M, m = 0 := by
  rw [run_masks M _ h, BitVec.zero_xor] at h0
  have h1 := congrArg BitVec.toNat (Tn_eq_zero h0)
  have hv := val_lt M
  have hp : 256 ^ M.length ≤ 256 ^ 4 := Nat.pow_le_pow_right (by decide) h
  rw [BitVec.toNat_ofNat] at h1
  simp at h1
  exact val_zero (by omega)

/-- UP TO FOUR BYTES SIDE BY SIDE THAT TURN, TURN THE SUM. -/
theorem sum_turned (A B M C : List UInt8) (hl : B.length = M.length) (hM : M.length ≤ 4) (h : sumOf (A ++ (List.zipWith (· ^^^ ·) B M ++ C)) = sumOf (A ++ (B ++ C))) : ∀ m ∈ M, m = 0 := by
  unfold sumOf at h
  have h1 := congrArg (~~~ ·) h
  simp only [BitVec.not_not] at h1
  rw [run_append, run_append, run_append, run_append] at h1
  have h2 := run_inj _ _ _ h1
  have h3 := run_zip B M (run (BitVec.allOnes 32) A) 0#32 hl
  rw [BitVec.xor_zero, h2] at h3
  have h4 : run (run (BitVec.allOnes 32) A) B ^^^ (run (run (BitVec.allOnes 32) A) B ^^^ run 0#32 M) = 0#32 := by rw [← h3, BitVec.xor_self]
  rw [← BitVec.xor_assoc, BitVec.xor_self, BitVec.zero_xor] at h4
  exact run_masks_zero hM h4

theorem zip_zero : ∀ (B M : List UInt8), B.length = M.length → (∀ m ∈ M, m = 0) → List.zipWith (· ^^^ ·) B M = B
  | [], [], _, _ => rfl
  | [], _ :: _, h, _ => by simp at h
  | _ :: _, [], h, _ => by simp at h
  | b :: B, m :: M, h, hz => by
    have e : m = 0 := hz m (by simp)
    subst e
    rw [List.zipWith_cons_cons, zip_zero B M (by simpa using h) (fun x hx => hz x (by simp [hx]))]
    simp

end Go.Proofs.YtfpgfclmmdihjaaGreat.Crc

/- What Sum gives. -/
namespace Go.Proofs.YtfpgfclmmdihjaaGreat.Crk
open Go.RowKit Crc

theorem xorU (x y : BitVec 32) : bits .xor .u32 (x.toNat : Int) (y.toNat : Int) = ((x ^^^ y).toNat : Int) := by
  rw [u32_xor_nat _ _ x.isLt y.isLt, BitVec.toNat_xor]

theorem notU (x : BitVec 32) : bits .xor .u32 IntKind.u32.max (x.toNat : Int) = ((~~~x).toNat : Int) := by
  have h := xorU (BitVec.allOnes 32) x
  rw [BitVec.allOnes_xor] at h
  exact h

theorem byteU (b : UInt8) : (b.toNat : Int) % 4294967296 = ((BitVec.ofNat 32 b.toNat).toNat : Int) := by
  have := b.toNat_lt
  rw [BitVec.toNat_ofNat]; omega

/-- The table lies where it is read. -/
def Laid (w : World) : Prop := 0 < w.heap.size ∧ ∀ k : Nat, k < 16 → w.cell? ⟨0, k, none⟩ = some (.int .u32 (tab k).toNat)

/-- One look into the table. -/
theorem look (w : World) (hL : Laid w) (m : BitVec 32) : ∃ (i : Nat) (q t m' : BitVec 32), i < 16 ∧ bits .and .u32 (m.toNat : Int) 15 = (i : Int) ∧ (m.toNat : Int) / 16 = (q.toNat : Int) ∧
    w.cell? ⟨0, i, none⟩ = some (.int .u32 t.toNat) ∧ bits .xor .u32 (q.toNat : Int) (t.toNat : Int) = (m'.toNat : Int) ∧ m' = Tn 4 m := by
  refine ⟨m.toNat % 16, m >>> 4, tab (m.toNat % 16), _, by omega, ?_, ?_, hL.2 _ (by omega), xorU _ _, ?_⟩
  · have h := u32_and_nat m.toNat 15 m.isLt (by decide)
    rw [nat_mask4] at h
    exact h
  · rw [BitVec.toNat_ushiftRight, Nat.shiftRight_eq_div_pow]; omega
  · rw [Tn4]

theorem take_snoc (s : ByteArray) (k : Nat) (h : k < s.size) : s.data.toList.take (k + 1) = s.data.toList.take k ++ [s[k]] := by
  rw [List.take_succ_eq_append_getElem (by simpa using h)]; rfl

/-- The state behind k bytes. -/
def st (s : ByteArray) (k : Nat) : BitVec 32 := run (BitVec.allOnes 32) (s.data.toList.take k)
theorem st_succ (s : ByteArray) (k : Nat) (h : k < s.size) : st s (k + 1) = Tn 4 (Tn 4 (st s k ^^^ BitVec.ofNat 32 s[k].toNat)) := by
  unfold st; rw [take_snoc s k h, run_snoc, ← Tn_add]; rfl
theorem st_end (s : ByteArray) : ~~~ (st s s.size) = sumOf s.data.toList := by
  unfold st sumOf; rw [List.take_of_length_le (by simp)]

theorem ret_int {k : IntKind} {a b : Int} (h : a = b) : Ending.returned (.int k a) = .returned (.int k b) := by rw [h]
theorem val_of {k : IntKind} {x y : BitVec 32} (h : x = y) : Value.int k x.toNat = .int k y.toNat := by rw [h]

end Go.Proofs.YtfpgfclmmdihjaaGreat.Crk

/- What the document's Sum gives; number and Four, of both. -/
namespace Go.Proofs.YtfpgfclmmdihjaaGreat.Crk
open Go.RowKit Crc

theorem Tn_succ (j : Nat) (x : BitVec 32) : Tn (j + 1) x = T (Tn j x) := by rw [Tn_add]; rfl

/-- One step of a bit, as the document's answer goes. -/
theorem bit1 (m : BitVec 32) : (∃ q m' : BitVec 32, bits .and .u32 (m.toNat : Int) 1 = 1 ∧ (m.toNat : Int) / 2 = (q.toNat : Int) ∧ bits .xor .u32 (q.toNat : Int) 3988292384 = (m'.toNat : Int) ∧ m' = T m) ∨
    (∃ m' : BitVec 32, bits .and .u32 (m.toNat : Int) 1 = 0 ∧ (m.toNat : Int) / 2 = (m'.toNat : Int) ∧ m' = T m) := by
  have ha : bits .and .u32 (m.toNat : Int) 1 = ((m.toNat % 2 : Nat) : Int) := by
    have h := u32_and_nat m.toNat 1 m.isLt (by decide)
    rw [nat_mask1] at h
    exact h
  have hd : (m.toNat : Int) / 2 = ((m >>> 1).toNat : Int) := by
    rw [BitVec.toNat_ushiftRight, Nat.shiftRight_eq_div_pow]; omega
  have hb : m.getLsbD 0 = decide (m.toNat % 2 = 1) := by
    rw [← BitVec.testBit_toNat, Nat.testBit_zero]
  by_cases h : m.toNat % 2 = 1
  · refine Or.inl ⟨_, _, by rw [ha, h]; rfl, hd, xorU _ P, ?_⟩
    unfold T; rw [if_pos (by rw [hb]; simp [h])]
  · have h0 : m.toNat % 2 = 0 := by omega
    refine Or.inr ⟨_, by rw [ha, h0]; rfl, hd, ?_⟩
    unfold T; rw [if_neg (by rw [hb]; simp [h])]

end Go.Proofs.YtfpgfclmmdihjaaGreat.Crk

/- number and Four, of both. -/
namespace Go.Proofs.YtfpgfclmmdihjaaGreat.Crk
open Go.RowKit Crc

/-- The number of four bytes, the lowest first. -/
def num (s : ByteArray) : Nat := (s.data.toList.getD 0 0).toNat + 256 * (s.data.toList.getD 1 0).toNat + 65536 * (s.data.toList.getD 2 0).toNat + 16777216 * (s.data.toList.getD 3 0).toNat
theorem num_lt (s : ByteArray) : num s < 4294967296 := by
  unfold num
  have h0 := (s.data.toList.getD 0 0).toNat_lt
  have h1 := (s.data.toList.getD 1 0).toNat_lt
  have h2 := (s.data.toList.getD 2 0).toNat_lt
  have h3 := (s.data.toList.getD 3 0).toNat_lt
  omega
theorem getD_at (s : ByteArray) (i : Nat) (h : i < s.size) : s.data.toList.getD i 0 = s[i] := by
  have h2 : i < s.data.toList.length := by simpa using h
  rw [List.getD_eq_getElem?_getD, List.getElem?_eq_getElem h2]; rfl

theorem or_join (i : Nat) (x y : Nat) (hx : x < 2 ^ i) (hx2 : x < 4294967296) (hy : 2 ^ i * y < 4294967296) : bits .or .u32 (x : Int) ((2 ^ i * y : Nat) : Int) = ((x + 2 ^ i * y : Nat) : Int) := by
  rw [u32_or_nat _ _ hx2 hy, Nat.or_comm, ← Nat.two_pow_add_eq_or_of_lt hx y, Nat.add_comm]

theorem num_eqs (s : ByteArray) (hs : 4 ≤ s.size) : ∃ b0 b1 b2 b3 c1 c2 c3 o1 o2 : Nat,
    IntKind.u32.wrap (s[0].toNat : Int) = (b0 : Int) ∧ IntKind.u32.wrap (s[1].toNat : Int) = (b1 : Int) ∧ IntKind.u32.wrap (s[2].toNat : Int) = (b2 : Int) ∧ IntKind.u32.wrap (s[3].toNat : Int) = (b3 : Int) ∧
    IntKind.u32.wrap ((b1 : Int) * 256) = (c1 : Int) ∧ IntKind.u32.wrap ((b2 : Int) * 65536) = (c2 : Int) ∧ IntKind.u32.wrap ((b3 : Int) * 16777216) = (c3 : Int) ∧
    bits .or .u32 (b0 : Int) (c1 : Int) = (o1 : Int) ∧ bits .or .u32 (o1 : Int) (c2 : Int) = (o2 : Int) ∧ bits .or .u32 (o2 : Int) (c3 : Int) = (num s : Int) := by
  have h0 := s[0].toNat_lt
  have h1 := s[1].toNat_lt
  have h2 := s[2].toNat_lt
  have h3 := s[3].toNat_lt
  refine ⟨s[0].toNat, s[1].toNat, s[2].toNat, s[3].toNat, 2 ^ 8 * s[1].toNat, 2 ^ 16 * s[2].toNat, 2 ^ 24 * s[3].toNat, s[0].toNat + 2 ^ 8 * s[1].toNat, s[0].toNat + 2 ^ 8 * s[1].toNat + 2 ^ 16 * s[2].toNat, ?_, ?_, ?_, ?_, ?_, ?_, ?_, ?_, ?_, ?_⟩
  · exact IntWalk.u32_in _ (by omega)
  · exact IntWalk.u32_in _ (by omega)
  · exact IntWalk.u32_in _ (by omega)
  · exact IntWalk.u32_in _ (by omega)
  · rw [IntWalk.u32_in _ (by omega)]; simp; omega
  · rw [IntWalk.u32_in _ (by omega)]; simp; omega
  · rw [IntWalk.u32_in _ (by omega)]; simp; omega
  · exact or_join 8 _ _ (by omega) (by omega) (by omega)
  · exact or_join 16 _ _ (by omega) (by omega) (by omega)
  · rw [or_join 24 _ _ (by omega) (by omega) (by omega)]
    unfold num
    rw [getD_at s 0 (by omega), getD_at s 1 (by omega), getD_at s 2 (by omega), getD_at s 3 (by omega)]

/-- A number in four bytes. -/
def fourL (n : Nat) : List UInt8 := [UInt8.ofNat (n % 256), UInt8.ofNat (n / 256 % 256), UInt8.ofNat (n / 65536 % 256), UInt8.ofNat (n / 16777216)]
def four (n : Nat) : ByteArray := ⟨(fourL n).toArray⟩
theorem four_size (n : Nat) : (four n).size = 4 := rfl

theorem four_conv (b0 b1 b2 b3 : UInt8) (w : World) :
    (convert 71 9 (.slice (some ⟨w.heap.size, 0, none⟩) 4 4)).run Tryz.prog (w.alloc (.cells #[.int .u8 b0.toNat, .int .u8 b1.toNat, .int .u8 b2.toNat, .int .u8 b3.toNat] 5)) =
      .ok (.string ⟨#[b0, b1, b2, b3]⟩) (w.alloc (.cells #[.int .u8 b0.toNat, .int .u8 b1.toNat, .int .u8 b2.toNat, .int .u8 b3.toNat] 5)) := by
  refine run_convert_bytes_back (P := Tryz.prog) _ 71 9 5 ⟨w.heap.size, 0, none⟩ 4 [b0, b1, b2, b3] Tryz.underlying71 Tryz.underlying5 Tryz.underlying9 ?_
  intro j hj
  match j, hj with
  | 0, _ => simp [Addr.add]
  | 1, _ => simp [Addr.add]
  | 2, _ => simp [Addr.add]
  | 3, _ => simp [Addr.add]

theorem ofNat_val (n : Nat) (h : n < 256) : ((UInt8.ofNat n).toNat : Int) = n := by
  rw [UInt8.toNat_ofNat']; omega

theorem four_eqs (n : Nat) (hn : n < 4294967296) : ∃ b0 b1 b2 b3 : UInt8, (n : Int) % 256 = (b0.toNat : Int) ∧ (n : Int) / 256 % 256 = (b1.toNat : Int) ∧ (n : Int) / 65536 % 256 = (b2.toNat : Int) ∧ (n : Int) / 16777216 = (b3.toNat : Int) ∧ four n = ⟨#[b0, b1, b2, b3]⟩ := by
  refine ⟨UInt8.ofNat (n % 256), UInt8.ofNat (n / 256 % 256), UInt8.ofNat (n / 65536 % 256), UInt8.ofNat (n / 16777216), ?_, ?_, ?_, ?_, rfl⟩
  · rw [ofNat_val _ (by omega)]; omega
  · rw [ofNat_val _ (by omega)]; omega
  · rw [ofNat_val _ (by omega)]; omega
  · rw [ofNat_val _ (by omega)]; omega

end Go.Proofs.YtfpgfclmmdihjaaGreat.Crk

/- Seal and Open, of both. -/
namespace Go.Proofs.YtfpgfclmmdihjaaGreat.Crk
open Go.RowKit Crc

/-- What was there reads as it did. -/
theorem bcell {W w1 : World} (hb : Below W.heap.size W w1) : (∀ b o, b < W.heap.size → w1.cell? ⟨b, o, none⟩ = W.cell? ⟨b, o, none⟩) ∧ (∀ b o, b < W.heap.size → w1.frozen? ⟨b, o, none⟩ = W.frozen? ⟨b, o, none⟩) :=
  ⟨fun b o h => hb.cell (p := ⟨b, o, none⟩) h, fun b o h => hb.frozen (p := ⟨b, o, none⟩) h⟩
theorem below_then {w w1 w2 : World} (h : Below w.heap.size w w1) (k : Below w1.heap.size w1 w2) : Below w.heap.size w w2 := h.trans (k.mono h.size)
theorem below_alloc {w w1 : World} (h : Below w.heap.size w w1) (o : Obj) : Below w.heap.size w (w1.alloc o) := h.alloc h.size o
theorem laid_below {w w1 : World} (h : Laid w) (k : Below w.heap.size w w1) : Laid w1 :=
  ⟨Nat.lt_of_lt_of_le h.1 k.size, fun i hi => by rw [(bcell k).1 _ _ h.1]; exact h.2 i hi⟩
theorem laid_drewN {w : World} (h : Laid w) (n : Nat) : Laid (w.drewN n) := h

def sumB (s : ByteArray) : Nat := (sumOf s.data.toList).toNat
theorem sumB_lt (s : ByteArray) : sumB s < 4294967296 := (sumOf s.data.toList).isLt
def sealOf (s : ByteArray) : ByteArray := four s.size ++ four (sumB s) ++ s

theorem quiet_same {f : FuncId} {args : Array Value} {w : World} {n : Nat} {v : Value}
    (h : Calls Tryz.prog f args (w.drewN n) fun e w' => e = .returned v ∧ w.drewN n = w') : Calls Tryz.prog f args (w.drewN n) fun e w'' => e = .returned v ∧ ∃ m, w'' = w.drewN m :=
  h.mono fun _ _ ⟨he, hm⟩ => ⟨he, n, hm.symm⟩

end Go.Proofs.YtfpgfclmmdihjaaGreat.Crk

/- Open of the document's answer; Open of both in one word each. -/
namespace Go.Proofs.YtfpgfclmmdihjaaGreat.Crk
open Go.RowKit Crc

/-- What may be behind the head. -/
def bodyOf (s : ByteArray) : ByteArray := s.extract 8 (8 + num s)
/-- Does it begin with a Seal? -/
def isSeal (s : ByteArray) : Bool := decide (8 ≤ s.size ∧ num s + 8 ≤ s.size ∧ sumB (bodyOf s) = num (s.extract 4 s.size))
def opT (s : ByteArray) : ByteArray := if isSeal s then bodyOf s else ⟨#[]⟩
def opC (s : ByteArray) : Int := if isSeal s then 8 + (num s : Int) else -1

theorem size_ext (s : ByteArray) (i j : Nat) (h : i ≤ j) (h2 : j ≤ s.size) : (s.extract i j).size + i = j := by
  rw [ByteArray.size_extract]; omega

end Go.Proofs.YtfpgfclmmdihjaaGreat.Crk
